import PyProof.Rows.All
import Wide.All
import OpenK.AllK
import Wide.FinOn
import HandS.ForMost
import HandS.Exc
import HandS.TryOnly
import HandS.ExcOwn
import HandS.WordsExc
import HandS.IsInst
import HandS.Wide
import HandS.Style
import PyProof.CollectStr
import PyProof.Rows.RuleB_pow
import HandS.Codes
import HandS.ExcInit
import HandS.ExcField
import HandS.Property
import HandS.Defaults
import PyProof.TupleOfStr
import HandS.Star
import HandS.CallSlots
import HandS.Nested
import HandS.FromBytesMap
import KE.SortKeyHeap
import HandS.ExcValue
import KE.LtData
import PySem.Challenge.RW_betweenlists_k16_stories_turned
import HandS.Text
import KE.SortData
import PyProof.NeKinds
import KE.KDictPairs
import KE.KDictItemsList
import HandS.Dict
import HandS.Iter
import HandS.ListItems
import KE.KDictWalk
import HandS.TupSets
import HandS.SetBool
import KE.DataCmp
import OpenK.KMeth
import OpenK.KOps
import KE.KOpsOwn
import HandS.DictComp
import PyProof.DictMoreH
import KE.KDictSum
import KE.KDictCopyH
import HandS.Deep
import HandS.TupMul
import HandS.TryMany
import HandS.List
set_option Elab.async false
set_option linter.all false
set_option maxRecDepth 100000
set_option maxHeartbeats 4000000
namespace Bt
open PySem PySem.Spec PyProof.Rows L2
/-! ### heaps that grow, or that change at one place -/
/-- all but what stands at p is as it was -/
def But (p : Addr) (H H' : Hp) : Prop := ∀ b o, b ≠ p → H b = some o → H' b = some o
theorem But.refl {p : Addr} {H : Hp} : But p H H := fun _ _ _ h => h
theorem But.trans {p : Addr} {H H1 H2 : Hp} (a : But p H H1) (b : But p H1 H2) : But p H H2 := fun c o n h => b c o n (a c o n h)
theorem But.of {p : Addr} {H H' : Hp} (a : Same H H') : But p H H' := fun c o _ h => a c o h
theorem But.upd {p : Addr} {H : Hp} {o : HO} : But p H (upd H p o) := fun b u n h => by rw [upd_ne n]; exact h
theorem Same.new {H : Hp} {p : Addr} {o : HO} (h : H p = none) : Same H (upd H p o) := fun a u e => by
  rw [upd_ne (ne_of_none e h)]; exact e
theorem But.new {q p : Addr} {H : Hp} {o : HO} (h : H p = none) : But q H (L2.upd H p o) := But.of (Same.new h)
theorem But.free {p : Addr} {H H' : Hp} (e : But p H H') {l : Addr} (n : l ≠ p) (h : H' l = none) : H l = none := by
  cases q : H l with
  | none => rfl
  | some o =>
    rw [e l o n q] at h
    cases h
theorem sz {n : Nat} (h : n ≤ 100000) : n ≤ sizeLine := Nat.le_trans h (by decide)
theorem szlt {n : Nat} (h : n < 100000) : n < sizeLine := Nat.lt_of_lt_of_le h (by decide)

/-! ### operators, of several kinds at once -/
section
variable {X : Cx}
def rAddStr : R2 := fun x y H Q => ∃ i j, x = .str i ∧ y = .str j ∧ i.length + j.length ≤ sizeLine ∧ Q (.str (i ++ j)) H
def rAddU : R2 := fun x y H Q => rI0 (fun i j => .int (i + j)) x y H Q ∨ (rAddStr x y H Q ∨ rCat x y H Q)
theorem op_addU : OpR X (binaryOp .Add) rAddU := OpR.or op_add (OpR.or op_add_str op_cat)
def rSub : R2 := rI0 fun i j => .int (i - j)
theorem op_subU : OpR X (binaryOp .Sub) rSub := op_sub
def rMod : R2 := rI (fun _ j => 0 < j) fun i j => .int (i % j)
theorem op_modU : OpR X (binaryOp .Mod) rMod := op_mod
def rFdiv : R2 := rI CDiv fun i j => .int (i / j)
theorem op_fdivU : OpR X (binaryOp .FloorDiv) rFdiv := op_fdiv
def rMulI : R2 := rI CMul fun i j => .int (i * j)
def rMulU : R2 := fun x y H Q => rMulI x y H Q ∨ (rI CMulW (fun i j => .int (i * j)) x y H Q ∨ rRep x y H Q)
theorem op_mulU : OpR X (binaryOp .Mult) rMulU := OpR.or op_mul (OpR.or op_mulW op_rep)
def rLtI : R2 := rI0 fun i j => .bl (decide (i < j))
def rLeI : R2 := rI0 fun i j => .bl (decide (i ≤ j))
def rGtI : R2 := rI0 fun i j => .bl (decide (j < i))
def rGeI : R2 := rI0 fun i j => .bl (decide (j ≤ i))
theorem op_ltI : OpR X (compareOp .Lt) rLtI := op_lt
theorem op_leI : OpR X (compareOp .LtE) rLeI := op_le
theorem op_gtI : OpR X (compareOp .Gt) rGtI := op_gt
theorem op_geI : OpR X (compareOp .GtE) rGeI := op_ge
def rEqU (K : PySem.W.Frag) : R2 := fun x y H Q => rEq x y H Q ∨ rEqD K x y H Q
theorem op_eqU (hu : X.A.units + 64 < cLine) : OpR X (compareOp .Eq) (rEqU X.K) := OpR.or op_eq (op_eqD hu)
def rNeU (K : PySem.W.Frag) : R2 := fun x y H Q => rNe x y H Q ∨ rNeD K x y H Q
theorem op_neU (hu : X.A.units + 64 < cLine) : OpR X (compareOp .NotEq) (rNeU X.K) := OpR.or op_ne (op_neD hu)
end
section
variable {H : Hp} {Q : VK} {i j : Int} {x y : V} {σ : L2.St} {K : PySem.W.Frag}
theorem q_var {n : Nat} {v : V} (h : σ[n]? = some (some v)) (q : Q v H) : tVar n σ H Q := ⟨v, h, q⟩
theorem q_add (q : Q (.int (i + j)) H) : rAddU (.int i) (.int j) H Q := .inl ⟨i, j, rfl, rfl, q⟩
theorem q_addS {a b : Str} (h : a.length + b.length ≤ sizeLine) (q : Q (.str (a ++ b)) H) : rAddU (.str a) (.str b) H Q := .inr (.inl ⟨a, b, rfl, rfl, h, q⟩)
theorem q_cat {l b : Addr} {xs zs : List V} (hl : H l = some (.lst xs)) (hb : H b = some (.lst zs)) (hz : xs.length + zs.length ≤ sizeLine) (q : ∀ p H', H p = none → Same H H' → H' p = some (.lst (xs ++ zs)) → Q (.ref p) H') : rAddU (.ref l) (.ref b) H Q :=
  .inr (.inr ⟨l, b, xs, zs, rfl, rfl, hl, hb, hz, fun p n => q p _ n (Same.new n) upd_same⟩)
theorem q_sub (q : Q (.int (i - j)) H) : rSub (.int i) (.int j) H Q := ⟨i, j, rfl, rfl, q⟩
theorem q_mod (h : 0 < j) (q : Q (.int (i % j)) H) : rMod (.int i) (.int j) H Q := ⟨i, j, rfl, rfl, h, q⟩
theorem q_fdiv (h : 0 < j) (h2 : j < 1073741824) (q : Q (.int (i / j)) H) : rFdiv (.int i) (.int j) H Q := ⟨i, j, rfl, rfl, ⟨h, h2⟩, q⟩
theorem q_mulL (h : -(2 ^ 64) < i ∧ i < 2 ^ 64) (q : Q (.int (i * j)) H) : rMulU (.int i) (.int j) H Q := .inl ⟨i, j, rfl, rfl, .inl h, q⟩
theorem q_mulR (h : -(2 ^ 64) < j ∧ j < 2 ^ 64) (q : Q (.int (i * j)) H) : rMulU (.int i) (.int j) H Q := .inl ⟨i, j, rfl, rfl, .inr h, q⟩
theorem q_lt (q : Q (.bl (decide (i < j))) H) : rLtI (.int i) (.int j) H Q := ⟨i, j, rfl, rfl, q⟩
theorem q_le (q : Q (.bl (decide (i ≤ j))) H) : rLeI (.int i) (.int j) H Q := ⟨i, j, rfl, rfl, q⟩
theorem q_gt (q : Q (.bl (decide (j < i))) H) : rGtI (.int i) (.int j) H Q := ⟨i, j, rfl, rfl, q⟩
theorem q_ge (q : Q (.bl (decide (j ≤ i))) H) : rGeI (.int i) (.int j) H Q := ⟨i, j, rfl, rfl, q⟩
theorem q_eq (h : scal x y = true) (q : Q (.bl (decide (x = y))) H) : rEqU K x y H Q := .inl ⟨h, q⟩
theorem q_ne (h : scal x y = true) (q : Q (.bl (!decide (x = y))) H) : rNeU K x y H Q := .inl ⟨h, q⟩
theorem q_eqD {d e : PyData} (hd : Dp K H x d) (he : Dp K H y e) (sd : SeqAt.shaped d = true) (se : SeqAt.shaped e = true) (q : Q (.bl (PyData.eqv d e)) H) : rEqU K x y H Q := .inr ⟨d, e, hd, he, sd, se, q⟩
theorem q_neD {d e : PyData} (hd : Dp K H x d) (he : Dp K H y e) (sd : SeqAt.shaped d = true) (se : SeqAt.shaped e = true) (q : Q (.bl (!PyData.eqv d e)) H) : rNeU K x y H Q := .inr ⟨d, e, hd, he, sd, se, q⟩
theorem q_ixL {p : Addr} {xs : List V} {v : V} (h : SqL K H p xs) (ha : atI xs i = some v) (q : Q v H) : rIx K (.ref p) (.int i) H Q := .inl ⟨p, xs, i, v, rfl, rfl, h, ha, q⟩
theorem q_ixT {p : Addr} {xs : List V} {v : V} (h : SqT K H p xs) (ha : atI xs i = some v) (q : Q v H) : rIx K (.ref p) (.int i) H Q := .inr (.inl ⟨p, xs, i, v, rfl, rfl, h, ha, q⟩)
theorem q_ixS {z : Str} {c : Nat} (hz : z.length ≤ sizeLine) (ha : atI z.cps.toList i = some c) (q : Q (.str ⟨#[c]⟩) H) : rIx K (.str z) (.int i) H Q := .inr (.inr ⟨z, i, c, rfl, rfl, hz, ha, q⟩)
theorem q_test {b : Bool} {R : Bool → Prop} (q : R b) : ∃ k, V.bl b = .bl k ∧ R k := ⟨b, rfl, q⟩
end

/-- a display's new object -/
def rNewT (Q : VK) (xs : List V) (H : Hp) : Prop := xs.length ≤ sizeLine ∧ ∀ p, H p = none → Q (.ref p) (upd H p (.tup xs))
def rNewL (Q : VK) (xs : List V) (H : Hp) : Prop := xs.length ≤ sizeLine ∧ ∀ p, H p = none → Q (.ref p) (upd H p (.lst xs))
/-! ### steps: one lemma a word -/
section
variable {σ : L2.St} {H : Hp} {Q : VK} {R : Bool → Hp → Prop} {D : Ends} {ta tb tc te to : TE} {t u : TS} {c d : TT} {ts tr : TA} {r r' : R2} {g : TG} {K : PySem.W.Frag} {v : V} {n i : Nat}
theorem s_seq (h : t { D with nx := u D } σ H) : tSeq t u D σ H := h
theorem s_next (h : D.nx σ H) : tNext D σ H := h
theorem s_drop (h : te σ H fun _ H1 => D.nx σ H1) : tDrop te D σ H := h
theorem s_ret (h : te σ H D.rt) : tRet te D σ H := h
theorem s_retN (h : D.rt .non H) : tRetN D σ H := h
theorem s_ifS (h : c σ H fun b H1 => if b = true then t D σ H1 else u D σ H1) : tIfS c t u D σ H := h
theorem s_asg (h : te σ H fun x H1 => g x σ H1 D.nx) : tAsg te g D σ H := h
theorem s_gname {N : L2.St → Hp → Prop} (h : N (σ.set i (some v)) H) : gName i v σ H N := h
theorem s_var (h : σ[i]? = some (some v)) (q : Q v H) : tVar i σ H Q := ⟨v, h, q⟩
theorem s_c (q : Q v H) : tC v σ H Q := q
theorem s_op (h : ta σ H fun x H1 => tb σ H1 fun y H2 => r x y H2 Q) : tOp r ta tb σ H Q := h
theorem s_test (h : te σ H fun x H' => ∃ k, x = .bl k ∧ R k H') : tTest te σ H R := h
theorem s_B (h : te σ H fun x H' => ∃ k, x = .bl k ∧ R k H') : tB te σ H R := h
theorem s_andT (h : c σ H fun b H1 => if b = true then d σ H1 R else R false H1) : tAnd c d σ H R := h
theorem s_orT (h : c σ H fun b H1 => if b = true then R true H1 else d σ H1 R) : tOr c d σ H R := h
theorem s_notT (h : c σ H fun b H1 => R (!b) H1) : tNot c σ H R := h
theorem s_andV (h : ta σ H fun x H1 => ∃ c, x = .bl c ∧ if c = true then tb σ H1 Q else Q (.bl false) H1) : tAndV ta tb σ H Q := h
theorem s_orV (h : ta σ H fun x H1 => ∃ c, x = .bl c ∧ if c = true then Q (.bl true) H1 else tb σ H1 Q) : tOrV ta tb σ H Q := h
theorem s_notV (h : ta σ H fun x H1 => ∃ c, x = .bl c ∧ Q (.bl (!c)) H1) : tNotV ta σ H Q := h
theorem s_ifV (h : c σ H fun b H1 => if b = true then ta σ H1 Q else tb σ H1 Q) : tIf c ta tb σ H Q := h
theorem s_chain (h : ta σ H fun x H1 => tb σ H1 fun y H2 => r x y H2 fun z H3 => ∃ k, z = .bl k ∧ (if k = true then tc σ H3 fun w' H4 => r' y w' H4 Q else Q (.bl false) H3)) : tChain r r' ta tb tc σ H Q := h
theorem s_nil {R : List V → Hp → Prop} (q : R [] H) : tNil σ H R := q
theorem s_cons {R : List V → Hp → Prop} (h : te σ H fun x H1 => ts σ H1 fun xs H2 => R (x :: xs) H2) : tCons te ts σ H R := h
/-- a display: the new object by what is known of it -/
theorem s_tup (h : ts σ H fun xs H1 => rNewT Q xs H1) : tTup ts σ H Q := h
theorem s_lst (h : ts σ H fun xs H1 => rNewL Q xs H1) : tLst ts σ H Q := h
theorem q_newT {xs : List V} (hl : xs.length ≤ sizeLine) (q : ∀ p H', H p = none → Same H H' → H' p = some (.tup xs) → Q (.ref p) H') : rNewT Q xs H := ⟨hl, fun p n => q p _ n (Same.new n) upd_same⟩
theorem q_newL {xs : List V} (hl : xs.length ≤ sizeLine) (q : ∀ p H', H p = none → Same H H' → H' p = some (.lst xs) → Q (.ref p) H') : rNewL Q xs H := ⟨hl, fun p n => q p _ n (Same.new n) upd_same⟩
theorem new_by {o : HO} {R : Addr → Hp → Prop} (h : ∀ p H', H p = none → Same H H' → H' p = some o → R p H') : ∀ p, H p = none → R p (upd H p o) := fun p n => h p _ n (Same.new n) upd_same
theorem s_call {sp : Sp} {dvs : List V} {E : XK} (h : ts σ H fun vs H1 => sp (vs ++ dvs) H1 Q E) : tCall sp dvs E ts σ H Q := h
theorem s_CB {f : List V → Hp → VK → Prop} (h : ts σ H fun vs H1 => f vs H1 Q) : tCB f ts σ H Q := h
theorem s_BM {T : String} {f : V → List V → Hp → VK → Prop} (h : to σ H fun x H1 => tyV K T x H1 ∧ ts σ H1 fun xs H2 => f x xs H2 Q) : tBM K T f to ts σ H Q := h
theorem s_sl {f : V → Option Int → Option Int → Hp → VK → Prop} {tl th : TO} (h : te σ H fun x H1 => tl σ H1 fun l H2 => th σ H2 fun u H3 => f x l u H3 Q) : tSl f te tl th σ H Q := h
theorem s_noPart {R : Option Int → Hp → Prop} (q : R none H) : tNoPart σ H R := q
theorem s_part {R : Option Int → Hp → Prop} (h : te σ H fun x H1 => ∃ i, x = .int i ∧ R (some i) H1) : tPart te σ H R := h
theorem s_gsub {f : TSet} {N : L2.St → Hp → Prop} (h : to σ H fun o H1 => te σ H1 fun i H2 => f o i v H2 fun H3 => N σ H3) : gSub to te f v σ H N := h
theorem s_int {j : Int} {R : Int → Prop} (q : R j) : ∃ i, V.int j = .int i ∧ R i := ⟨j, rfl, q⟩
theorem s_ifT {A B : Prop} (h : A) : if true = true then A else B := by rw [if_pos rfl]; exact h
theorem s_ifF {A B : Prop} (h : B) : if false = true then A else B := by rw [if_neg Bool.false_ne_true]; exact h
theorem s_if {k : Bool} {A B : Prop} (h : k = true → A) (h' : k = false → B) : if k = true then A else B := by
  cases k with
  | true => exact s_ifT (h rfl)
  | false => exact s_ifF (h' rfl)
theorem q_setL {p : Addr} {xs : List V} {k : Int} {j : Nat} {R : Hp → Prop} (h : H p = some (.lst xs)) (hj : ixN xs.length k = some j) (q : R (upd H p (.lst (xs.set j v)))) : rSetL (.ref p) (.int k) v H R := ⟨p, xs, k, j, rfl, rfl, h, hj, q⟩
theorem s_if1 {k : Bool} {A B : Prop} (e : k = true) (h : A) : if k = true then A else B := by subst e; exact s_ifT h
theorem s_if0 {k : Bool} {A B : Prop} (e : k = false) (h : B) : if k = true then A else B := by subst e; exact s_ifF h
theorem s_ifD {p : Prop} {inst : Decidable p} {A B : Prop} (h : p → A) (h' : ¬ p → B) : if @decide p inst = true then A else B := by
  by_cases z : p
  · rw [decide_eq_true z]; exact s_ifT (h z)
  · rw [decide_eq_false z]; exact s_ifF (h' z)
end
end Bt
namespace Bt
open PySem PySem.Spec PyProof.Rows L2
section
variable {X : Cx}
/-! ### a power of any base -/
def CPowW (i j : Int) : Prop := 0 ≤ j ∧ (Builtin.Int.intBits i : Int) * j ≤ 2 ^ 27
theorem op_powW : OpR X (binaryOp .Pow) (rI CPowW fun i j => .int (i ^ j.toNat)) := opI fun _ _ _ _ _ _ _ hc q => pow_int hc.1 hc.2 q
/-! ### text[::-1] -/
def revT (z : Str) : Str := ⟨((Builtin.Str.strSliceIndices none none (-1) z.length).filterMap (z.cps[·]?)).toArray⟩
def tRevS (te : TE) : TE := fun σ H Q => te σ H fun x H1 => ∃ z, x = .str z ∧ (revT z).length ≤ sizeLine ∧ Q (.str (revT z)) H1
theorem pe_revS {e : Expr} {te : TE} {k : Nat} {p1 p2 p3 pos : Pos} (he : PE X e te) : PE X (.Subscript e (.Slice none none (some (.UnaryOp .USub (.Constant (.int 1) k p1) p2)) p3) pos) (tRevS te) := by
  refine ⟨fun pins s σ H Q I h => ?_⟩
  refine Subscript_ (thn (he.run pins s σ H _ I h) fun v s1 ⟨x, H1, I1, r1, q1⟩ => ?_)
  obtain ⟨z, ex, hz, q⟩ := q1
  subst ex
  obtain ⟨t, rfl⟩ := r1
  have hst : PO X (some (.UnaryOp .USub (.Constant (.int 1) k p1) p2)) (tPart (tUn (rU fun i => .int (-i)) (tC (.int 1)))) := po_some (pe_un un_neg pe_int)
  refine wpAny_Slice (thn (po_none.run pins s1 σ H1 (fun o H2 => o = none ∧ H2 = H1) I1 ⟨rfl, rfl⟩) fun vl s2 ⟨l, H2, I2, pl, el, e2⟩ => ?_)
  subst el e2
  refine thn (po_none.run pins s2 σ H2 (fun o H3 => o = none ∧ H3 = H2) I2 ⟨rfl, rfl⟩) fun vu s3 ⟨u, H3, I3, pu, eu, e3⟩ => ?_
  subst eu e3
  refine thn (hst.run pins s3 σ H3 (fun o H4 => o = some (-1) ∧ H4 = H3) I3 ⟨1, rfl, -1, rfl, rfl, rfl⟩) fun vs s4 ⟨o, H4, I4, ps, eo, e4⟩ => ?_
  subst eo e4
  have I5 : Inv X pins σ H4 { s4 with heap := s4.heap.push { cls := .type "slice", data := .fields #[vl, vu, vs] } } := I4.kept (t' := s4.toks) fun b ob q => Heap.get?_push_of_some _ q
  obtain ⟨l, rfl, el⟩ := IsPart.raw pl
  obtain ⟨u, rfl, eu⟩ := IsPart.raw pu
  obtain ⟨st, rfl, es⟩ := IsPart.raw ps
  show wpAny (model X.prog X.w) X.A (subscriptTail e (.Slice none none (some (.UnaryOp .USub (.Constant (.int 1) k p1) p2)) p3) (.str z t) (.ref s4.heap.objs.size)) (EP X pins σ Q) X.xe { s4 with heap := s4.heap.push { cls := .type "slice", data := .fields #[partValue l, partValue u, partValue st] } }
  have e1 : ((st.map (·.1)).getD 1) = -1 := by rw [es]; rfl
  refine tail_any (ops := [.ref s4.heap.objs.size, .str z t]) (typeIs_str _ _ _) (F.slot_str_getitem.lookup) ?_ (by with_unfolding_all rfl)
  refine wpAny_getItem_str_slice (l := l) (u := u) (st := st) (Heap.IsSliceOf.new _ _ _ _) (by rw [e1]; rfl) ?_
  show Made.post (if ((((st.map (·.1)).getD 1) == 1 && (Builtin.Str.strSliceIndices (l.map (·.1)) (u.map (·.1)) ((st.map (·.1)).getD 1) z.length).length == z.length) = true) then Made.val (.str z t)
    else Made.str ⟨((Builtin.Str.strSliceIndices (l.map (·.1)) (u.map (·.1)) ((st.map (·.1)).getD 1) z.length).filterMap (z.cps[·]?)).toArray⟩) (EP X pins σ Q) _
  rw [e1, el, eu, if_neg (by simp)]
  exact ⟨hz, .str _, H4, I5.tok _, ⟨_, rfl⟩, q⟩
end
/-! ### sorted(text) -/
/-- the signs of a text, each as a text -/
def signs (z : Str) : List Str := z.cps.toList.map fun c => ⟨#[c]⟩
theorem strs_of_signs {z : Str} {acc : Array Value} (h : ItemsOf (SignAt z) acc z.cps.size) : StrsAre acc.toList (signs z) := by
  have key : ∀ (l : List Value) (m : List Nat), l.length = m.length → (∀ (j : Nat) (v : Value) (c : Nat), l[j]? = some v → m[j]? = some c → ∃ u, v = .str ⟨#[c]⟩ u) → StrsAre l (m.map fun c => ⟨#[c]⟩) := by
    intro l
    induction l with
    | nil =>
      intro m hl _
      cases m with
      | nil => exact .nil
      | cons a r => cases hl
    | cons x l ih =>
      intro m hl hm
      cases m with
      | nil => cases hl
      | cons c r =>
        obtain ⟨u, e⟩ := hm 0 x c rfl rfl
        rw [e]
        exact .cons _ _ (ih r (Nat.succ.inj hl) fun j v d h1 h2 => hm (j + 1) v d (by simpa using h1) (by simpa using h2))
  refine key _ _ (by rw [Array.length_toList, Array.length_toList, h.1]) fun j v c h1 h2 => ?_
  obtain ⟨d, u, e1, e2⟩ := h.2 j v (by rw [← Array.getElem?_toList]; exact h1)
  rw [← Array.getElem?_toList, h2] at e1
  cases e1
  exact ⟨u, e2⟩
section
variable {X : Cx}
def rSortTx : List V → Hp → VK → Prop := fun vs H Q => ∃ z : Str, vs = [V.str z] ∧ z.length < 64 ∧ ∀ (ys : List Str) (p : Addr), ys.Perm (signs z) → sortedS ys = true → H p = none → Q (.ref p) (upd H p (.lst (ys.map V.str)))
theorem cr_sortedTx (hc : X.calm = true) : CallR X (.builtin "sorted") rSortTx := by
  intro pins s σ H vs us Q I r h
  obtain ⟨z, rfl, h64, q⟩ := h
  obtain ⟨u, rfl, rx⟩ := vals1 r
  obtain ⟨t, rfl⟩ := rx
  have hz : z.cps.size ≤ sizeLine := sz (Nat.le_of_lt (Nat.lt_trans h64 (by decide)))
  refine PySem.Calls.call_function_entry kind_sorted plain_sorted entry_sorted (args_sorted1 _) ?_
  unfold Builtin.«sorted»
  refine wpAny_bind (m := checkCount "sorted" 1 1 _) (wpAny_pure ?_)
  refine wpAny_bind (wpAny_collect_str (show X.A.in1.handled = none from I.ok.hd hc) z t (fun s' acc k eg ed eo hacc => ?_) hz)
  have hS := strs_of_signs hacc
  have hlen : acc.toList.length < 64 := by rw [Array.length_toList, hacc.1]; exact h64
  refine wpAny_bind (wpAny_newList ?_ (sz (by omega)))
  obtain ⟨hp, g, d, tk, os⟩ := s'
  dsimp only at eg ed eo
  subst eg ed eo
  have ho : (hp.push (seqObj "list" acc.toList.toArray 0)).get? hp.objs.size = some (seqObj "list" acc.toList.toArray 0) := Heap.get?_push_size _ rfl
  refine wpAny_bind (wpAny_holding (wpAny_call_entry slot_list_sort ⟨_, ho, rfl⟩ entry_list_sort (list_sort_treeK strKind_oneLt ho hS.keysOf (fun v₁ v₂ rest e => keyKind_strs (by rw [← e]; exact hS)) hlen fun st' a1 a2 => ⟨_, rfl, ?_⟩) (args_list_sort _)))
  obtain ⟨ss', h1, h2, h3⟩ := sorted_out_str hS a1 a2
  obtain ⟨ep, he⟩ := sortedHeap_at (vs := acc.toList) (out := (arrOf st').map (·.2)) (n := 0) ho
  have I1 : Inv X pins σ H ⟨hp, s.gens, s.drawn, tk, s.os⟩ := I.kept (t' := tk) k
  have old : ∀ b o, hp.get? b = some o → (sortedHeap (hp.push (seqObj "list" acc.toList.toArray 0)) hp.objs.size acc.toList ((arrOf st').map (·.2))).get? b = some o := fun b o e2 => by
    have hlt := Heap.lt_size e2
    rw [sortedHeap_old (Nat.ne_of_lt hlt) (by rw [size_push']; exact Nat.lt_succ_of_lt hlt), Heap.get?_push_ne _ _ _ (Nat.ne_of_lt hlt)]
    exact e2
  refine wpAny_pure ⟨_, rfl, ?_⟩
  have hl2 : (ss'.map V.str).length ≤ sizeLine := by rw [List.length_map, h2.length_eq]; exact sz (by unfold signs; rw [List.length_map, Array.length_toList]; exact Nat.le_of_lt (Nat.lt_trans h64 (by decide)))
  exact ⟨.ref _, upd H hp.objs.size (.lst (ss'.map V.str)), I1.laid (t' := tk) old (Nat.le_refl _) ⟨hl2, ((arrOf st').map (·.2)).toList, ep, vals_of_strs h1, he⟩, rfl, q ss' _ h2 h3 (I1.hok.fresh (Nat.le_refl _))⟩
end
end Bt
namespace Bt
open PySem PySem.Spec PyProof.Rows L2
variable {X : Cx}
/-! ### tuple(text) -/
theorem vals_of_signs {z : Str} {acc : Array Value} (h : ItemsOf (SignAt z) acc z.cps.size) : Vals ((signs z).map V.str) acc.toList := vals_of_strs (strs_of_signs h)
def rTupTx : List V → Hp → VK → Prop := fun vs H Q => ∃ z : Str, vs = [V.str z] ∧ z.length ≤ sizeLine ∧ ∀ p, H p = none → Q (.ref p) (upd H p (.tup ((signs z).map V.str)))
theorem q_tupTx {H : Hp} {Q : VK} {z : Str} (h : z.length ≤ sizeLine) (q : ∀ p H', H p = none → Same H H' → H' p = some (.tup ((signs z).map V.str)) → Q (.ref p) H') : rTupTx [.str z] H Q := ⟨z, rfl, h, fun p n => q p _ n (Same.new n) upd_same⟩
theorem call_tupleTx (hc : X.calm = true) : CallR X (.type "tuple") rTupTx := by
  intro pins s σ H vs us Q I r h
  obtain ⟨z, rfl, hz, q⟩ := h
  obtain ⟨u, rfl, rx⟩ := vals1 r
  obtain ⟨t, rfl⟩ := rx
  refine call_tuple_str (I.ok.hd hc) z t (fun h' tk acc k hacc => ?_) hz
  have I1 : Inv X pins σ H { s with heap := h', toks := tk } := I.kept (t' := tk) k
  have hl : ((signs z).map V.str).length ≤ sizeLine := by
    unfold signs
    rw [List.length_map, List.length_map, Array.length_toList]
    exact hz
  refine ⟨.ref h'.objs.size, _, I1.laid (t' := tk) (a := h'.objs.size) (o := .tup ((signs z).map V.str)) (fun b o e => Heap.get?_push_of_some _ e) (Nat.le_refl _) ⟨hl, acc.toList, vals_of_signs hacc, ?_⟩, rfl, q _ (I1.hok.fresh (Nat.le_refl _))⟩
  have e : acc.toList.toArray = acc := by simp
  rw [e]
  exact IsTup.new _ _
/-! ### C(e, ..), C's __init__ may raise; what is raised is wished for at the caller's slots -/
section
variable {CX : CXT} {k : Nat} {C f : Addr} {fd : FuncData} {ps : List Str} {sp : Sp} {dvs : List V} {ds : List Value} {E : L2.St → XK} {x : Str} {p pos : Pos} {e : Expr} {es : List Expr} {t : TA}
def tMakeS (C : Addr) (sp : Sp) (dvs : List V) (E : L2.St → XK) (t : TA) : TE := fun σ H Q => t σ H fun vs H1 => ∀ x dx, H1 x = none → H1 dx = none → dx ≠ x →
  sp (.ref x :: (vs ++ dvs)) (upd (upd H1 dx (.own x)) x (.ins C dx [])) (fun v H2 => v = .non ∧ Q (.ref x) H2) (E σ)
theorem run_makeS {pins : List (Addr × Obj)} {σ : L2.St} {H : Hp} {s : Shared} {Q : VK} {us : List Value} {vs : List V} (M : Mk X.K C f) (F : FnOk X.prog X.w X.K X.mg X.base CX k f fd ps sp) (hr : Room (k + 1) X.A) (hb : Binds X.K fd ps ds) (hd : Vals dvs ds)
    (hx : PassesAt CX X σ (E σ)) (I : Inv X pins σ H s) (r : Vals vs us)
    (h : ∀ x dx, H x = none → H dx = none → dx ≠ x → sp (.ref x :: (vs ++ dvs)) (upd (upd H dx (.own x)) x (.ins C dx [])) (fun v H2 => v = .non ∧ Q (.ref x) H2) (E σ)) :
    wpAny (model X.prog X.w) X.A (call (.ref C) us) (EP X pins σ Q) X.xe s := by
  have hq := h (s.heap.objs.size + 1) s.heap.objs.size (I.hok.fresh (Nat.le_succ _)) (I.hok.fresh (Nat.le_refl _)) (Nat.ne_of_lt (Nat.lt_succ_self _))
  have I2 := Inv.made (C := C) I
  have r2 : Vals (V.ref (s.heap.objs.size + 1) :: (vs ++ dvs)) (Value.ref (s.heap.objs.size + 1) :: (us ++ ds)) := .cons rfl (r.append hd)
  have hl : (Value.ref (s.heap.objs.size + 1) :: us ++ ds).length = ps.length := by
    have e := r2.length
    rw [F.len _ _ _ _ hq] at e
    exact e.symm
  refine wpAny_call (make_map (f := f) I.kIn M.makes M.init (beq_iff_eq.mp M.fn) (codeAny_mono (F.run _ X.stack _ _ ⟨Value.ref (s.heap.objs.size + 1) :: us, []⟩ (Value.ref (s.heap.objs.size + 1) :: (us ++ ds)) _ _ (E σ) (hr.make C us [])
    (I2.env0.make C us []) (hb _ (Value.ref (s.heap.objs.size + 1) :: us) I2.kIn hl) r2 hq) fun r s' hq' => ?_))
  cases r with
  | error e => exact hx pins _ _ e s' I2 hq'
  | ok fl =>
    cases fl with
    | ret u =>
      obtain ⟨v, H', I3, rv, ev, q3⟩ := I2.after hq'
      subst ev
      exact ⟨rv, ⟨V.ref (s.heap.objs.size + 1), H', I3, rfl, q3⟩⟩
    | next => exact False.elim hq'
    | brk => exact False.elim hq'
    | cont => exact False.elim hq'
theorem pe_makeS (M : Mk X.K C f) (F : FnOk X.prog X.w X.K X.mg X.base CX k f fd ps sp) (hr : Room (k + 1) X.A) (hg : Gl X x) (hm : X.mg x = some (.ref C)) (hb : Binds X.K fd ps ds) (hd : Vals dvs ds) (hx : ∀ σ, PassesAt CX X σ (E σ))
    (ha : PA X (e :: es) t) (hdb : (x == ("__debug__" : Str)) = false := by decide) (he : starEach (e :: es) X.env = (false, eval e X.env) :: starEach es X.env := by rfl) (hpl : (backTo pos (starEach es X.env)).any (·.1) = false := by rfl) :
    PE X (.Call (.Name x p) (e :: es) [] pos) (tMakeS C sp dvs E t) := by
  refine ⟨fun pins s σ H Q I h => ?_⟩
  refine wpAny_Call_Name_kw (ld_glob I hg hm ?_ hdb)
  refine PySem.W.callWith_K (h₀ := X.base) I.ok.mod.kin M.kp (thn (ha.run pos pins s σ H _ I h) fun us s1 ⟨vs, H1, I1, r, q⟩ => ⟨I1.kIn, ?_⟩) he hpl
  exact run_makeS M F hr hb hd (hx σ) I1 r q
end
/-! ### a comprehension over a text -/
theorem lc_str {z : Str} {g : TG} {tt : TT} {te : TE} {vs : List Nat} {σ : L2.St} {H1 : Hp} {D : Addr} {Qd : Hp → Prop} (Pv : Nat → Hp → Prop) (h0 : Pv 0 (upd H1 D (.lst [])))
    (hs : ∀ i (c : Nat) H, z.cps.toList[i]? = some c → Pv i H → g (.str ⟨#[c]⟩) (wipe σ vs) H fun σ2 H2 => wipe σ2 vs = wipe σ vs ∧ tt σ2 H2 fun b H3 =>
      if b = true then te σ2 H3 fun y H4 => ∃ acc, H4 D = some (.lst acc) ∧ acc.length < sizeLine ∧ Pv (i + 1) (upd H4 D (.lst (acc ++ [y]))) else Pv (i + 1) H3) (hd : ∀ H, Pv z.cps.size H → Qd H) :
    ∃ W : Nat → Nat → Hp → Prop, (∃ m, W 0 m (upd H1 D (.lst []))) ∧ ∀ i m H, W i m H →
      ((Its z).stop i H ∧ Qd H) ∨ ((Its z).go i H ∧ ∃ Nx : Hp → Prop, (∀ H', Nx H' → ∃ m', m' < m ∧ W (i + 1) m' H') ∧ ∀ x H', (Its z).yld i H x H' → g x (wipe σ vs) H' fun σ2 H2 => wipe σ2 vs = wipe σ vs ∧ tt σ2 H2 fun b H3 =>
        if b = true then te σ2 H3 fun y H4 => ∃ acc, H4 D = some (.lst acc) ∧ acc.length < sizeLine ∧ Nx (upd H4 D (.lst (acc ++ [y]))) else Nx H3) := by
  refine ⟨fun i m H => m = z.cps.size - i ∧ i ≤ z.cps.size ∧ Pv i H, ⟨z.cps.size, by simp, Nat.zero_le _, h0⟩, ?_⟩
  rintro i m H ⟨rfl, hi, p⟩
  by_cases hlt : i < z.cps.size
  · refine .inr ⟨hlt, Pv (i + 1), fun H' p' => ⟨z.cps.size - (i + 1), by omega, rfl, hlt, p'⟩, fun x H' y => ?_⟩
    obtain ⟨e, c, hc, ex⟩ := y
    subst e ex
    exact hs i c _ (by rw [Array.getElem?_toList]; exact hc) p
  · have e : i = z.cps.size := by omega
    subst e
    exact .inl ⟨Nat.le_refl _, hd H p⟩
theorem s_lc {wi : TI} {g : TG} {tt : TT} {te : TE} {vs : List Nat} {σ : L2.St} {H : Hp} {Q : VK} (h : wi σ H fun J H1 => ∀ D, H1 D = none → ∃ W : Nat → Nat → Hp → Prop, (∃ m, W 0 m (upd H1 D (.lst []))) ∧ ∀ i m H, W i m H →
  (J.stop i H ∧ Q (.ref D) H) ∨ (J.go i H ∧ ∃ Nx : Hp → Prop, (∀ H', Nx H' → ∃ m', m' < m ∧ W (i + 1) m' H') ∧ ∀ x H', J.yld i H x H' → g x (wipe σ vs) H' fun σ2 H2 => wipe σ2 vs = wipe σ vs ∧ tt σ2 H2 fun b H3 =>
    if b = true then te σ2 H3 fun y H4 => ∃ acc, H4 D = some (.lst acc) ∧ acc.length < sizeLine ∧ Nx (upd H4 D (.lst (acc ++ [y]))) else Nx H3)) : tLc wi g tt te vs σ H Q := h
theorem s_yes {σ : L2.St} {H : Hp} {R : Bool → Hp → Prop} (h : R true H) : tYes σ H R := h
theorem same_mut {H H' : Hp} {p : Addr} {o : HO} (e : Same H H') (h : H p = none) : Same H (upd H' p o) := fun a u ha => by
  rw [upd_ne (ne_of_none ha h)]
  exact e a u ha
theorem take_map_more {α β : Type} {f : α → β} {l : List α} {j : Nat} {x : α} (h : l[j]? = some x) : (l.take (j + 1)).map f = (l.take j).map f ++ [f x] := by
  rw [List.take_add_one, h, List.map_append]
  rfl
theorem s_iStr {te : TE} {σ : L2.St} {H : Hp} {R : It → Hp → Prop} (h : te σ H fun v H1 => ∃ x, v = .str x ∧ R (Its x) H1) : iStr te σ H R := h
theorem s_M0 {to : TE} {r : V → List V → Hp → VK → Prop} {σ : L2.St} {H : Hp} {Q : VK} (h : to σ H fun x H1 => (∃ a, x = .str a) ∧ r x [] H1 Q) : tM0 r to σ H Q := h
/-! ### x == y, x an instance of an own class with __eq__ -/
def rEqOwn (K : PySem.W.Frag) (C : Addr) (sp : Sp) (E : XK) : R2 := fun x y H Q => ∃ a dx fs t, x = .ref a ∧ H a = some (.ins C dx fs) ∧ TyX K H y t ∧ PySem.W.notFirst K C t = true ∧ sp [x, y] H (fun v H' => ∃ b, v = .bl b ∧ Q v H') E
theorem op_eqOwn {CX : CXT} {n : Nat} {C f : Addr} {fd : FuncData} {ps : List Str} {sp : Sp} {E : XK} (F : FnOk X.prog X.w X.K X.mg X.base CX n f fd ps sp) (hr : Room n X.A)
    (hs : PySem.W.findIn X.K (.ref C) "__eq__" = some (some (.ref f))) (hf : PySem.W.isFn X.K (.ref f) = true) (hb : Binds X.K fd ps []) (hx : Passes CX X E) : OpR X (compareOp .Eq) (rEqOwn X.K C sp E) := by
  intro pins s σ H x y v u Q I rx ry hq
  obtain ⟨a, dx, fs, t, rfl, ha, ty, hn, hsp⟩ := hq
  cases rx
  obtain ⟨mA, J, _⟩ := ins_get I.hok ha
  obtain ⟨od, J, _⟩ := J.look
  obtain ⟨m, hF⟩ := I.fr
  obtain ⟨P, Z, p, _⟩ := kit_of I ry ty
  show wpAny (model X.prog X.w) X.A (richCompare .Eq (.ref a) u) (EP X pins σ Q) X.xe s
  refine PySem.W.cmp_K (op := .Eq) (tb := t) hr.units0 hF I.ok.mod.kin J (Z.ty _ _ I.kIn p) hn hs hf ?_
  have hl := F.len _ _ _ _ hsp
  have r2 : Vals [V.ref a, y] [Value.ref a, u] := .cons rfl (.cons ry .nil)
  refine wpAny_call (codeAny_mono (F.run X.A X.stack s H ⟨[.ref a, u], []⟩ [.ref a, u] [.ref a, y] _ E hr I.env0 (by
    have := hb s [.ref a, u] I.kIn (by simpa using hl)
    simpa using this) r2 hsp) fun r s' hq => ?_)
  cases r with
  | error e => exact hx pins σ H s e s' I hq
  | ok fl =>
    cases fl with
    | ret w =>
      obtain ⟨z, H', I', rz, b, ez, q⟩ := I.after hq
      subst ez
      cases rz
      exact ⟨.bl b, H', I', rfl, q⟩
    | next => exact False.elim hq
    | brk => exact False.elim hq
    | cont => exact False.elim hq
end Bt
namespace Bt
open PySem PyProof.Rows
/-! ### letters -/
abbrev sg (c : Nat) : Str := ⟨#[c]⟩
def alphaS : Str := "abcdefghijklmnopqrstuvwxyz"
def alpha : List Nat := (List.range 26).map (97 + ·)
theorem alphaS_cps : alphaS.cps.toList = alpha := by decide +kernel
theorem alpha_len : alpha.length = 26 := by decide
theorem mem_alpha {c : Nat} : c ∈ alpha ↔ 97 ≤ c ∧ c ≤ 122 := by
  unfold alpha
  rw [List.mem_map]
  constructor
  · rintro ⟨a, h, rfl⟩
    have := List.mem_range.mp h
    omega
  · rintro ⟨h1, h2⟩
    exact ⟨c - 97, List.mem_range.mpr (by omega), by omega⟩
theorem alpha_nd : alpha.Nodup := by decide
/-- the letters of a form -/
def Letters (z : Str) : Prop := z.cps.toList.Perm alpha
instance {z : Str} : Decidable (Letters z) := inferInstanceAs (Decidable (List.Perm _ _))
theorem rising_pw : ∀ (cs : List Nat) (p : Nat), risingS (sg p) (cs.map sg) = true → (p :: cs).Pairwise (· ≤ ·)
  | [], p, _ => List.pairwise_singleton _ _
  | c :: cs, p, h => by
    have h' : (!Spec.ltCps [c] [p] && risingS (sg c) (cs.map sg)) = true := h
    obtain ⟨h1, h2⟩ := Bool.and_eq_true_iff.mp h'
    have ih := rising_pw cs c h2
    have hpc : p ≤ c := by
      rw [ltCps_eq] at h1
      rcases Nat.lt_or_ge c p with k | k
      · have : ([c] : List Nat) < [p] := List.Lex.rel k
        simp [this] at h1
      · exact k
    refine List.pairwise_cons.mpr ⟨fun a ha => ?_, ih⟩
    rcases List.mem_cons.mp ha with e | ha
    · rw [e]; exact hpc
    · exact Nat.le_trans hpc ((List.pairwise_cons.mp ih).1 a ha)
theorem sorted_pw (cs : List Nat) (h : sortedS (cs.map sg) = true) : cs.Pairwise (· ≤ ·) := by
  cases cs with
  | nil => exact List.Pairwise.nil
  | cons c cs => exact rising_pw cs c h
theorem sg_inj : Function.Injective sg := fun a b h => by
  have : (#[a] : Array Nat) = #[b] := congrArg Str.cps h
  simpa using this
theorem signs_eq (z : Str) : signs z = z.cps.toList.map sg := rfl
theorem perm_signs {z : Str} {ys : List Str} (h : ys.Perm (signs z)) : ∃ cs : List Nat, ys = cs.map sg ∧ cs.Perm z.cps.toList := by
  let f : Str → Nat := fun s => s.cps.toList.headD 0
  have fs : ∀ c, f (sg c) = c := fun c => rfl
  refine ⟨ys.map f, ?_, ?_⟩
  · rw [List.map_map]
    have : ∀ y ∈ ys, (sg ∘ f) y = y := fun y hy => by
      have := h.mem_iff.mp hy
      rw [signs_eq, List.mem_map] at this
      obtain ⟨c, _, rfl⟩ := this
      rfl
    exact ((List.map_congr_left this).trans (List.map_id _)).symm
  · have := h.map f
    rw [signs_eq, List.map_map] at this
    have e : (z.cps.toList).map (f ∘ sg) = z.cps.toList := (List.map_congr_left (fun c _ => fs c)).trans (List.map_id _)
    rw [e] at this
    exact this
theorem eqvAll_strs : ∀ (xs ys : List Str), PyData.eqvAll (xs.map .str) (ys.map .str) = decide (xs = ys)
  | [], [] => by simp [PyData.eqvAll]
  | [], y :: ys => by simp [PyData.eqvAll]
  | x :: xs, [] => by simp [PyData.eqvAll]
  | x :: xs, y :: ys => by
    have ih := eqvAll_strs xs ys
    simp only [List.map_cons, PyData.eqvAll, PyData.eqv, ih]
    by_cases h1 : x = y <;> by_cases h2 : xs = ys <;> simp [h1, h2]
theorem sorted_eq_iff {z w : Str} {ys ws : List Str} (h1 : ys.Perm (signs z)) (s1 : sortedS ys = true) (h2 : ws.Perm (signs w)) (s2 : sortedS ws = true) :
    PyData.eqv (.list (ys.map .str)) (.list (ws.map .str)) = decide (z.cps.toList.Perm w.cps.toList) := by
  obtain ⟨cs, rfl, p1⟩ := perm_signs h1
  obtain ⟨ds, rfl, p2⟩ := perm_signs h2
  have q1 := sorted_pw cs s1
  have q2 := sorted_pw ds s2
  show PyData.eqvAll _ _ = _
  rw [eqvAll_strs]
  apply decide_eq_decide.mpr
  constructor
  · intro e
    have e2 : cs = ds := by
      have := congrArg (List.map fun s : Str => s.cps.toList.headD 0) e
      simpa [List.map_map, Function.comp_def] using this
    subst e2
    exact p1.symm.trans p2
  · intro e
    have p : cs.Perm ds := (p1.trans e).trans p2.symm
    rw [p.eq_of_pairwise (fun a b _ _ h1 h2 => Nat.le_antisymm h1 h2) q1 q2]
end Bt
namespace Bt
open PySem PySem.Spec PyProof.Rows L2
/-! ### a def as it stands behind the top, by its name alone -/
structure Df (K : PySem.W.Frag) (mg : Str → Option Value) (x : Str) (st : Stmt) (ps : List Str) : Prop where
  ex : ∃ (f : Addr) (fd : FuncData), Fun K x x st f fd ∧ mg x = some (.ref f) ∧ Binds K fd ps []
/-- a def that raises nothing, with its promise -/
structure Cal (P : Program) (w : World) (K : PySem.W.Frag) (mg : Str → Option Value) (base : Heap) (k : Nat) (x : Str) (sp : Sp) : Prop where
  ex : ∃ (f : Addr) (fd : FuncData) (ps : List Str), FnOk P w K mg base CX0 k f fd ps sp ∧ mg x = some (.ref f) ∧ PySem.W.keepIn K (.ref f) = true ∧ Binds K fd ps []
/-- one that may raise -/
structure CalX (P : Program) (w : World) (K : PySem.W.Frag) (mg : Str → Option Value) (base : Heap) (k : Nat) (x : Str) (sp : Sp) : Prop where
  ex : ∃ (f : Addr) (fd : FuncData) (ps : List Str), FnOk P w K mg base (L2.CX P w) k f fd ps sp ∧ mg x = some (.ref f) ∧ PySem.W.keepIn K (.ref f) = true ∧ Binds K fd ps []
section
variable {P : Program} {w : World} {K : PySem.W.Frag} {mg : Str → Option Value} {base : Heap} {x : Str} {st : Stmt} {N ps : List Str} {k : Nat} {sp : Sp}
theorem Df.cal (D : Df K mg x st ps) (S : FnScope N ps (defScope st)) (len : ∀ vs H Q E, sp vs H Q E → vs.length = ps.length)
    (hbody : ∀ (f : Addr) (cdv : Value) (A : Around) (outer : List Env) (s : Shared) (H : Hp) (vs : List V) (Q : VK) (E : XK), Room k (A.deeper (envOfC x (defScope st) s.heap.objs.size f cdv)) → sp vs H Q E →
      ∃ t, PSs (cxOf CX0 P w K mg base N x (defScope st) f cdv A outer s H E).nox (defBody st) t ∧ t { nx := fun _ H' => Q .non H', rt := Q } (start N vs) H) : Cal P w K mg base (k + 1) x sp := by
  obtain ⟨f, fd, F, g, b⟩ := D.ex
  exact ⟨⟨f, fd, ps, F.ok S len (hbody f), g, F.kp, b⟩⟩
theorem Df.calX (D : Df K mg x st ps) (S : FnScope N ps (defScope st)) (len : ∀ vs H Q E, sp vs H Q E → vs.length = ps.length)
    (hbody : ∀ (f : Addr) (cdv : Value) (A : Around) (outer : List Env) (s : Shared) (H : Hp) (vs : List V) (Q : VK) (E : XK), Room k (A.deeper (envOfC x (defScope st) s.heap.objs.size f cdv)) → sp vs H Q E →
      ∃ t, PSs (cxOf (L2.CX P w) P w K mg base N x (defScope st) f cdv A outer s H E) (defBody st) t ∧ t { nx := fun _ H' => Q .non H', rt := Q } (start N vs) H) : CalX P w K mg base (k + 1) x sp := by
  obtain ⟨f, fd, F, g, b⟩ := D.ex
  exact ⟨⟨f, fd, ps, F.okX S len (hbody f), g, F.kp, b⟩⟩
end
section
variable {X : Cx} {k j : Nat} {x : Str} {sp : Sp} {p pos : Pos} {e : Expr} {es : List Expr} {t : TA}
theorem pe_c (c : Cal X.prog X.w X.K X.mg X.base k x sp) (hr : Room j X.A) (hk : k ≤ j) (hg : Gl X x) (ha : PA X (e :: es) t)
    (hdb : (x == ("__debug__" : Str)) = false := by decide) (he : starEach (e :: es) X.env = (false, eval e X.env) :: starEach es X.env := by rfl) (hpl : (backTo pos (starEach es X.env)).any (·.1) = false := by rfl) :
    PE X (.Call (.Name x p) (e :: es) [] pos) (tCall sp [] E0 t) := by
  obtain ⟨f, fd, ps, F, hm, kp, b⟩ := c.ex
  exact pe_call F (hr.mono hk) hg hm kp b .nil pass0 ha hdb he hpl
/-- a def that may raise, called where it does not -/
theorem pe_cx0 (c : CalX X.prog X.w X.K X.mg X.base k x sp) (hr : Room j X.A) (hk : k ≤ j) (hg : Gl X x) (ha : PA X (e :: es) t)
    (hdb : (x == ("__debug__" : Str)) = false := by decide) (he : starEach (e :: es) X.env = (false, eval e X.env) :: starEach es X.env := by rfl) (hpl : (backTo pos (starEach es X.env)).any (·.1) = false := by rfl) :
    PE X (.Call (.Name x p) (e :: es) [] pos) (tCall sp [] E0 t) := by
  obtain ⟨f, fd, ps, F, hm, kp, b⟩ := c.ex
  exact pe_call F (hr.mono hk) hg hm kp b .nil passL ha hdb he hpl
end
/-! ### kinds of values -/
/-- a value of a built-in kind, with its type's name -/
def Ty (K : PySem.W.Frag) (H : Hp) (x : V) (T : String) : Prop := TyX K H x (.type T)
theorem kit_is {K : PySem.W.Frag} {a b : String} (h : (a == b) = true) : PySem.W.kitOne K (.type a) (.type b) = some true := kit_ty (by
  have e : a = b := by simpa using h
  subst e
  unfold kitB
  rw [if_pos (by simp)])
/-- the kinds that data have, and what isinstance says of them -/
inductive Kd : String → Prop where
  | non : Kd "NoneType" | bl : Kd "bool" | int : Kd "int" | str : Kd "str" | lst : Kd "list" | tup : Kd "tuple" | dct : Kd "dict"
def subKd (a b : String) : Bool := a == b || (a == "bool" && b == "int")
theorem kit_kd {K : PySem.W.Frag} {a b : String} (ha : Kd a) (hb : Kd b) : PySem.W.kitOne K (.type a) (.type b) = some (subKd a b) := by
  cases ha <;> cases hb <;> exact kit_ty (by decide +kernel)
/-- a plain value: data at its top -/
def Pl (K : PySem.W.Frag) (H : Hp) (x : V) (T : String) : Prop := TyX K H x (.type T) ∧ Kd T
theorem q_isi {K : PySem.W.Frag} {H : Hp} {Q : VK} {x : V} {a b : String} (h : Pl K H x a) (hb : Kd b) (q : Q (.bl (subKd a b)) H) : rIsi K [x, .ty b] H Q :=
  ⟨x, .ty b, .type a, .type b, subKd a b, rfl, .ty b, h.1, kit_kd h.2 hb, q⟩
theorem Pl.non {K : PySem.W.Frag} {H : Hp} : Pl K H .non "NoneType" := ⟨.base .non, .non⟩
theorem Pl.bl {K : PySem.W.Frag} {H : Hp} {b : Bool} : Pl K H (.bl b) "bool" := ⟨.base (.bl b), .bl⟩
theorem Pl.int {K : PySem.W.Frag} {H : Hp} {i : Int} : Pl K H (.int i) "int" := ⟨.base (.int i), .int⟩
theorem Pl.str {K : PySem.W.Frag} {H : Hp} {z : Str} : Pl K H (.str z) "str" := ⟨.base (.str z), .str⟩
theorem Pl.lst {K : PySem.W.Frag} {H : Hp} {a : Addr} {xs : List V} (h : H a = some (.lst xs)) : Pl K H (.ref a) "list" := ⟨.base (.lst h), .lst⟩
theorem Pl.tup {K : PySem.W.Frag} {H : Hp} {a : Addr} {xs : List V} (h : H a = some (.tup xs)) : Pl K H (.ref a) "tuple" := ⟨.base (.tup h), .tup⟩
theorem TyX.mono {K : PySem.W.Frag} {H H' : Hp} {x : V} {t : Value} (S : Same H H') (h : TyX K H x t) : TyX K H' x t := by
  cases h with
  | base b =>
    cases b with
    | non => exact .base .non
    | bl z => exact .base (.bl z)
    | int z => exact .base (.int z)
    | str z => exact .base (.str z)
    | flt z => exact .base (.flt z)
    | lst e => exact .base (.lst (S _ _ e))
    | frz e => exact .base (.frz (S _ _ e))
    | tup e => exact .base (.tup (S _ _ e))
    | dK e => exact .base (.dK (S _ _ e))
    | dT e => exact .base (.dT (S _ _ e))
    | ins e cl ha hn htk hm => exact .base (.ins (S _ _ e) cl ha hn htk hm)
  | byt b => exact .byt b
  | set e => exact .set (S _ _ e)
  | kList e c => exact .kList e c
  | kTuple e c => exact .kTuple e c
  | kDict e c => exact .kDict e c
  | fTuple e => exact .fTuple (S _ _ e)
  | fDict e => exact .fDict (S _ _ e)
theorem Pl.mono {K : PySem.W.Frag} {H H' : Hp} {x : V} {T : String} (S : Same H H') (h : Pl K H x T) : Pl K H' x T := ⟨TyX.mono S h.1, h.2⟩
theorem ty_ne {a b : String} {p : Prop} (e : Value.type a = Value.type b) (h : a ≠ b) : p := absurd (Value.type.inj e) h
theorem Pl.is_str {K : PySem.W.Frag} {H : Hp} {z : Str} {T : String} (h : Pl K H (.str z) T) : T = "str" := by
  have key : ∀ t, TyX K H (.str z) t → t = .type "str" := fun t h => by
    cases h with
    | base b => cases b; rfl
  exact Value.type.inj (key _ h.1)
theorem Pl.is_int {K : PySem.W.Frag} {H : Hp} {z : Int} {T : String} (h : Pl K H (.int z) T) : T = "int" := by
  have key : ∀ t, TyX K H (.int z) t → t = .type "int" := fun t h => by
    cases h with
    | base b => cases b; rfl
  exact Value.type.inj (key _ h.1)
theorem Pl.is_bl {K : PySem.W.Frag} {H : Hp} {z : Bool} {T : String} (h : Pl K H (.bl z) T) : T = "bool" := by
  have key : ∀ t, TyX K H (.bl z) t → t = .type "bool" := fun t h => by
    cases h with
    | base b => cases b; rfl
  exact Value.type.inj (key _ h.1)
theorem Pl.of_str {K : PySem.W.Frag} {H : Hp} {x : V} {T : String} (h : Pl K H x T) (e : T = "str") : ∃ z, x = .str z := by
  have key : ∀ t, TyX K H x t → t = .type "str" → ∃ z, x = .str z := fun t h e => by
    cases h with
    | base b =>
      cases b with
      | str z => exact ⟨z, rfl⟩
      | ins _ _ _ _ _ _ => cases e
      | _ => exact ty_ne e (by decide)
    | _ => exact ty_ne e (by decide)
  exact key _ h.1 (by rw [e])
theorem Pl.of_int {K : PySem.W.Frag} {H : Hp} {x : V} {T : String} (h : Pl K H x T) (e : T = "int") : ∃ z, x = .int z := by
  have key : ∀ t, TyX K H x t → t = .type "int" → ∃ z, x = .int z := fun t h e => by
    cases h with
    | base b =>
      cases b with
      | int z => exact ⟨z, rfl⟩
      | ins _ _ _ _ _ _ => cases e
      | _ => exact ty_ne e (by decide)
    | _ => exact ty_ne e (by decide)
  exact key _ h.1 (by rw [e])
/-- the object at a stands where the abstract heap has grown -/
theorem q_sortTx {H : Hp} {Q : VK} {z : Str} (h : z.length < 64) (q : ∀ (ys : List Str) (p : Addr) H', H p = none → Same H H' → H' p = some (.lst (ys.map V.str)) → ys.Perm (signs z) → sortedS ys = true → Q (.ref p) H') : rSortTx [.str z] H Q :=
  ⟨z, rfl, h, fun ys p h1 h2 n => q ys p _ n (Same.new n) upd_same h1 h2⟩
theorem dp_strs {K : PySem.W.Frag} {H : Hp} : ∀ ys : List Str, DpAll K H (ys.map V.str) (ys.map PyData.str)
  | [] => .nil
  | y :: ys => .cons (.str y) (dp_strs ys)
theorem dp_lst_strs {K : PySem.W.Frag} {H : Hp} {p : Addr} {ys : List Str} (h : H p = some (.lst (ys.map V.str))) : Dp K H (.ref p) (.list (ys.map PyData.str)) := .lst (SqL.of h) (dp_strs ys)
def Asc (z : Str) : Prop := ∀ c ∈ z.cps.toList, c < 128
theorem Asc.ok {z : Str} (h : Asc z) : PyData.strOk z = true := by
  unfold PyData.strOk
  rw [← Array.all_toList, List.all_eq_true]
  intro c hc
  have := h c hc
  exact decide_eq_true (by omega)
theorem canLay_strs : ∀ (ys : List Str), (∀ y ∈ ys, Asc y) → PyData.canLayAll0 (ys.map PyData.str) = true
  | [], _ => rfl
  | y :: ys, h => by
    simp only [List.map_cons, PyData.canLayAll0, PyData.canLay0, Bool.and_eq_true]
    exact ⟨(h y List.mem_cons_self).ok, canLay_strs ys fun z hz => h z (List.mem_cons_of_mem _ hz)⟩
theorem depth_strs : ∀ (ys : List Str), PyData.depthAll (ys.map PyData.str) = 0
  | [] => rfl
  | y :: ys => by simp only [List.map_cons, PyData.depthAll, PyData.depth, depth_strs ys]; rfl
theorem shaped_strs {ys : List Str} (h : ∀ y ∈ ys, Asc y) : SeqAt.shaped (.list (ys.map PyData.str)) = true := by
  unfold SeqAt.shaped
  rw [Bool.and_eq_true]
  refine ⟨?_, ?_⟩
  · simp only [PyData.canLay0]; exact canLay_strs ys h
  · simp only [PyData.depth, depth_strs]; decide
theorem asc_signs {z : Str} (h : Asc z) : ∀ y ∈ signs z, Asc y := fun y hy c hc => by
  unfold signs at hy
  obtain ⟨d, hd, rfl⟩ := List.mem_map.mp hy
  have : c = d := by simpa using hc
  subst this
  exact h _ hd
theorem shaped_sorted {z : Str} {ys : List Str} (h : Asc z) (p : ys.Perm (signs z)) : SeqAt.shaped (.list (ys.map PyData.str)) = true := shaped_strs fun y hy => asc_signs h y (p.mem_iff.mp hy)
theorem asc_alpha : Asc alphaS := fun c hc => by
  rw [alphaS_cps] at hc
  have := (mem_alpha.mp hc).2
  omega
end Bt
namespace Bt
open PySem PySem.Spec PyProof.Rows L2
theorem SqT_mono {K : PySem.W.Frag} {H H' : Hp} {a : Addr} {xs : List V} (e : Same H H') (h : SqT K H a xs) : SqT K H' a xs := by
  rcases h with (h | ⟨o, h⟩) | h
  · exact .inl (.inl (e _ _ h))
  · exact .inl (.inr ⟨o, e _ _ h⟩)
  · exact .inr h
mutual
theorem Dp.mono {K : PySem.W.Frag} {H H' : Hp} (S : Same H H') : ∀ {v : V} {d : PyData}, Dp K H v d → Dp K H' v d
  | _, _, .non => .non
  | _, _, .bl b => .bl b
  | _, _, .int i => .int i
  | _, _, .str x => .str x
  | _, _, .lst h r => .lst (S.seq h) (DpAll.mono S r)
  | _, _, .tup h r => .tup (SqT_mono S h) (DpAll.mono S r)
theorem DpAll.mono {K : PySem.W.Frag} {H H' : Hp} (S : Same H H') : ∀ {vs : List V} {ds : List PyData}, DpAll K H vs ds → DpAll K H' vs ds
  | _, _, .nil => .nil
  | _, _, .cons h r => .cons (Dp.mono S h) (DpAll.mono S r)
end
/-! ### an own error with one field, stored by its __init__ -/
def spExc (C : Addr) (fld : Str) : Sp := fun vs H Q _ => ∃ a v, vs = [.ref a, v] ∧ H a = some (exo a C none) ∧ ∀ dx, H dx = none → dx ≠ a → Q .non (upd (upd H dx (exd dx [(fld, v)])) a (exo a C (some dx)))
structure ExcF (K : PySem.W.Frag) (mg : Str → Option Value) (x fld : Str) (C : Addr) : Prop where
  g : mg x = some (.ref C)
  T : OexC K C
  no : PySem.W.findIn K (.ref C) fld = some none
  xf : XfC K C
  te : PySem.W.exmOne K (.ref C) (.ref C) = some true
  init : ∃ (f : Addr) (fd : FuncData) (qual : Str) (params : Arguments) (scope : Scope) (q1 q2 q3 q4 : Pos),
    PySem.W.findIn K (.ref C) "__init__" = some (some (.ref f)) ∧ PySem.W.typeIn K (.ref f) = some (.type "function") ∧
    FunD K "__init__" qual params [.Assign [.Attribute (.Name "self" q1) fld q2] (.Name fld q3) q4] scope [.non] [] f fd ∧ FnScope ["self", fld] ["self", fld] scope ∧ Binds K fd ["self", fld] []
section
variable {P : Program} {w : World} {K : PySem.W.Frag} {mg : Str → Option Value} {base : Heap} {x fld : Str} {C : Addr}
theorem exc_init {f : Addr} {fd : FuncData} {qual : Str} {params : Arguments} {scope : Scope} {q1 q2 q3 q4 : Pos} (T : OexC K C) (no : PySem.W.findIn K (.ref C) fld = some none)
    (F : FunD K "__init__" qual params [.Assign [.Attribute (.Name "self" q1) fld q2] (.Name fld q3) q4] scope [.non] [] f fd) (S : FnScope ["self", fld] ["self", fld] scope) (hd : (fld == ("__debug__" : Str)) = false) (hcd : (fld == ("__classdict__" : Str)) = false) :
    FnOk P w K mg base CX0 1 f fd ["self", fld] (spExc C fld) := by
  refine F.ok S (fun vs H Q E h => ?_) (fun cdv A outer s H vs Q E hr h => ?_)
  · obtain ⟨a, v, rfl, _⟩ := h
    rfl
  · obtain ⟨a, v, rfl, ha, k⟩ := h
    have v1 : Vis scope "self" := (S.par "self" List.mem_cons_self).elim .inl fun z => .inr (.inl z)
    have v2 : Vis scope fld := (S.par fld (List.mem_cons_of_mem _ List.mem_cons_self)).elim .inl fun z => .inr (.inl z)
    refine ⟨_, pss_one (ps_ost (pe_var (i := 0) rfl v1 (by decide) (by decide)) (pe_var (i := 1) rfl v2 hd hcd) (by rfl)), ?_⟩
    exact ⟨v, rfl, .ref a, rfl, a, C, rfl, T, no, .inl ⟨ha, fun dx n ne => k dx n ne⟩⟩
end
section
variable {X : Cx} {x fld : Str} {C : Addr} {k : Nat} {W : WX} {e : Expr} {te : TE} {p pos pos2 : Pos}
/-- what is wished may be weakened -/
def tMono (te : TE) : TE := fun σ H Q => ∃ Q' : VK, te σ H Q' ∧ ∀ v H1, Q' v H1 → Q v H1
theorem PE.mono (he : PE X e te) : PE X e (tMono te) := ⟨fun pins s σ H Q I h => by
  obtain ⟨Q', h1, h2⟩ := h
  refine thn (he.run pins s σ H Q' I h1) fun u s' z => ?_
  obtain ⟨v, H', I', r, q⟩ := z
  exact ⟨v, H', I', r, h2 v H' q⟩⟩
/-- raise C(e) -/
def tRaise1 (C : Addr) (fld : Str) (W : WX) (te : TE) : TS := fun _ σ H => te σ H fun v H1 => ∀ d H3, H1 d = none → Same H1 H3 → H3 d = some (.xd [(fld, v)]) → W (.ref C) (some d) σ H3
theorem ps_raise1 (hc : X.calm = true) (B : ExcF X.K X.mg x fld C) (hr : Room k X.A) (hk : 2 ≤ k) (tk : Takes X W) (he : PE X e te) (hg : Gl X x := by rfl) (hd : (fld == ("__debug__" : Str)) = false := by decide) (hcd : (fld == ("__classdict__" : Str)) = false := by decide)
    (hdb : (x == ("__debug__" : Str)) = false := by decide) (h1 : starEach (e :: []) X.env = (false, eval e X.env) :: starEach [] X.env := by rfl) (h2 : (backTo pos (starEach [] X.env)).any (·.1) = false := by rfl) :
    PS X (.Raise (some (.Call (.Name x p) [e] [] pos)) none pos2) (tRaise1 C fld W te) := by
  obtain ⟨f, fd, qual, params, scope, q1, q2, q3, q4, i1, i2, F, S, b⟩ := B.init
  have m := pmk_oex (sp := spExc C fld) (dvs := []) (p := p) (pos := pos) B.T i1 i2 (exc_init B.T B.no F S hd hcd) (hr.mono hk) b .nil pass0 hg B.g (pa_cons (PE.mono he) pa_nil h1) hdb h1 h2
  have q := ps_raise (pos := pos2) hc tk m
  refine ⟨fun pins s σ H D I h => q.run pins s σ H D I ?_⟩
  have key : ∀ v H1, (∀ d H3, H1 d = none → Same H1 H3 → H3 d = some (.xd [(fld, v)]) → W (.ref C) (some d) σ H3) →
      ([v].length ≤ 1000 ∧ ∀ a, H1 a = none → spExc C fld (.ref a :: ([v] ++ [])) (upd H1 a (exo a C none))
        (fun v H2 => v = .non ∧ ∃ (d : Addr) (fs : List (Str × V)), H2 a = some (exo a C (some d)) ∧ H2 d = some (exd d fs) ∧ H1 d = none ∧ W (.ref C) (some d) σ (upd (del H2 a) d (.xd fs))) (fun _ _ _ => False)) := fun v H1 z => by
    refine ⟨by show 1 ≤ 1000; decide, fun a ha => ⟨a, v, rfl, upd_same, fun dx n ne => ⟨rfl, dx, _, upd_same, by rw [upd_ne ne, upd_same], ?_, ?_⟩⟩⟩
    · rw [upd_ne ne] at n; exact n
    · have n1 : H1 dx = none := by rw [upd_ne ne] at n; exact n
      refine z dx _ n1 (fun b o e => ?_) upd_same
      have nb : b ≠ dx := ne_of_none e n1
      have na : b ≠ a := ne_of_none e ha
      rw [upd_ne nb, del_ne na, upd_ne na, upd_ne nb, upd_ne na]
      exact e
  exact ⟨_, h, fun v H1 z => key v H1 z⟩
theorem s_raise1 {C : Addr} {fld : Str} {W : WX} {te : TE} {D : Ends} {σ : L2.St} {H : Hp} (h : te σ H fun v H1 => ∀ d H3, H1 d = none → Same H1 H3 → H3 d = some (.xd [(fld, v)]) → W (.ref C) (some d) σ H3) : tRaise1 C fld W te D σ H := h
end
end Bt
namespace Bt
open PySem PySem.Spec PyProof.Rows L2
theorem app_cps (a b : Str) : (a ++ b).cps.toList = a.cps.toList ++ b.cps.toList := by
  show (a.cps ++ b.cps).toList = _
  simp
theorem len_cps (z : Str) : z.length = z.cps.toList.length := (Array.length_toList).symm
theorem app_len (a b : Str) : (a ++ b).length = a.length + b.length := by
  rw [len_cps, len_cps, len_cps, app_cps, List.length_append]
theorem cut_cps (z : Str) (lo hi : Option Int) : (cutS z lo hi).cps.toList = (z.cps.toList.drop (HT.sIx z.length 0 lo)).take (HT.sIx z.length z.length hi - HT.sIx z.length 0 lo) := rfl
theorem cut_from {z : Str} {i : Int} (h0 : 0 ≤ i) : (cutS z (some i) none).cps.toList = z.cps.toList.drop i.toNat := by
  obtain ⟨k, rfl⟩ : ∃ k : Nat, i = k := ⟨i.toNat, by omega⟩
  rw [cut_cps, HT.sIx_nat, HT.sIx_none, Int.toNat_natCast, len_cps]
  rcases Nat.le_total k z.cps.toList.length with h | h
  · rw [Nat.min_eq_left h, List.take_of_length_le (by rw [List.length_drop]; omega)]
  · rw [Nat.min_eq_right h, List.drop_of_length_le (Nat.le_refl _), List.drop_of_length_le h, List.take_nil]
theorem cut_to {z : Str} {j : Int} (h0 : 0 ≤ j) : (cutS z none (some j)).cps.toList = z.cps.toList.take j.toNat := by
  obtain ⟨k, rfl⟩ : ∃ k : Nat, j = k := ⟨j.toNat, by omega⟩
  rw [cut_cps, HT.sIx_nat, HT.sIx_none, Int.toNat_natCast, len_cps, List.drop_zero, Nat.sub_zero]
  rcases Nat.le_total k z.cps.toList.length with h | h
  · rw [Nat.min_eq_left h]
  · rw [Nat.min_eq_right h, List.take_of_length_le (Nat.le_refl _), List.take_of_length_le h]
theorem cut_mid {z : Str} {i j : Int} (h0 : 0 ≤ i) (h1 : 0 ≤ j) (h2 : i ≤ z.length) (h3 : j ≤ z.length) : (cutS z (some i) (some j)).cps.toList = (z.cps.toList.drop i.toNat).take (j.toNat - i.toNat) := by
  obtain ⟨k, rfl⟩ : ∃ k : Nat, i = k := ⟨i.toNat, by omega⟩
  obtain ⟨m, rfl⟩ : ∃ k : Nat, j = k := ⟨j.toNat, by omega⟩
  rw [cut_cps, HT.sIx_nat, HT.sIx_nat, Int.toNat_natCast, Int.toNat_natCast, Nat.min_eq_left (by omega), Nat.min_eq_left (by omega)]
theorem Letters.len {z : Str} (h : Letters z) : z.length = 26 := by rw [len_cps, h.length_eq, alpha_len]
theorem Letters.asc {z : Str} (h : Letters z) : Asc z := fun c hc => by
  have := (mem_alpha.mp (h.mem_iff.mp hc)).2
  omega
theorem letters_alpha : Letters alphaS := by unfold Letters; rw [alphaS_cps]
theorem letters_rev : Letters (revT alphaS) := by decide +kernel
theorem perm_rot {l : List Nat} (k : Nat) : (l.drop k ++ l.take k).Perm l := by
  refine List.perm_append_comm.trans ?_
  rw [List.take_append_drop]
theorem letters_rot {z a b : Str} {k : Nat} (h : Letters z) (ha : a.cps.toList = z.cps.toList.drop k) (hb : b.cps.toList = z.cps.toList.take k) : Letters (a ++ b) := by
  unfold Letters
  rw [app_cps, ha, hb]
  exact (perm_rot k).trans h
theorem perm_pull {l : List Nat} {t a : Nat} {c : Nat} (hta : t ≤ a) (hc : l[a]? = some c) : (l.take t ++ [c] ++ ((l.drop t).take (a - t) ++ l.drop (a + 1))).Perm l := by
  obtain ⟨ha, ec⟩ := List.getElem?_eq_some_iff.mp hc
  have e1 : l = l.take t ++ ((l.drop t).take (a - t) ++ (c :: l.drop (a + 1))) := by
    have h1 : l.drop t = (l.drop t).take (a - t) ++ (l.drop t).drop (a - t) := (List.take_append_drop _ _).symm
    have h2 : (l.drop t).drop (a - t) = l.drop a := by rw [List.drop_drop]; congr 1; omega
    have h3 : l.drop a = c :: l.drop (a + 1) := by rw [List.drop_eq_getElem_cons ha, ec]
    rw [← h3, ← h2, ← h1, List.take_append_drop]
  have e2 : (l.take t ++ [c] ++ ((l.drop t).take (a - t) ++ l.drop (a + 1))).Perm (l.take t ++ ((l.drop t).take (a - t) ++ (c :: l.drop (a + 1)))) := by
    rw [List.append_assoc]
    refine List.Perm.append_left _ ?_
    show ([c] ++ ((l.drop t).take (a - t) ++ l.drop (a + 1))).Perm _
    exact (List.perm_middle (a := c) (l₁ := (l.drop t).take (a - t)) (l₂ := l.drop (a + 1))).symm
  rw [← e1] at e2
  exact e2
theorem letters_pull {z x y r : Str} {t a c : Nat} (h : Letters z) (hta : t ≤ a) (hc : z.cps.toList[a]? = some c) (hx : x.cps.toList = z.cps.toList.take t) (hy : y.cps.toList = [c]) (hr : r.cps.toList = (z.cps.toList.drop t).take (a - t) ++ z.cps.toList.drop (a + 1)) : Letters (x ++ y ++ r) := by
  unfold Letters
  rw [app_cps, app_cps, hx, hy, hr]
  exact (perm_pull hta hc).trans h
end Bt
namespace Bt
open PySem PySem.Spec PyProof.Rows L2
section
variable {X : Cx}
/-- a tuple == an instance of an own class: the class's own __eq__ answers -/
def rEqTupOwn (K : PySem.W.Frag) (C : Addr) (sp : Sp) (E : XK) : R2 := fun x y H Q => ∃ t xs a dx fs, x = .ref t ∧ H t = some (.tup xs) ∧ y = .ref a ∧ H a = some (.ins C dx fs) ∧ sp [y, x] H (fun v H' => ∃ b, v = .bl b ∧ Q v H') E
theorem op_eqTupOwn {CX : CXT} {n : Nat} {C f : Addr} {fd : FuncData} {ps : List Str} {sp : Sp} {E : XK} (F : FnOk X.prog X.w X.K X.mg X.base CX n f fd ps sp) (hr : Room n X.A)
    (hs : PySem.W.findIn X.K (.ref C) "__eq__" = some (some (.ref f))) (hf : PySem.W.isFn X.K (.ref f) = true) (hb : Binds X.K fd ps []) (hx : Passes CX X E)
    (hsub : PySem.W.subIn X.K (.ref C) (.type "tuple") = some false) (hmro : PySem.W.mroIn X.K C (.type "tuple") = some false) : OpR X (compareOp .Eq) (rEqTupOwn X.K C sp E) := by
  intro pins s σ H x y v u Q I rx ry hq
  obtain ⟨t, xs, a, dx, fs, rfl, ht, rfl, ha, hsp⟩ := hq
  cases rx
  cases ry
  obtain ⟨mA, J, _⟩ := ins_get I.hok ha
  obtain ⟨od, J, _⟩ := J.look
  obtain ⟨m, hF⟩ := I.fr
  obtain ⟨its, r, pl, hz⟩ := I.tuple (.inl (.inl ht))
  have XK := I.kIn
  have hT : s.TypeIs (.ref t) "tuple" := pl.typeIs
  show wpAny (model X.prog X.w) X.A (richCompare .Eq (.ref t) (.ref a)) (EP X pins σ Q) X.xe s
  have inst : PySem.W.Looks (model X.prog X.w) s.heap (isInstance (.ref a) (.type "tuple")) false := J.type.andThen (PySem.W.looks_mroIn XK hmro)
  unfold richCompare
  simp only [oneThing_ref]
  refine wpAny_holding (wpAny_bind (wpAny_cRoomFor hr.units0 ?_))
  refine wpAny_bind (wpAny_typeOf hT (wpAny_bind (J.type.here ?_)))
  rw [if_pos (by rfl)]
  refine wpAny_bind ((PySem.W.looks_subIn XK hsub).here ?_)
  simp only [Bool.false_eq_true, if_false]
  refine wpAny_bind (wpAny_tryCompare_declines hT PySem.F.slot_tuple_eq (wpAny_call_entry PySem.F.slot_tuple_eq hT PySem.F.entry_tuple_eq ?_ (PySem.F.args_tuple_eq_2 _ _)))
  have hl := F.len _ _ _ _ hsp
  have r2 : Vals [V.ref a, V.ref t] [Value.ref a, Value.ref t] := .cons rfl (.cons rfl .nil)
  have back : ∀ s' : Shared, s' = s → wpAny (model X.prog X.w) X.A (tryCompare (.ref a) "__eq__" (.ref t)) (fun r s' => ∃ v, r = some v ∧ EP X pins σ Q v s') X.xe s' := fun s' e => by
    subst e
    unfold tryCompare
    refine wpAny_bind (PySem.W.ifBound_K XK J hs hf (wpAny_call (codeAny_mono (F.run X.A X.stack s' H ⟨[.ref a, .ref t], []⟩ [.ref a, .ref t] [.ref a, .ref t] _ E hr I.env0 (by
      have := hb s' [.ref a, .ref t] I.kIn (by simpa using hl)
      simpa using this) r2 hsp) fun r s' hq => ?_)))
    cases r with
    | error e => exact hx pins σ H _ e s' I hq
    | ok fl =>
      cases fl with
      | ret w =>
        obtain ⟨z, H', I', rz, b, ez, q⟩ := I.after hq
        subst ez
        cases rz
        exact wpAny_pure ⟨_, rfl, .bl b, H', I', rfl, q⟩
      | next => exact False.elim hq
      | brk => exact False.elim hq
      | cont => exact False.elim hq
  have step : ∀ s' : Shared, s' = s → wpAny (model X.prog X.w) X.A.in1 (Builtin.«tuple.__eq__» ⟨[.ref t, .ref a], []⟩) (fun fin s'' => fin = Fin.done (Flow.ret Value.notImplemented) ∧ s'' = s) X.xe s' := fun s' e => by
    subst e
    obtain ⟨hp, g, d, tk, os⟩ := s'
    unfold Builtin.«tuple.__eq__»
    wp_delta
    repeat (first | with_reducible refine inst.at ?_ | wp_step)
    exact ⟨rfl, rfl⟩
  refine wpAny_mono (step s rfl) (fun fin s' z => ?_) fun _ _ x => x
  obtain ⟨e1, e2⟩ := z
  subst e1 e2
  refine ⟨_, rfl, rfl, ?_⟩
  rw [if_pos (by rfl)]
  refine wpAny_bind (wpAny_mono (back _ rfl) (fun r s' z => ?_) fun _ _ x => x)
  obtain ⟨v, rfl, q⟩ := z
  exact wpAny_pure q
end
/-- for i, x in enumerate(xs) -/
theorem for_enum {K : PySem.W.Frag} {a : Addr} {xs : List V} {g : TG} {tb : TS} {D : Ends} {σ : L2.St} {H : Hp} (Pv : Nat → L2.St → Hp → Prop) (h0 : Pv 0 σ H) (hl : ∀ i σ H, i ≤ xs.length → Pv i σ H → SqL K H a xs)
    (hs : ∀ i x σ H T, xs[i]? = some x → Pv i σ H → H T = none → g (.ref T) σ (upd H T (.tup [.int (i : Nat), x])) fun σ2 H2 => tb { D with nx := Pv (i + 1), ct := Pv (i + 1), bk := D.nx } σ2 H2) (hd : ∀ σ H, Pv xs.length σ H → D.nx σ H) :
    ∃ W : Nat → Nat → L2.St → Hp → Prop, (∃ m, W 0 m σ H) ∧ ∀ i m σ H, W i m σ H →
      ((Ite K a).stop i H ∧ D.nx σ H) ∨ ((Ite K a).go i H ∧ ∃ N : L2.St → Hp → Prop, (∀ σ' H', N σ' H' → ∃ m', m' < m ∧ W (i + 1) m' σ' H') ∧ ∀ x H', (Ite K a).yld i H x H' → g x σ H' fun σ2 H2 => tb { D with nx := N, ct := N, bk := D.nx } σ2 H2) := by
  refine ⟨fun i m σ H => m = xs.length - i ∧ i ≤ xs.length ∧ Pv i σ H, ⟨xs.length, by simp, Nat.zero_le _, h0⟩, ?_⟩
  rintro i m σ H ⟨rfl, hi, p⟩
  have q := hl i σ H hi p
  by_cases hlt : i < xs.length
  · refine .inr ⟨⟨xs, xs[i], q, by simp [hlt]⟩, Pv (i + 1), fun σ' H' p' => ⟨xs.length - (i + 1), by omega, rfl, hlt, p'⟩, fun x H' y => ?_⟩
    obtain ⟨T, x0, e1, nT, e2, y⟩ := y
    subst e1 e2
    exact hs i x0 σ _ T (y xs q) p nT
  · have e : i = xs.length := by omega
    subst e
    exact .inl ⟨⟨xs, q, Nat.le_refl _⟩, hd σ H p⟩
theorem s_iList {K : PySem.W.Frag} {te : TE} {σ : L2.St} {H : Hp} {R : It → Hp → Prop} (h : te σ H fun x H1 => ∃ a, x = .ref a ∧ (∃ xs, SqL K H1 a xs) ∧ R (Itl K a) H1) : iList K te σ H R := h
theorem s_iEnum {K : PySem.W.Frag} {ts : TA} {σ : L2.St} {H : Hp} {R : It → Hp → Prop} (h : ts σ H fun vs H1 => ∃ a xs, vs = [.ref a] ∧ SqL K H1 a xs ∧ R (Ite K a) H1) : iEnum K ts σ H R := h
theorem same_but {p : Addr} {H0 H1 H2 : Hp} (S : Same H0 H1) (n : H0 p = none) (b : But p H1 H2) : Same H0 H2 := fun c o h => b c o (ne_of_none h n) (S c o h)
theorem s_par {i j : Nat} {ta : TA} {D : Ends} {σ : L2.St} {H : Hp} (h : ta σ H fun vs H1 => ∃ v w, vs = [v, w] ∧ D.nx ((σ.set i (some v)).set j (some w)) H1) : tPar i j ta D σ H := h
theorem s_gcons {t : TG} {u : TGs} {v : V} {r : List V} {σ : L2.St} {H : Hp} {N : L2.St → Hp → Prop} (h : t v σ H fun σ' H' => u r σ' H' N) : gCons t u (v :: r) σ H N := ⟨v, r, rfl, h⟩
theorem s_gnil {σ : L2.St} {H : Hp} {N : L2.St → Hp → Prop} (h : N σ H) : gNil [] σ H N := ⟨rfl, h⟩
theorem q_gtup {K : PySem.W.Frag} {n : Nat} {t : TGs} {a : Addr} {xs : List V} {σ : L2.St} {H : Hp} {N : L2.St → Hp → Prop} (h : SqT K H a xs) (hl : xs.length = n) (q : t xs σ H N) : gTup K n t (.ref a) σ H N := ⟨a, xs, rfl, h, hl, q⟩
theorem q_slL {K : PySem.W.Frag} {a : Addr} {xs : List V} {lo hi : Option Int} {H : Hp} {Q : VK} (h : SqL K H a xs) (q : ∀ p H', H p = none → Same H H' → H' p = some (.lst (cutV xs lo hi)) → Q (.ref p) H') : rSlL K (.ref a) lo hi H Q := ⟨a, xs, rfl, h, fun p n => q p _ n (Same.new n) upd_same⟩
theorem q_append {l : Addr} {xs : List V} {y : V} {H : Hp} {Q : VK} (h : H l = some (.lst xs)) (hl : xs.length < sizeLine) (q : ∀ H', But l H H' → H' l = some (.lst (xs ++ [y])) → Q .non H') : rAppend (.ref l) [y] H Q := ⟨l, xs, y, rfl, rfl, h, hl, q _ But.upd upd_same⟩
/-- a for over J from here on -/
def ForIt (J : It) (g : TG) (tb : TS) (D : Ends) (σ : L2.St) (H : Hp) : Prop := ∃ W : Nat → Nat → L2.St → Hp → Prop, (∃ m, W 0 m σ H) ∧ ∀ i m σ H, W i m σ H →
  (J.stop i H ∧ D.nx σ H) ∨ (J.go i H ∧ ∃ N : L2.St → Hp → Prop, (∀ σ' H', N σ' H' → ∃ m', m' < m ∧ W (i + 1) m' σ' H') ∧ ∀ x H', J.yld i H x H' → g x σ H' fun σ2 H2 => tb { D with nx := N, ct := N, bk := D.nx } σ2 H2)
theorem s_for {wi : TI} {g : TG} {tb : TS} {D : Ends} {σ : L2.St} {H : Hp} (h : wi σ H fun J H1 => ForIt J g tb D σ H1) : tFor wi g tb D σ H := h
section
variable {K : PySem.W.Frag} {a : Addr} {xs : List V} {g : TG} {tb : TS} {D : Ends} {σ : L2.St} {H : Hp}
theorem q_forL (Pv : Nat → L2.St → Hp → Prop) (h0 : Pv 0 σ H) (hl : ∀ i σ H, i ≤ xs.length → Pv i σ H → SqL K H a xs)
    (hs : ∀ i x σ H, xs[i]? = some x → Pv i σ H → g x σ H fun σ2 H2 => tb { D with nx := Pv (i + 1), ct := Pv (i + 1), bk := D.nx } σ2 H2) (hd : ∀ σ H, Pv xs.length σ H → D.nx σ H) : ForIt (Itl K a) g tb D σ H := for_list Pv h0 hl hs hd
theorem q_forE (Pv : Nat → L2.St → Hp → Prop) (h0 : Pv 0 σ H) (hl : ∀ i σ H, i ≤ xs.length → Pv i σ H → SqL K H a xs)
    (hs : ∀ i x σ H T, xs[i]? = some x → Pv i σ H → H T = none → g (.ref T) σ (upd H T (.tup [.int (i : Nat), x])) fun σ2 H2 => tb { D with nx := Pv (i + 1), ct := Pv (i + 1), bk := D.nx } σ2 H2) (hd : ∀ σ H, Pv xs.length σ H → D.nx σ H) : ForIt (Ite K a) g tb D σ H := for_enum Pv h0 hl hs hd
theorem q_forR {lo : Int} {n : Nat} (Pv : Nat → L2.St → Hp → Prop) (h0 : Pv 0 σ H)
    (hs : ∀ i σ H, i < n → Pv i σ H → g (.int (lo + i)) σ H fun σ2 H2 => tb { D with nx := Pv (i + 1), ct := Pv (i + 1), bk := D.nx } σ2 H2) (hd : ∀ σ H, Pv n σ H → D.nx σ H) : ForIt (Itr lo n) g tb D σ H := for_range Pv h0 hs hd
end
theorem s_rng1 {ta : TA} {σ : L2.St} {H : Hp} {R : It → Hp → Prop} (h : ta σ H fun vs H1 => ∃ j : Int, vs = [.int j] ∧ -(2 ^ 62) ≤ j ∧ j < 2 ^ 62 ∧ R (Itr 0 j.toNat) H1) : iRng1 ta σ H R := h
end Bt
namespace Bt
open PySem PySem.Spec PyProof.Rows L2
/-! ### sum of a tuple of ints -/
theorem sum_tup {prog : Program} {w : World} {A : Around} {E : Value → Shared → Prop} {s : Shared} {l : Addr} {its : List Value} {ns : List Int} {Q : Value → Shared → Prop} (hh : A.handled = none) (hl : IsTup s.heap l its.toArray) (hi : IntsAre its ns)
    (h : ∀ h' tk t', (∀ b o, s.heap.get? b = some o → h'.get? b = some o) → Q (.int ns.sum t') { s with heap := h', toks := tk }) : wpAny (model prog w) A (call (.builtin "sum") [.ref l]) Q E s := by
  obtain ⟨xs, e⟩ := hi.allInts.items
  have hn : numsOf (intItems xs).toList = ns := by rw [← e]; exact hi.numsOf
  rw [nums_intItems] at hn
  rw [e] at hl
  have hlt : l < s.heap.objs.size := by obtain ⟨_, e, _⟩ := hl; exact Heap.lt_size e
  refine call_sum_walkG (iter_tuple hl ?_)
  refine ⟨_, _, _, _, _, _, numAt xs, rfl, Walks.tuple (A := A.in1) hh _ l (Nat.ne_of_lt hlt) (intItems xs), ⟨⟨_, Heap.get?_push_size _ rfl, rfl, rfl⟩, ?_⟩, fun b hb => ?_, (fun _ _ => intItems_at), fun h' tk t' hk => ?_⟩
  · obtain ⟨o, ho, hc, n, hd⟩ := hl
    exact ⟨o, Heap.get?_push_of_some _ ho, hc, n, hd⟩
  · show b < (s.heap.push _).objs.size
    rw [Heap.size_push]
    rcases List.mem_cons.mp hb with rfl | hb
    · exact Nat.lt_succ_self _
    · rw [List.mem_singleton.mp hb]
      exact Nat.lt_succ_of_lt hlt
  · have := h h' tk t' fun b o e => hk b o (fun hm => by
      rw [List.mem_singleton.mp hm] at e
      exact absurd (Heap.lt_size e) (Nat.lt_irrefl _)) (Heap.get?_push_of_some _ e)
    rw [preSum_eq, List.take_of_length_le (by simp [intItems]), hn]
    exact this
def rSumT (K : PySem.W.Frag) : List V → Hp → VK → Prop := fun vs H Q => ∃ (a : Addr) (ns : List Int), vs = [V.ref a] ∧ SqT K H a (ns.map V.int) ∧ Q (.int ns.sum) H
theorem cr_sumT {X : Cx} (hc : X.calm = true) : CallR X (.builtin "sum") (rSumT X.K) := by
  intro pins s σ H vs us Q I r h
  obtain ⟨a, ns, rfl, hs, q⟩ := h
  obtain ⟨its, rv, hl, _⟩ := I.tuple hs
  rw [Vals.ref1 r]
  exact sum_tup (I.ok.hd hc) hl rv.ints fun h' tk t' hk => ⟨.int _, H, I.kept hk, ⟨_, rfl⟩, q⟩
theorem q_sumT {K : PySem.W.Frag} {H : Hp} {Q : VK} {a : Addr} {ns : List Int} (h : SqT K H a (ns.map V.int)) (q : Q (.int ns.sum) H) : rSumT K [.ref a] H Q := ⟨a, ns, rfl, h, q⟩
def rSumL (K : PySem.W.Frag) : List V → Hp → VK → Prop := fun vs H Q => ∃ (a : Addr) (ns : List Int), vs = [V.ref a] ∧ SqL K H a (ns.map V.int) ∧ Q (.int ns.sum) H
theorem cr_sumL {X : Cx} (hc : X.calm = true) : CallR X (.builtin "sum") (rSumL X.K) := cr_sum hc
theorem q_sumL {K : PySem.W.Frag} {H : Hp} {Q : VK} {a : Addr} {ns : List Int} (h : SqL K H a (ns.map V.int)) (q : Q (.int ns.sum) H) : rSumL K [.ref a] H Q := ⟨a, ns, rfl, h, q⟩
def rTupL (K : PySem.W.Frag) : List V → Hp → VK → Prop := fun xs H Q => ∃ p ys, xs = [.ref p] ∧ ((SqL K H p ys ∧ ∀ l, H l = none → Q (.ref l) (upd H l (.tup ys))) ∨ (SqT K H p ys ∧ Q (.ref p) H))
theorem call_tupL {X : Cx} : CallR X (.type "tuple") (rTupL X.K) := call_tuple_of
theorem q_tupL {K : PySem.W.Frag} {H : Hp} {Q : VK} {p : Addr} {ys : List V} (h : SqL K H p ys) (q : ∀ l H', H l = none → Same H H' → H' l = some (.tup ys) → Q (.ref l) H') : rTupL K [.ref p] H Q := ⟨p, ys, rfl, .inl ⟨h, fun l n => q l _ n (Same.new n) upd_same⟩⟩
end Bt
namespace Bt
open PySem PySem.Spec PyProof.Rows L2
/-! ### o(e, ..), o an instance with an own __call__ that may raise; what is raised is wished for at the caller's slots -/
section
variable {X : Cx} {CX : CXT} {k : Nat} {C g : Addr} {fd : FuncData} {ps : List Str} {sp : Sp} {E : L2.St → XK} {pos : Pos} {fe e : Expr} {es : List Expr} {tf : TE} {t : TA}
def tCallOS (C : Addr) (sp : Sp) (E : L2.St → XK) (tf : TE) (t : TA) : TE := fun σ H Q => tf σ H fun y H1 => ∃ a, y = V.ref a ∧ t σ H1 fun vs H2 => (∃ dx fs, H2 a = some (.ins C dx fs)) ∧ sp (V.ref a :: vs) H2 Q (E σ)
theorem run_callOS {pins : List (Addr × Obj)} {σ : L2.St} {H : Hp} {s : Shared} {Q : VK} {a : Addr} {us : List Value} {vs : List V} (c : StX.CallO X.K C g) (F : FnOk X.prog X.w X.K X.mg X.base CX k g fd ps sp) (hr : Room k X.A) (hb : Binds X.K fd ps [])
    (hx : PassesAt CX X σ (E σ)) (I : Inv X pins σ H s) (hi : ∃ dx fs, H a = some (.ins C dx fs)) (r : Vals vs us) (h : sp (V.ref a :: vs) H Q (E σ)) : wpAny (model X.prog X.w) X.A (call (.ref a) us) (EP X pins σ Q) X.xe s := by
  obtain ⟨ox, od, J, hd⟩ := StX.insC_at I (.inr hi)
  have r2 : Vals (V.ref a :: vs) (Value.ref a :: us) := .cons rfl r
  have hl : ((Value.ref a :: us) ++ []).length = ps.length := by rw [List.append_nil, ← r2.length]; exact F.len _ _ _ _ h
  have hb' := hb s (Value.ref a :: us) I.kIn hl
  rw [List.append_nil] at hb'
  refine wpAny_call (PySem.W.kco_code I.kIn J hd c.at_ c.fn c.fi (codeAny_mono (F.run X.A X.stack s H ⟨Value.ref a :: us, []⟩ (Value.ref a :: us) (V.ref a :: vs) Q (E σ) hr I.env0 hb' r2 h) fun r s' hq => ?_))
  cases r with
  | error e => exact hx pins H s e s' I hq
  | ok fl =>
    cases fl with
    | ret u => exact I.after hq
    | next => exact False.elim hq
    | brk => exact False.elim hq
    | cont => exact False.elim hq
theorem pe_callOS (hf : PE X fe tf) (c : StX.CallO X.K C g) (F : FnOk X.prog X.w X.K X.mg X.base CX k g fd ps sp) (hr : Room k X.A) (hb : Binds X.K fd ps []) (hx : ∀ σ, PassesAt CX X σ (E σ)) (ha : PA X (e :: es) t)
    (ht : eval (.Call fe (e :: es) [] pos) X.env = (do callWith pos (← eval fe X.env) [] (backTo pos (starEach (e :: es) X.env)) (backToKw pos (keywordEach [] X.env))) := by rfl)
    (he : starEach (e :: es) X.env = (false, eval e X.env) :: starEach es X.env := by rfl) (hpl : (backTo pos (starEach es X.env)).any (·.1) = false := by rfl) : PE X (.Call fe (e :: es) [] pos) (tCallOS C sp E tf t) := by
  refine ⟨fun pins s σ H Q I h => ?_⟩
  refine Call_ (thn (hf.run pins s σ H _ I h) fun u s1 ⟨y, H1, I1, ry, a, ey, q⟩ => ?_) ht
  subst ey
  obtain rfl : u = Value.ref a := ry
  refine StX.callO_with (thn (ha.run pos pins s1 σ H1 _ I1 q) fun us s2 ⟨vs, H2, I2, r, hi, q2⟩ => ?_) he hpl
  obtain ⟨ox, od, J, hd⟩ := StX.insC_at I2 (.inr hi)
  exact ⟨⟨C, ox, od, J, hd⟩, run_callOS c F hr hb (hx σ) I2 hi r q2⟩
theorem s_callOS {σ : L2.St} {H : Hp} {Q : VK} (h : tf σ H fun y H1 => ∃ a, y = V.ref a ∧ t σ H1 fun vs H2 => (∃ dx fs, H2 a = some (.ins C dx fs)) ∧ sp (V.ref a :: vs) H2 Q (E σ)) : tCallOS C sp E tf t σ H Q := h
end
end Bt
namespace Bt
open PySem PySem.Spec PyProof.Rows L2 LamX NdefX
/-! ### a lambda as a value -/
structure LF where
  qual : Str
  params : Arguments
  body : Expr
  scope : Scope
  cl : List (Str × Addr)
  c : Addr
abbrev LF.fd (F : LF) (pm ctv : Value) : FuncData := PySem.W.kla_fn "<lambda>" F.qual F.params F.body F.scope F.cl pm (.ref F.c) ctv
def FnL (f : Addr) (F : LF) : HO := .ext fun h => ∃ (od : Option Addr) (sl : Array (Option Value)) (pm ctv : Value), h.get? f = some (⟨.type "function", od, .func (F.fd pm ctv), sl⟩ : Obj)
theorem fnL_at {P : Program} {w : World} {H : Hp} {h : Heap} {f : Addr} {F : LF} (hok : HOk P w H h) (e : H f = some (FnL f F)) : ∃ (od : Option Addr) (sl : Array (Option Value)) (pm ctv : Value), h.get? f = some (⟨.type "function", od, .func (F.fd pm ctv), sl⟩ : Obj) := by
  obtain ⟨z, _, _⟩ := hok f _ e
  exact z
section
variable {X : Cx} {pins : List (Addr × Obj)} {σ : L2.St} {H : Hp} {s : Shared}
theorem inv_lf {F : LF} {o : Obj} {t' : Nat} {pm ctv : Value} {h : Heap} (I : Inv X pins σ H { s with heap := h, toks := t' }) (ho : o = { cls := .type "function", data := .func (F.fd pm ctv) }) :
    Inv X pins σ (upd H h.objs.size (FnL h.objs.size F)) { s with heap := h.push o, toks := t' } := by
  subst ho
  refine I.laid (t' := t') (a := h.objs.size) (fun b u e => Heap.get?_push_of_some _ e) (Nat.le_refl _) ?_
  have e : (h.push ({ cls := .type "function", data := .func (F.fd pm ctv) } : Obj)).get? h.objs.size = some ({ cls := .type "function", data := .func (F.fd pm ctv) } : Obj) := Heap.get?_push_size _ rfl
  exact ⟨⟨_, _, pm, ctv, e⟩, ⟨_, e⟩, fun h1 h2 ⟨od, sl, p, t, z⟩ st => ⟨od, sl, p, t, st _ z⟩⟩
/-- the heap with one more row in the table at P: the code object c' of the place pos -/
def putT (H : Hp) (P c' : Addr) (ps : Array Value) (pos : Pos) (q : Str) : Hp := upd (upd H P (.tbl (ps ++ #[rawInt pos.line, rawInt pos.col, .ref c']))) c' (CodeO c' q)
section
variable {P c' : Addr} {ps : Array Value} {pos : Pos} {q : Str}
theorem putT_code : putT H P c' ps pos q c' = some (CodeO c' q) := upd_same
theorem putT_tab (hP : H P = some (.tbl ps)) (nC : H c' = none) : putT H P c' ps pos q P = some (.tbl (ps ++ #[rawInt pos.line, rawInt pos.col, .ref c'])) := (upd_ne (ne_of_none hP nC)).trans upd_same
theorem putT_ne {b : Addr} (h1 : b ≠ P) (h2 : b ≠ c') : putT H P c' ps pos q b = H b := (upd_ne h2).trans (upd_ne h1)
theorem putT_old (hP : H P = some (.tbl ps)) (nC : H c' = none) : ExtN H (putT H P c' ps pos q) := fun b o e n =>
  (putT_ne (fun z => by subst z; exact n ps (Option.some.inj (e.symm.trans hP))) (ne_of_none e nC)).trans e
theorem putT_none {b : Addr} (e : putT H P c' ps pos q b = none) : H b = none := upd_none (upd_none e)
theorem putT_tabs {T : List NTab} {nm : Nat → Nat → Str} (hT : TabsN T H) (hP : H P = some (.tbl ps)) (nC : H c' = none) (ok : TriplesOk ps.toList) (own : ∀ (p' : Pos) (cv : Value), codeAmong p' ps.toList = some cv → ∃ d, cv = .ref d ∧ H d = some (CodeO d (nm p'.line p'.col)))
    (hq : nm pos.line pos.col = q) (hu : ∀ p ∈ T, p.1 = P → p.2 = nm) : TabsN T (putT H P c' ps pos q) := by
  have lift : ∀ {d : Addr} {r : Str}, H d = some (CodeO d r) → putT H P c' ps pos q d = some (CodeO d r) := fun e => putT_old hP nC _ _ e codeO_ne
  rintro ⟨R, mm⟩ hp
  by_cases hR : R = P
  · subst hR
    obtain rfl : mm = nm := hu _ hp rfl
    refine ⟨_, putT_tab hP nC, ?_⟩
    rw [show (ps ++ #[rawInt pos.line, rawInt pos.col, Value.ref c']).toList = ps.toList ++ [rawInt pos.line, rawInt pos.col, .ref c'] by simp]
    refine ⟨TriplesOk_snoc _ _ _ _ ok, fun p' cv hcv => (among_app2 _ ok hcv).elim (fun old => ?_) (fun new => ?_)⟩
    · obtain ⟨d, ed, hd⟩ := own p' cv old
      exact ⟨d, ed, lift hd⟩
    · obtain ⟨ec, el, ek⟩ := new
      exact ⟨c', ec, by rw [putT_code, ← hq, el, ek]⟩
  · obtain ⟨qs, t1, t2, t3⟩ := hT _ hp
    refine ⟨qs, (putT_ne hR (ne_of_none t1 nC)).trans t1, t2, fun p' cv hcv => ?_⟩
    obtain ⟨d, ed, hd⟩ := t3 p' cv hcv
    exact ⟨d, ed, lift hd⟩
end
/-- what the maker of a lambda goes on with -/
def LamK (T : List NTab) (H : Hp) (mk : Addr → LF) (f c' : Addr) (H1 : Hp) : Prop :=
  ExtN H H1 ∧ (∀ b, H1 b = none → H b = none) ∧ TabsN T H1 ∧ H f = none ∧ H1 f = some (FnL f (mk c')) ∧ H1 c' = some (CodeO c' (mk c').qual)
theorem lamK_of {T : List NTab} {H H0 : Hp} {mk : Addr → LF} {f c' : Addr} (old : ExtN H H0) (bk : ∀ b, H0 b = none → H b = none) (ht : TabsN T H0) (hc : H0 c' = some (CodeO c' (mk c').qual)) (nf : H0 f = none) : LamK T H mk f c' (upd H0 f (FnL f (mk c'))) := by
  have st : ∀ {b : Addr} {o : HO}, H0 b = some o → upd H0 f (FnL f (mk c')) b = some o := fun e => (upd_ne (ne_of_none e nf)).trans e
  exact ⟨fun b o e n => st (old b o e n), fun b e => bk b (upd_none e), ht.ext fun _ _ e => st e, bk f nf, upd_same, st hc⟩
theorem lam_makeN {T : List NTab} {nm : Nat → Nat → Str} {c P : Addr} {params : Arguments} {body : Expr} {scope : Scope} {pos : Pos} {mk : Addr → LF} {E : Value → Shared → Prop} {Q : Value → Shared → Prop} (I : Inv X pins σ H s) (TB : TabB X.base X.mg c P) (hcode : X.env.code = .ref c)
    (hm : (P, nm) ∈ T) (hu : ∀ p ∈ T, p.1 = P → p.2 = nm) (hT : TabsN T H) (hdef : defaultsOf params X.env = ([], [])) (hfree : ∀ y ∈ scope.names, y.2 = .free → ∃ c, X.env.cells.lookup y.1 = some c)
    (hmk : ∀ d, mk d = ⟨X.env.qual ++ "<lambda>", params, body, scope, cloFrom X.env.cells scope.names [], d⟩) (hn : nm pos.line pos.col = X.env.qual ++ "<lambda>")
    (go : ∀ (f c' : Addr) (H1 : Hp) (s' : Shared), Inv X pins σ H1 s' → LamK T H mk f c' H1 → Q (.ref f) s') :
    wpAny (model X.prog X.w) X.A (eval (.Lambda params body scope pos) X.env) Q E s := by
  have tab := hT _ hm
  obtain ⟨ps, hP, ok, own⟩ := (tab : TabN H P nm)
  have gP := I.hok P _ hP
  have code := TB.code.keeps I.bk
  have glob := I.mod.glob.keeps I.bk
  have bm := TB.bm.keeps I.bk
  have qual : ∀ d, (mk d).qual = X.env.qual ++ "<lambda>" := fun d => by rw [hmk]
  refine PySem.W.kla_eval hdef ?_
  rcases hc : codeAmong pos ps.toList with _ | cv
  · refine PySem.W.kla_makeFunction (closure_ok hfree) I.ok.glob glob hcode code gP ok hc TB.gP bm ?_
    intro c' ctv g tk keep up lt rec_ row
    obtain ⟨d0, oc, vs, t, e0, l1, l2, l3⟩ := rec_
    cases e0
    have nC : H c' = none := I.hok.fresh up
    have J : Inv X pins σ (putT H P c' ps pos (X.env.qual ++ "<lambda>")) { s with heap := g, toks := tk } := inv_table I hP (fun b o n e => keep b o n e) row up ⟨oc, vs, t, l1, l2, l3⟩
    have nf := J.hok.fresh (Nat.le_refl g.objs.size)
    refine go _ c' _ _ (inv_lf (F := mk c') J (by rw [hmk])) (lamK_of (putT_old hP nC) (fun _ e => putT_none e) (putT_tabs hT hP nC ok own hn hu) ?_ nf)
    rw [qual]
    exact putT_code
  · obtain ⟨d, rfl, hd⟩ := own pos cv hc
    refine PySem.W.kla_makeFunctionHit (closure_ok hfree) I.ok.glob glob hcode code gP ok hc bm ?_
    intro ctv g tk keep _
    have J : Inv X pins σ H { s with heap := g, toks := tk } := I.kept keep
    refine go _ d _ _ (inv_lf (F := mk d) J (by rw [hmk])) (lamK_of (fun _ _ e _ => e) (fun _ e => e) hT ?_ (J.hok.fresh (Nat.le_refl g.objs.size)))
    rw [qual, ← hn]
    exact hd
end
def tLamV (T : List NTab) (mk : Addr → LF) : TE := fun σ H Q => TabsN T H ∧ ∀ (f c' : Addr) (H1 : Hp), LamK T H mk f c' H1 → Q (.ref f) H1
theorem pe_lambda {X : Cx} {T : List NTab} {nm : Nat → Nat → Str} {c P : Addr} {params : Arguments} {body : Expr} {scope : Scope} {pos : Pos} (TB : TabB X.base X.mg c P) (hcode : X.env.code = .ref c) (hm : (P, nm) ∈ T) (hn : nm pos.line pos.col = X.env.qual ++ "<lambda>") (hu : ∀ p ∈ T, p.1 = P → p.2 = nm)
    (hfree : ∀ y ∈ scope.names, y.2 = .free → X.env.scope.names.lookup y.1 = some .cell ∨ X.env.scope.names.lookup y.1 = some .free) (hdef : defaultsOf params X.env = ([], []) := by rfl) :
    PE X (.Lambda params body scope pos) (tLamV T fun d => ⟨X.env.qual ++ "<lambda>", params, body, scope, cloFrom X.env.cells scope.names [], d⟩) := by
  refine ⟨fun pins s σ H Q I h => ?_⟩
  obtain ⟨hT, go⟩ := h
  exact lam_makeN I TB hcode hm hu hT hdef (fun y hy e => (hfree y hy e).elim (fun z => I.ok.has _ (.inl z)) fun z => I.ok.has _ (.inr z)) (fun _ => rfl) hn fun f c' H1 s' J k => ⟨.ref f, H1, J, rfl, go f c' H1 k⟩
end Bt
namespace Bt
open PySem PySem.Spec PyProof.Rows L2 LamX NdefX
/-! ### a lambda's run -/
abbrev LF.nf (F : LF) : NF := ⟨"<lambda>", F.qual, F.params, [], F.scope, F.cl, F.c⟩
theorem lam_run {CX : CXT} {P : Program} {w : World} {K : PySem.W.Frag} {mg : Str → Option Value} {base : Heap} {N ps fr : List Str} {F : LF} {f : Addr} {k : Nat} {A : Around} {outer : List Env} {s : Shared} {H : Hp} {us : List Value} {vs : List V} {ws : List (Option V)} {Q : VK} {E : XK} {t : TE}
    (S : NScope N ps fr F.scope) (hb : ∀ (pm ctv : Value) (xs : List Value), xs.length = ps.length → bindArgs (F.fd pm ctv) ⟨xs, []⟩ = pure (ps.zip xs)) (hl : vs.length = ps.length) (hr : Room (k + 1) A) (e0 : Env0 P w K mg base A outer s H)
    (hf : H f = some (FnL f F)) (hc : H F.c = some (CodeO F.c F.qual)) (C : CellsAt F.cl fr ws s.heap H) (r : Vals vs us)
    (body : PE (ncx CX P w K mg base N F.nf f A outer s H E) F.body t) (q : t (startF N vs ws) H Q) : codeAny (model P w) A (.call (.ref f) ⟨us, []⟩) (CR CX outer P w H s Q E) s := by
  have lim := e0.mod.nolimit.keeps fun b o e => (e0.bs b o e).1
  obtain ⟨_, _, pm, ctv, at_⟩ := fnL_at e0.hok hf
  refine PySem.W.kla_callFunE hr.depth at_ rfl S.co S.gen rfl (codeO_at e0.hok hc) ?_
  rw [hb pm ctv us (r.length.symm.trans hl)]
  refine wpAny_pure (wpAny_newFunctionEnv S.nocell (fun y hy => S.par y.1 (List.of_mem_zip hy).1) (fun g hns hsb => ⟨lim.fresh _ hsb, ?_⟩) S.kind)
  have old : ∀ b o, s.heap.get? b = some o → g.get? b = some o := fun b o e => hsb.extBut b o (Nat.ne_of_lt (Heap.lt_size e)) (Heap.get?_push_of_some _ e)
  have J := inv_startN (CX := CX) (F := F.nf) (f := f) (E := E) (tk := s.toks + (ps.zip us).length) S hr.hd e0 hl r C hns old
  refine PySem.W.kla_codeExpr (wpAny_mono (body.run [] _ _ H Q J q) (fun v s' z => ?_) fun _ _ z => z)
  obtain ⟨x, H', J', rv, qv⟩ := z
  exact ⟨x, H', J'.os, J'.bare, J'.base, J'.hok, rv, qv⟩
end Bt
namespace Bt
open PySem PySem.Spec PyProof.Rows L2 LamX NdefX
open FbM (Rec rec_new)
open PySem.W (EachIs AllAlike Sortable KeyedOut KeepsBut dataLe dataKind sortVals copyHeap)
/-! ### sorted(xs, key=f), f an own def or lambda: the turns, the state carried by the frame's invariant -/
section
variable {X : Cx} {pins : List (Addr × Obj)} {σ : L2.St} {H : Hp} {s : Shared} {a kS : Addr} {e1 : Nat} {bs : List Str} {k : Str → PyData} {q : Addr}
/-- the state behind the keys ds -/
structure KeySt (X : Cx) (pins : List (Addr × Obj)) (σ : L2.St) (H : Hp) (a kS : Addr) (e1 : Nat) (ds : List PyData) (s : Shared) : Prop where
  ex : ∃ (Hn : Hp) (kA : Array Value) (e : Nat), Inv X pins σ Hn s ∧ Same H Hn ∧ Hn a = none ∧ Hn kS = none ∧ s.heap.get? a = some (seqObj "list" #[] e1) ∧ s.heap.get? kS = some (seqObj "list" kA e) ∧
    EachIs (fun v d => ∃ y, RelV y v ∧ Dp X.K Hn y d) kA.toList ds
/-- one key: from any state of the frame, the heap grown -/
def KeyRun (X : Cx) (pins : List (Addr × Obj)) (σ : L2.St) (H : Hp) (q : Addr) (bs : List Str) (k : Str → PyData) : Prop :=
  ∀ (b : Str) (u : Value), b ∈ bs → RelV (.str b) u → ∀ (s' : Shared) (Hn : Hp), Inv X pins σ Hn s' → Same H Hn →
    codeAny (model X.prog X.w) X.A.in1.in1 (.call (.ref q) ⟨[u], []⟩) (CR CX0 X.stack X.prog X.w Hn s' (fun y H2 => Same Hn H2 ∧ Dp X.K H2 y (k b)) E0) s'
theorem same_none {H H' : Hp} {b : Addr} (S : Same H H') (h : H' b = none) : H b = none := by
  cases e : H b with
  | none => rfl
  | some o =>
    rw [S b o e] at h
    cases h
theorem key_loop {P : PySem.Fin → Shared → Prop} {E : Value → Shared → Prop} (ra : Rec X pins a) (rk : Rec X pins kS) (hka : kS ≠ a) {us : List Value} (hv : Vals (bs.map V.str) us) (hz : us.length ≤ 1000) (turn : KeyRun X pins σ H q bs k)
    (st : KeySt X pins σ H a kS e1 [] s) (done : ∀ s' Hn kA e, Inv X pins σ Hn s' → Same H Hn → Hn a = none → Hn kS = none → s'.heap.get? a = some (seqObj "list" #[] e1) → s'.heap.get? kS = some (seqObj "list" kA e) →
      EachIs (fun v d => ∃ y, RelV y v ∧ Dp X.K Hn y d) kA.toList (bs.map k) → wpAny (model X.prog X.w) X.A.in1.in1 (ksk_end a false us.toArray e1 (.ref kS) kA) P E s') :
    wpAny (model X.prog X.w) X.A.in1.in1 (ksk_rest a (.ref q) false us.toArray e1 (.ref kS)) P E s := by
  have hlen : us.length = bs.length := by rw [← hv.length, List.length_map]
  unfold ksk_rest
  refine wpAny_bind (wpAny_rule ?_)
  first
    | rw [List.forIn_toArray]
    | rw [← Array.forIn_toList]
  refine wpAny_bind (ksk_fold (fun i s' => KeySt X pins σ H a kS e1 ((bs.map k).take i) s') us 0 s (by rw [List.take_zero]; exact st) ?turns ?last)
  case turns =>
    intro j u s' hu S
    simp only [Nat.zero_add] at S ⊢
    have hj : j < bs.length := by
      have := (List.getElem?_eq_some_iff.mp hu).1
      omega
    have hb : bs[j]? = some bs[j] := List.getElem?_eq_getElem hj
    have hx : (bs.map V.str)[j]? = some (V.str bs[j]) := by rw [List.getElem?_map, hb]; rfl
    obtain ⟨u', hu', ru⟩ := hv.get hx
    have e : u' = u := Option.some.inj (hu'.symm.trans hu)
    subst e
    obtain ⟨Hn, kA, e, I, sm, na, nk, ga, gk, ks⟩ := S
    have hkz : kA.size ≤ 1000 := by
      have h1 := ks.length
      rw [Array.length_toList, List.length_take] at h1
      omega
    refine wpAny_bind (wpAny_attempt (wpAny_call (codeAny_mono (turn _ _ (List.mem_of_getElem? hb) ru s' Hn I sm) fun rr s2 hrr => ?_)))
    cases rr with
    | error er => exact False.elim hrr
    | ok fl =>
      cases fl with
      | next => exact False.elim hrr
      | brk => exact False.elim hrr
      | cont => exact False.elim hrr
      | ret v =>
        obtain ⟨y, H2, os, bare, un, hok, ry, sm2, dy⟩ := (show CE X.stack X.prog X.w Hn s' _ v s2 from hrr)
        have I2 : Inv X pins σ H2 s2 := I.call' os un hok bare (fun b z => absurd z List.not_mem_nil)
        have ga2 := un.keep _ _ ga na ra.fr List.not_mem_nil
        have gk2 := un.keep _ _ gk nk rk.fr List.not_mem_nil
        have na2 : H2 a = none := un.free _ _ ga na List.not_mem_nil
        have nk2 : H2 kS = none := un.free _ _ gk nk List.not_mem_nil
        have sb := Heap.SameBut.update s2.heap kS (Obj.mapSeq (·.push v))
        obtain ⟨c2, hc2⟩ : ∃ c2, (s2.heap.update kS (Obj.mapSeq (·.push v))).get? kS = some (seqObj "list" (kA.push v) c2) := ⟨_, get?_update_seq gk2 (·.push v)⟩
        refine wpAny_bind (listUpdate_at gk2 rfl ?_ (sz (by omega)) (by rw [Array.size_push]; exact Nat.le_succ_of_le (szlt (by omega))))
        have I3 : Inv X pins σ H2 { s2 with heap := s2.heap.update kS (Obj.mapSeq (·.push v)) } := rk.turn (t' := s2.toks) I2 nk2 fun c o hc e => sb.extBut c o hc e
        refine wpAny_pure ⟨rfl, H2, kA.push v, c2, I3, fun b o z => sm2 _ _ (sm _ _ z), na2, nk2, (sb.2 a hka.symm).trans ga2, hc2, ?_⟩
        have ek : (bs.map k).take (j + 1) = (bs.map k).take j ++ [k bs[j]] := by
          rw [List.take_add_one, List.getElem?_map, hb]
          simp
        have ea : (kA.push v).toList = kA.toList ++ [v] := by simp
        rw [ea, ek]
        exact PySem.W.each_snoc ⟨y, ry, dy⟩ (ks.mono fun v d z => by
          obtain ⟨y', r', d'⟩ := z
          exact ⟨y', r', Dp.mono sm2 d'⟩)
  case last =>
    intro s' S
    obtain ⟨Hn, kA, e, I, sm, na, nk, ga, gk, ks⟩ := S
    have e3 : (bs.map k).take (0 + us.length) = bs.map k := List.take_of_length_le (by rw [List.length_map]; omega)
    rw [e3] at ks
    refine wpAny_bind (listItems_at gk rfl ?_)
    exact done s' Hn kA e I sm na nk ga gk ks
/-- the whole sort: the new list stands at D -/
theorem key_sorted {P : PySem.Fin → Shared → Prop} {E : Value → Shared → Prop} (ra : Rec X pins a) (rk : Rec X pins kS) (hka : kS ≠ a) {us : List Value} (hv : Vals (bs.map V.str) us) (hz : us.length ≤ 1000) (hal : AllAlike (bs.map k)) (hsk : Sortable (bs.map k)) (hu : ∀ b, b ∈ bs → X.A.in1.in1.units + (k b).depth < cLine) (turn : KeyRun X pins σ H q bs k)
    (st : KeySt X pins σ H a kS e1 [] s) (done : ∀ s' Hn, Inv X pins σ (upd Hn a (.lst ((bs.mergeSort (dataLe false k)).map V.str))) s' → Same H Hn → Hn a = none → P (.done (.ret .none)) s') :
    wpAny (model X.prog X.w) X.A.in1.in1 (ksk_rest a (.ref q) false us.toArray e1 (.ref kS)) P E s := by
  have hlen : us.length = bs.length := by rw [← hv.length, List.length_map]
  refine key_loop ra rk hka hv hz turn st fun s' Hn kA e I sm na nk ga gk ks => ?_
  have hsz : kA.size = us.length := by
    have h1 := ks.length
    rw [Array.length_toList, List.length_map] at h1
    omega
  have rd : EachIs (fun v d => ∃ as, Reads s'.heap v d as) kA.toList (bs.map k) := ks.mono fun v d z => by
    obtain ⟨y, r, dp⟩ := z
    exact Dp.reads I d y v dp r
  obtain ⟨G, g1, g2⟩ := restrict s'.heap fun b => decide (b ≠ kS) && decide (b ≠ a)
  obtain ⟨G0, f1, f2⟩ := restrict s'.heap fun b => decide (b ≠ kS)
  have gk0 : G.get? kS = none := g2 kS (by simp)
  have ga0 : G.get? a = none := g2 a (by simp)
  have gs : ∀ b o, b ≠ kS → b ≠ a → s'.heap.get? b = some o → G.get? b = some o := fun b o h1 h2 z => (g1 b (by simp [h1, h2])).trans z
  have gb : ∀ b o, G.get? b = some o → s'.heap.get? b = some o := fun b o z => by
    have h1 : b ≠ kS := fun q => by rw [q, gk0] at z; cases z
    have h2 : b ≠ a := fun q => by rw [q, ga0] at z; cases z
    exact (g1 b (by simp [h1, h2])).symm.trans z
  have fs : ∀ b o, b ≠ kS → s'.heap.get? b = some o → G0.get? b = some o := fun b o h1 z => (f1 b (by simp [h1])).trans z
  have fb : ∀ b o, G0.get? b = some o → b ≠ kS ∧ s'.heap.get? b = some o := fun b o z => by
    have h1 : b ≠ kS := fun q => by rw [q, f2 kS (by simp)] at z; cases z
    exact ⟨h1, (f1 b (by simp [h1])).symm.trans z⟩
  have I0 : Inv X pins σ Hn { s' with heap := G0 } := rk.turn (t' := s'.toks) I nk fs
  have I1 : Inv X pins σ Hn { s' with heap := G } := ra.turn (s := { s' with heap := G0 }) (h' := G) (t' := s'.toks) I0 na fun c o hc z => gs c o (fb c o z).1 hc (fb c o z).2
  have kp : KeepsBut a G s'.heap := fun b o _ z => gb b o z
  have eo : EachIs (fun v b => RelV (V.str b) v) us bs := by
    have key : ∀ {l : List Str} {vs : List Value}, Vals (l.map V.str) vs → EachIs (fun v b => RelV (V.str b) v) vs l := fun {l} => by
      induction l with
      | nil => intro vs r; cases r; exact .nil
      | cons x l ih => intro vs r; cases r with | cons h1 h2 => exact .cons h1 (ih h2)
    exact key hv
  have ou : EachIs (fun v b => RelV (V.str b) v) (sortVals (dataKind s'.heap (bs.map k)) false kA.toList us) (bs.mergeSort (dataLe false k)) := PySem.W.keyedOut_each k ⟨s'.heap, kA.toList, hal, rfl, rd⟩ eo
  refine PySem.W.keyH_end (κ := dataKind s'.heap (bs.map k)) (h₁ := G) (vs := us) kp gk0 gk ga hka (PySem.W.SortsAt.data (s := s') rd hal hsk fun d hd => ?_) hsz (sz (by omega)) fun h' tk c k3 n3 => ?_
  · obtain ⟨b, hb, rfl⟩ := List.mem_map.mp hd
    exact hu b hb
  · have J := Inv.laidN (t' := tk) (h' := h') (o := .lst ((bs.mergeSort (dataLe false k)).map V.str)) I1 (fun b u z => k3 b u (fun q => by rw [q] at z; exact nomatch (ga0.symm.trans z)) z) ga0 na ?_
    · exact done _ Hn J sm na
    · refine ⟨?_, _, c, ?_, n3⟩
      · rw [List.length_map, List.length_mergeSort]
        exact sz (by omega)
      · have key : ∀ {l : List Str} {vs : List Value}, EachIs (fun v b => RelV (V.str b) v) vs l → Vals (l.map V.str) vs := fun {l} => by
          induction l with
          | nil => intro vs r; cases r; exact .nil
          | cons x l ih => intro vs r; cases r with | cons h1 h2 => exact .cons h1 (ih h2)
        exact key ou
theorem sorted_key_inv {l : Addr} {Q : Value → Shared → Prop} {E : Value → Shared → Prop} (I : Inv X pins σ H s) (hl : SqL X.K H l (bs.map V.str)) (hz : bs.length ≤ 1000) (hal : AllAlike (bs.map k)) (hsk : Sortable (bs.map k)) (hu : ∀ b, b ∈ bs → X.A.in1.in1.units + (k b).depth < cLine) (turn : KeyRun X pins σ H q bs k)
    (go : ∀ D s' Hn, Inv X pins σ (upd Hn D (.lst ((bs.mergeSort (dataLe false k)).map V.str))) s' → Same H Hn → Hn D = none → Q (.ref D) s') :
    wpAny (model X.prog X.w) X.A (call (.builtin "sorted") [.ref l] [(Str.ofString "key", .ref q)]) Q E s := by
  obtain ⟨us, hv, pl, _⟩ := I.list hl
  have hlen : us.length = bs.length := by rw [← hv.length, List.length_map]
  refine PySem.W.sorted_of_sort pl.isList (sz (by omega)) (ksk_s1 _ _) (fun _ => ksk_l1 _ _) fun E' => ?_
  rw [ksk_t1]
  have ho := PySem.W.copyHeap_at s.heap us
  have old : ∀ b o, s.heap.get? b = some o → b ≠ s.heap.objs.size + 1 ∧ (copyHeap s.heap us).get? b = some o := fun b o e => ⟨Nat.ne_of_lt (Nat.lt_succ_of_lt (Heap.lt_size e)), PySem.W.copyHeap_old e⟩
  have la : s.heap.objs.size + 1 < (copyHeap s.heap us).objs.size := Heap.lt_size ho
  obtain ⟨e1, ho1⟩ : ∃ e1, ((copyHeap s.heap us).update (s.heap.objs.size + 1) (Obj.mapSeq fun _ => (#[] : Array Value))).get? (s.heap.objs.size + 1) = some (seqObj "list" #[] e1) := ⟨_, get?_update_seq ho fun _ => #[]⟩
  unfold ksk_tree
  refine wpAny_bind (listItems_at ho rfl ?_)
  refine wpAny_bind (listUpdate_at ho rfl ?_ (by rw [List.size_toArray]; exact sz (by omega)) (Nat.zero_le _))
  refine wpAny_bind (seqEpoch_at ho1 rfl ?_)
  refine wpAny_bind (wpAny_newTuple ?_ (by show us.length ≤ _; exact sz (by omega)))
  refine wpAny_bind (wpAny_newList ?_ (Nat.zero_le _))
  refine wpAny_holding ?_
  generalize hg : ((copyHeap s.heap us).update (s.heap.objs.size + 1) (Obj.mapSeq fun _ => (#[] : Array Value))).push (seqObj "tuple" us.toArray 0) = g
  have keep : ∀ b o, b ≠ s.heap.objs.size + 1 → (copyHeap s.heap us).get? b = some o → (g.push (seqObj "list" #[] 0)).get? b = some o := fun b o hb e => by
    rw [← hg]
    exact Heap.get?_push_of_some _ (Heap.get?_push_of_some _ ((Heap.get?_update_other _ _ (Ne.symm hb)).trans e))
  have ga : (g.push (seqObj "list" #[] 0)).get? (s.heap.objs.size + 1) = some (seqObj "list" #[] e1) := by
    rw [← hg]
    exact Heap.get?_push_of_some _ (Heap.get?_push_of_some _ ho1)
  have lg : (copyHeap s.heap us).objs.size ≤ g.objs.size := by
    rw [← hg, size_push', Heap.size_update]
    exact Nat.le_succ _
  have I1 : Inv X pins σ H { s with heap := g.push (seqObj "list" #[] 0) } := I.kept (t' := s.toks) fun b o e => keep b o (old b o e).1 (old b o e).2
  have na : H (s.heap.objs.size + 1) = none := I.hok.fresh (Nat.le_succ _)
  have nk : H g.objs.size = none := I.hok.fresh (Nat.le_trans (Nat.le_of_lt (Nat.lt_of_succ_lt la)) lg)
  refine key_sorted (a := s.heap.objs.size + 1) (kS := g.objs.size) (rec_new I (Nat.le_succ _)) (rec_new I (Nat.le_trans (Nat.le_of_lt (Nat.lt_of_succ_lt la)) lg)) (Nat.ne_of_gt (Nat.lt_of_lt_of_le la lg)) hv (by omega) hal hsk hu turn
    ⟨H, #[], 0, I1, fun _ _ e => e, na, nk, ga, Heap.get?_push_size _ rfl, .nil⟩ fun s' Hn J sm n => ⟨rfl, go _ s' Hn J sm n⟩
end
end Bt
namespace Bt
open PySem PySem.Spec PyProof.Rows L2 LamX NdefX
open PySem.W (AllAlike Sortable dataLe)
/-! ### the rule: sorted(xs, key=lambda x: ..) -/
/-- what the sort asks and gives: xs a list of texts, the keys by k -/
def rSK (K : PySem.W.Frag) (run : Hp → Str → VK → Prop) (x : V) (H : Hp) (Q : VK) : Prop := ∃ (l : Addr) (bs : List Str) (k : Str → PyData), x = .ref l ∧ SqL K H l (bs.map V.str) ∧ bs.length ≤ 1000 ∧ AllAlike (bs.map k) ∧ Sortable (bs.map k) ∧ (∀ b ∈ bs, (k b).depth ≤ 8) ∧
  (∀ b ∈ bs, ∀ Hn, Same H Hn → run Hn b fun y H3 => Same Hn H3 ∧ Dp K H3 y (k b)) ∧
  ∀ D Hn H3, Same H Hn → Hn D = none → Same Hn H3 → H3 D = some (.lst ((bs.mergeSort (dataLe false k)).map V.str)) → Q (.ref D) H3
def tSK (K : PySem.W.Frag) (T : List NTab) (mk : Addr → LF) (N' : List Str) (js : List Nat) (tb : TE) (ta : TA) : TE := fun σ H Q => ta σ H fun xs H1 => ∃ x, xs = [x] ∧ TabsN T H1 ∧ ∀ f c' H2, LamK T H1 mk f c' H2 → rSK K (fun Hn b R => tb (startF N' [.str b] (js.map (slotAt σ))) Hn R) x H2 Q
section
variable {X : Cx} {T : List NTab} {nm : Nat → Nat → Str} {c P : Addr} {params : Arguments} {body e : Expr} {scope : Scope} {p pos lpos kpos : Pos} {tb : TE} {ta : TA} {N' fr : List Str} {x : Str} {js : List Nat} {j : Nat}
theorem pe_sortKey (TB : TabB X.base X.mg c P) (hcode : X.env.code = .ref c) (hm : (P, nm) ∈ T) (hn : nm lpos.line lpos.col = X.env.qual ++ "<lambda>") (hu : ∀ p ∈ T, p.1 = P → p.2 = nm)
    (hfree : ∀ y ∈ scope.names, y.2 = .free → X.env.scope.names.lookup y.1 = some .cell ∨ X.env.scope.names.lookup y.1 = some .free) (S : NScope N' [x] fr scope) (hfr : ∀ y ∈ fr, (y, NameKind.free) ∈ scope.names) (hjs : js.map (fun j => X.N[j]?) = fr.map some)
    (hr : Room (j + 3) X.A) (hg : Gl X "sorted") (hs : X.mg "sorted" = none) (ha : PA X (e :: []) ta)
    (hbody : ∀ (d f : Addr) (s' : Shared) (Hn : Hp), Room j (X.A.in1.in1.deeper (envF (LF.nf ⟨X.env.qual ++ "<lambda>", params, body, scope, cloFrom X.env.cells scope.names [], d⟩) f s'.heap.objs.size)) →
      PE (ncx CX0 X.prog X.w X.K X.mg X.base N' (LF.nf ⟨X.env.qual ++ "<lambda>", params, body, scope, cloFrom X.env.cells scope.names [], d⟩) f X.A.in1.in1 X.stack s' Hn E0) body tb)
    (hb : ∀ (d : Addr) (pm ctv v : Value), bindArgs (LF.fd ⟨X.env.qual ++ "<lambda>", params, body, scope, cloFrom X.env.cells scope.names [], d⟩ pm ctv) ⟨[v], []⟩ = pure [(x, v)])
    (hdef : defaultsOf params X.env = ([], []) := by rfl) (h1 : backTo pos (starEach (e :: []) X.env) = (false, eval e X.env) :: backTo pos (starEach [] X.env) := by rfl) (h2 : (backTo pos (starEach (e :: []) X.env)).any (·.1) = false := by rfl)
    (h3 : (backToKw pos (keywordEach [⟨some "key", .Lambda params body scope lpos, kpos⟩] X.env)).all (·.1.isSome) = true := by rfl) (h4 : (backToKw pos (keywordEach [⟨some "key", .Lambda params body scope lpos, kpos⟩] X.env)).any (·.1.isNone) = false := by rfl)
    (h5 : (backToKw pos (keywordEach [⟨some "key", .Lambda params body scope lpos, kpos⟩] X.env)).filterMap (·.1) = [Str.ofString "key"] := by rfl) :
    PE X (.Call (.Name "sorted" p) [e] [⟨some "key", .Lambda params body scope lpos, kpos⟩] pos) (tSK X.K T (fun d => ⟨X.env.qual ++ "<lambda>", params, body, scope, cloFrom X.env.cells scope.names [], d⟩) N' js tb ta) := by
  have lam := pe_lambda (T := T) (params := params) (body := body) (pos := lpos) TB hcode hm hn hu hfree hdef
  refine ⟨fun pins s σ H Q I h => ?_⟩
  refine wpAny_Call_Name_kw (ld_blt I hg hs (by decide +kernel : bootBuiltins "sorted" = some (.builtin "sorted")) ?_ (by decide) (by decide))
  refine PyProof.Rows.callWith_kw (thn (ha.run pos pins s σ H _ I h) fun us s1 z1 => ?_) h1 h2 h3 h4
  obtain ⟨vs, H1, I1, r1, y, ey, tab, go⟩ := z1
  refine thn ((pk_cons lam pk_nil).run pos pins s1 σ H1 (fun zs H2 => ∃ f c', zs = [.ref f] ∧ LamK T H1 _ f c' H2) I1 ⟨tab, fun f c' H2 L => s_nil ⟨f, c', rfl, L⟩⟩) fun ws s2 z2 => ?_
  obtain ⟨zs, H2, I2, r2, f, c', ez, L⟩ := z2
  subst ey ez
  rw [h5]
  obtain ⟨l, bs, k, rfl, hl, hz, hal, hsk, hd, runs, fin⟩ := go f c' H2 L
  cases r1 with
  | @cons _ u _ ur ra rr =>
    cases rr
    cases r2 with
    | @cons _ w _ wr rf rw' =>
      cases rw'
      obtain rfl : u = Value.ref l := ra
      obtain rfl : w = Value.ref f := rf
      have ri : Room (j + 1) X.A.in1.in1 := (Room.in1 (k := j + 2) hr).in1
      refine sorted_key_inv I2 hl hz hal hsk (fun b hb => ?_) (fun b u hb' ru s' Hn J sm => ?_) fun D s' Hn J sm n => ⟨.ref D, _, J, rfl, fin D Hn _ sm n (Same.new n) upd_same⟩
      · have := hd b hb
        have := ri.units
        omega
      · have e0 := J.env0
        have e1 : Env0 X.prog X.w X.K X.mg X.base X.A.in1.in1 X.stack s' Hn := ⟨e0.1, e0.mod, e0.bs, e0.bsz, e0.funs, e0.frf, e0.hok, e0.bare⟩
        have Lf := L.2.2.2.2.1
        have Lc := L.2.2.2.2.2
        exact lam_run (us := [u]) (vs := [.str b]) S (fun pm ctv xs hx => by
          match xs, hx with
          | [v], _ => exact hb c' pm ctv v) rfl ri e1 (sm _ _ Lf) (sm _ _ Lc) (cells_of J (Caps.made J.ok hfree hfr hjs)) (.cons ru .nil) (hbody c' f s' Hn (ri.deeper _)) (runs b hb' Hn sm)
end
end Bt
namespace Bt
open PySem PySem.Spec PyProof.Rows L2 LamX NdefX
open PySem.W (AllAlike Sortable dataLe dataLt alike)
/-! ### heaps that grow but for the tables of code objects -/
theorem ext_lst {H H' : Hp} {a : Addr} {xs : List V} (S : ExtN H H') (h : H a = some (.lst xs)) : H' a = some (.lst xs) := S _ _ h fun _ z => nomatch z
theorem ext_tup {H H' : Hp} {a : Addr} {xs : List V} (S : ExtN H H') (h : H a = some (.tup xs)) : H' a = some (.tup xs) := S _ _ h fun _ z => nomatch z
theorem ext_ins {H H' : Hp} {a C dx : Addr} {fs : List (Str × V)} (S : ExtN H H') (h : H a = some (.ins C dx fs)) : H' a = some (.ins C dx fs) := S _ _ h fun _ z => nomatch z
theorem ext_xd {H H' : Hp} {a : Addr} {fs : List (Str × V)} (S : ExtN H H') (h : H a = some (.xd fs)) : H' a = some (.xd fs) := S _ _ h fun _ z => nomatch z
theorem ext_same {H H' : Hp} (S : Same H H') : ExtN H H' := ExtN.of S
theorem SqT_monoN {K : PySem.W.Frag} {H H' : Hp} {a : Addr} {xs : List V} (e : ExtN H H') (h : SqT K H a xs) : SqT K H' a xs := by
  rcases h with (h | ⟨o, h⟩) | h
  · exact .inl (.inl (ext_tup e h))
  · exact .inl (.inr ⟨o, e _ _ h fun _ z => nomatch z⟩)
  · exact .inr h
theorem SqL_monoN {K : PySem.W.Frag} {H H' : Hp} {a : Addr} {xs : List V} (e : ExtN H H') (h : SqL K H a xs) : SqL K H' a xs := by
  rcases h with (h | ⟨o, h⟩) | h
  · exact .inl (.inl (ext_lst e h))
  · exact .inl (.inr ⟨o, e _ _ h fun _ z => nomatch z⟩)
  · exact .inr h
mutual
theorem Dp.monoN {K : PySem.W.Frag} {H H' : Hp} (S : ExtN H H') : ∀ {v : V} {d : PyData}, Dp K H v d → Dp K H' v d
  | _, _, .non => .non
  | _, _, .bl b => .bl b
  | _, _, .int i => .int i
  | _, _, .str x => .str x
  | _, _, .lst h r => .lst (SqL_monoN S h) (DpAll.monoN S r)
  | _, _, .tup h r => .tup (SqT_monoN S h) (DpAll.monoN S r)
theorem DpAll.monoN {K : PySem.W.Frag} {H H' : Hp} (S : ExtN H H') : ∀ {vs : List V} {ds : List PyData}, DpAll K H vs ds → DpAll K H' vs ds
  | _, _, .nil => .nil
  | _, _, .cons h r => .cons (Dp.monoN S h) (DpAll.monoN S r)
end
theorem TyX.monoN {K : PySem.W.Frag} {H H' : Hp} {x : V} {t : Value} (S : ExtN H H') (h : TyX K H x t) : TyX K H' x t := by
  cases h with
  | base b =>
    cases b with
    | non => exact .base .non
    | bl z => exact .base (.bl z)
    | int z => exact .base (.int z)
    | str z => exact .base (.str z)
    | flt z => exact .base (.flt z)
    | lst e => exact .base (.lst (ext_lst S e))
    | frz e => exact .base (.frz (S _ _ e fun _ z => nomatch z))
    | tup e => exact .base (.tup (ext_tup S e))
    | dK e => exact .base (.dK (S _ _ e fun _ z => nomatch z))
    | dT e => exact .base (.dT (S _ _ e fun _ z => nomatch z))
    | ins e cl ha hn htk hm => exact .base (.ins (ext_ins S e) cl ha hn htk hm)
  | byt b => exact .byt b
  | set e => exact .set (S _ _ e fun _ z => nomatch z)
  | kList e c => exact .kList e c
  | kTuple e c => exact .kTuple e c
  | kDict e c => exact .kDict e c
  | fTuple e => exact .fTuple (S _ _ e fun _ z => nomatch z)
  | fDict e => exact .fDict (S _ _ e fun _ z => nomatch z)
theorem Pl.monoN {K : PySem.W.Frag} {H H' : Hp} {x : V} {T : String} (S : ExtN H H') (h : Pl K H x T) : Pl K H' x T := ⟨TyX.monoN S h.1, h.2⟩
/-- a list's object is written: the tables stay -/
theorem TabsN.but {T : List NTab} {H H' : Hp} {p : Addr} {xs : List V} (t : TabsN T H) (hp : H p = some (.lst xs)) (B : But p H H') : TabsN T H' := by
  rintro ⟨P, nm⟩ hm
  obtain ⟨ps, h1, h2, h3⟩ := t _ hm
  have ne : ∀ {b : Addr} {o : HO}, H b = some o → o ≠ .lst xs → b ≠ p := fun e n z => by
    rw [z, hp] at e
    exact n (Option.some.inj e).symm
  refine ⟨ps, B _ _ (ne h1 fun z => nomatch z) h1, h2, fun pos cv hc => ?_⟩
  obtain ⟨c, e1, e2⟩ := h3 pos cv hc
  exact ⟨c, e1, B _ _ (ne e2 fun z => by
    have z' : HO.ext _ = HO.lst xs := z
    cases z') e2⟩
/-! ### a def whose code object is known -/
structure FunC (K : PySem.W.Frag) (x qual : Str) (st : Stmt) (f : Addr) (fd : FuncData) (c : Addr) : Prop where
  ex : ∃ (oc : Value) (od : Option Addr) (kV doc pm : Value) (an : Option Addr) (ct : Value) (osl : Array (Option Value)),
    fd = PySem.W.fnOf x qual (defArgs st) (defBody st) (defScope st) .none kV doc pm an (.ref c) ct ∧ K.lookup f = some ⟨oc, od, .func fd, osl⟩ ∧ PySem.W.codeIn K (.ref c) qual = true
  kp : PySem.W.keepIn K (.ref f) = true
section
variable {P : Program} {w : World} {K : PySem.W.Frag} {mg : Str → Option Value} {base : Heap} {x qual : Str} {st : Stmt} {f c : Addr} {fd : FuncData} {N ps : List Str} {k : Nat} {sp : Sp}
theorem FunC.fn (F : FunC K x qual st f fd c) : Fun K x qual st f fd := by
  obtain ⟨oc, od, kV, doc, pm, an, ct, osl, rfl, lk, hc⟩ := F.ex
  exact ⟨⟨oc, od, kV, doc, pm, an, .ref c, ct, osl, rfl, lk, hc⟩, F.kp⟩
theorem FunC.ok (F : FunC K x qual st f fd c) (S : FnScope N ps (defScope st)) (len : ∀ vs H Q E, sp vs H Q E → vs.length = ps.length)
    (hbody : ∀ (A : Around) (outer : List Env) (s : Shared) (H : Hp) (vs : List V) (Q : VK) (E : XK), Room k (A.deeper (envOfC qual (defScope st) s.heap.objs.size f (.ref c))) → sp vs H Q E →
      ∃ t, PSs (cxOf CX0 P w K mg base N qual (defScope st) f (.ref c) A outer s H E).nox (defBody st) t ∧ t { nx := fun _ H' => Q .non H', rt := Q } (start N vs) H) : FnOk P w K mg base CX0 (k + 1) f fd ps sp := by
  obtain ⟨oc, od, kV, doc, pm, an, ct, osl, rfl, lk, hc⟩ := F.ex
  refine fn_of lk hc S len fun A outer s H vs Q E hr hs => ?_
  obtain ⟨t, h, q⟩ := hbody A outer s H vs Q E hr hs
  exact ⟨t, h.nox, q⟩
theorem FunC.okX (F : FunC K x qual st f fd c) (S : FnScope N ps (defScope st)) (len : ∀ vs H Q E, sp vs H Q E → vs.length = ps.length)
    (hbody : ∀ (A : Around) (outer : List Env) (s : Shared) (H : Hp) (vs : List V) (Q : VK) (E : XK), Room k (A.deeper (envOfC qual (defScope st) s.heap.objs.size f (.ref c))) → sp vs H Q E →
      ∃ t, PSs (cxOf (L2.CX P w) P w K mg base N qual (defScope st) f (.ref c) A outer s H E) (defBody st) t ∧ t { nx := fun _ H' => Q .non H', rt := Q } (start N vs) H) : FnOk P w K mg base (L2.CX P w) (k + 1) f fd ps sp := by
  obtain ⟨oc, od, kV, doc, pm, an, ct, osl, rfl, lk, hc⟩ := F.ex
  exact fn_of lk hc S len hbody
end
/-! ### keys of two kinds that sort alike -/
def kTup (g : Str → Int) (r : Str → List Int) (z : Str) : PyData := .tuple [.int (g z), .tuple ((r z).map .int)]
def kLst (g : Str → Int) (r : Str → List Int) (z : Str) : PyData := .tuple [.int (g z), .list ((r z).map .int)]
section
variable {g : Str → Int} {r : Str → List Int} {bs : List Str}
theorem alike_tup (xs ys : List Int) : alike (.tuple (xs.map .int)) (.tuple (ys.map .int)) = true := by simp [alike, PySem.W.alike_ints]
theorem alike_lst (xs ys : List Int) : alike (.list (xs.map .int)) (.list (ys.map .int)) = true := by simp [alike, PySem.W.alike_ints]
theorem kTup_alike : AllAlike (bs.map (kTup g r)) := AllAlike.of fun b b' => by
  show alike (.tuple [.int (g b), .tuple ((r b).map .int)]) (.tuple [.int (g b'), .tuple ((r b').map .int)]) = true
  rw [alike, PySem.W.alikeAll, PySem.W.alikeAll, alike_tup]
  simp [alike, PySem.W.alikeAll]
theorem kLst_alike : AllAlike (bs.map (kLst g r)) := AllAlike.of fun b b' => by
  show alike (.tuple [.int (g b), .list ((r b).map .int)]) (.tuple [.int (g b'), .list ((r b').map .int)]) = true
  rw [alike, PySem.W.alikeAll, PySem.W.alikeAll, alike_lst]
  simp [alike, PySem.W.alikeAll]
theorem kTup_sort : Sortable (bs.map (kTup g r)) := Sortable.tuples fun b => ⟨_, _, rfl⟩
theorem kLst_sort : Sortable (bs.map (kLst g r)) := Sortable.tuples fun b => ⟨_, _, rfl⟩
theorem kTup_depth (z : Str) : (kTup g r z).depth ≤ 8 := by
  show PyData.depth (.tuple [.int (g z), .tuple ((r z).map .int)]) ≤ 8
  simp only [PyData.depth, PyData.depthAll, PySem.W.depth_ints]
  decide
theorem kLst_depth (z : Str) : (kLst g r z).depth ≤ 8 := by
  show PyData.depth (.tuple [.int (g z), .list ((r z).map .int)]) ≤ 8
  simp only [PyData.depth, PyData.depthAll, PySem.W.depth_ints]
  decide
theorem key_lt (z z' : Str) : dataLt (kTup g r z) (kTup g r z') = dataLt (kLst g r z) (kLst g r z') := by
  unfold kTup kLst
  rw [PySem.W.dataLt_pair (by simp [alike]) (alike_tup _ _), PySem.W.dataLt_pair (by simp [alike]) (alike_lst _ _)]
  have e1 : PyData.eqv (.tuple ((r z).map .int)) (.tuple ((r z').map .int)) = PyData.eqv (.list ((r z).map .int)) (.list ((r z').map .int)) := by simp [PyData.eqv]
  have e2 : dataLt (.tuple ((r z).map .int)) (.tuple ((r z').map .int)) = dataLt (.list ((r z).map .int)) (.list ((r z').map .int)) := by rw [PySem.W.dataLt_tuple, PySem.W.dataLt_list]
  rw [e1, e2]
theorem key_le : dataLe false (kTup g r) = dataLe false (kLst g r) := by
  rw [PySem.W.dataLe_eq, PySem.W.dataLe_eq]
  funext a b
  show (!dataLt (kTup g r b) (kTup g r a)) = (!dataLt (kLst g r b) (kLst g r a))
  rw [key_lt]
end
end Bt
namespace Bt
open PySem PySem.Spec PyProof.Rows L2
/-! ### o.m(e, ..), m may raise: what is raised is wished for at the caller's slots -/
section
variable {X : Cx} {CX : CXT} {k : Nat} {C g : Addr} {fd : FuncData} {ps : List Str} {sp : Sp} {E : L2.St → XK} {pos apos : Pos} {o e : Expr} {es : List Expr} {to : TE} {t : TA} {m : Str}
def tMethE (C : Addr) (m : Str) (sp : Sp) (E : L2.St → XK) (to : TE) (t : TA) : TE := fun σ H Q => to σ H fun y H1 => ∃ a dx fs, y = V.ref a ∧ H1 a = some (.ins C dx fs) ∧ fs.lookup m = none ∧ t σ H1 fun vs H2 => sp (V.ref a :: vs) H2 Q (E σ)
theorem pe_methE {pl : Sem Bool} (ho : PE X o to) (c : Cls X.K C) (hm : Meth X.K C m g) (F : FnOk X.prog X.w X.K X.mg X.base CX k g fd ps sp) (hr : Room k X.A) (hb : Binds X.K fd ps []) (hx : ∀ σ, PassesAt CX X σ (E σ)) (ha : PA X (e :: es) t)
    (ht : eval (.Call (.Attribute o m apos) (e :: es) [] pos) X.env = (do
      let y ← eval o X.env
      standAt apos.atName
      let (f, first) ← holding [y] (getMethod y m pl)
      callWith pos f first (backTo pos (starEach (e :: es) X.env)) (backToKw pos (keywordEach [] X.env))) := by rfl)
    (hst : starEach (e :: es) X.env = (false, eval e X.env) :: starEach es X.env := by rfl) (hpl : (backTo pos (starEach es X.env)).any (·.1) = false := by rfl) :
    PE X (.Call (.Attribute o m apos) (e :: es) [] pos) (tMethE C m sp E to t) := by
  refine ⟨fun pins s σ H Q I h => ?_⟩
  refine PySem.W.methodCall_KW (pl := pl) (thn (ho.run pins s σ H _ I h) fun u s1 z => ?_) ht
  obtain ⟨y, H1, I1, ry, a, dx, fs, ey, ea, l, q⟩ := z
  subst ey
  obtain rfl : u = Value.ref a := ry
  refine getmeth_ok I1 ea c hm l (PySem.W.callWith_K (first := [.ref a]) (h₀ := X.base) I.ok.mod.kin hm.kp (thn (ha.run pos pins s1 σ H1 _ I1 q) fun us s2 z2 => ?_) hst hpl)
  obtain ⟨vs, H2, I2, r, q2⟩ := z2
  refine ⟨I2.kIn, ?_⟩
  exact run_fnSD (us := .ref a :: us) (vs := .ref a :: vs) (dvs := []) F hr hb .nil (hx σ) I2 (.cons rfl r) (by rw [List.append_nil]; exact q2)
theorem s_methE {σ : L2.St} {H : Hp} {Q : VK} (h : to σ H fun y H1 => ∃ a dx fs, y = V.ref a ∧ H1 a = some (.ins C dx fs) ∧ fs.lookup m = none ∧ t σ H1 fun vs H2 => sp (V.ref a :: vs) H2 Q (E σ)) : tMethE C m sp E to t σ H Q := h
end
end Bt
namespace Bt
open PySem PySem.Spec PyProof.Rows L2
open PySem.W (dataLt alike)
/-! ### a < b of data that are alike -/
def rLtD (K : PySem.W.Frag) : R2 := fun x y H Q => ∃ d e, Dp K H x d ∧ Dp K H y e ∧ alike d e = true ∧ d ≠ .none ∧ d.depth ≤ 60 ∧ Q (.bl (dataLt d e)) H
theorem op_ltD {X : Cx} (hu : X.A.units + 64 < cLine) : OpR X (compareOp .Lt) (rLtD X.K) := by
  intro pins s σ H x y v u Q I rx ry h
  obtain ⟨d, e, dx, dy, al, nn, dp, q⟩ := h
  obtain ⟨as, r1⟩ := Dp.reads I d x v dx rx
  obtain ⟨bs, r2⟩ := Dp.reads I e y u dy ry
  show wpAny (model X.prog X.w) X.A (richCompare .Lt v u) (EP X pins σ Q) X.xe s
  exact PySem.W.rcLt_alike d e X.A s v u as bs r1 r2 al nn (by omega) X.prog X.w _ _ ⟨.bl _, H, I, rfl, q⟩
theorem q_ltD {K : PySem.W.Frag} {x y : V} {H : Hp} {Q : VK} {d e : PyData} (dx : Dp K H x d) (dy : Dp K H y e) (al : alike d e = true) (nn : d ≠ .none) (dp : d.depth ≤ 60) (q : Q (.bl (dataLt d e)) H) : rLtD K x y H Q := ⟨d, e, dx, dy, al, nn, dp, q⟩
end Bt
namespace Bt
open PySem PySem.Spec PyProof.Rows L2
def top (i : Nat) : Stmt := PySem.Challenge.pw_betweenlists_k16_stories_turned.main.body.getD i (.Pass ⟨0, 0, 0, 0⟩)
abbrev s__wall : Stmt := top 0
theorem sc__wall : FnScope ["k"] ["k"] (defScope s__wall) := ⟨rfl, rfl, rfl, by decide +kernel, rfl, by decide +kernel, by decide +kernel⟩
abbrev s_is_whole : Stmt := top 4
theorem sc_is_whole : FnScope ["value"] ["value"] (defScope s_is_whole) := ⟨rfl, rfl, rfl, by decide +kernel, rfl, by decide +kernel, by decide +kernel⟩
abbrev s_is_name : Stmt := top 5
theorem sc_is_name : FnScope ["value", "letter"] ["value"] (defScope s_is_name) := ⟨rfl, rfl, rfl, by decide +kernel, rfl, by decide +kernel, by decide +kernel⟩
abbrev s_is_place : Stmt := top 6
theorem sc_is_place : FnScope ["value"] ["value"] (defScope s_is_place) := ⟨rfl, rfl, rfl, by decide +kernel, rfl, by decide +kernel, by decide +kernel⟩
abbrev s_is_place_list : Stmt := top 7
theorem sc_is_place_list : FnScope ["value", "item"] ["value"] (defScope s_is_place_list) := ⟨rfl, rfl, rfl, by decide +kernel, rfl, by decide +kernel, by decide +kernel⟩
abbrev s_is_change : Stmt := top 9
theorem sc_is_change : FnScope ["value", "many", "item"] ["value"] (defScope s_is_change) := ⟨rfl, rfl, rfl, by decide +kernel, rfl, by decide +kernel, by decide +kernel⟩
abbrev s_goes : Stmt := top 10
theorem sc_goes : FnScope ["change"] ["change"] (defScope s_goes) := ⟨rfl, rfl, rfl, by decide +kernel, rfl, by decide +kernel, by decide +kernel⟩
abbrev s_comes : Stmt := top 11
theorem sc_comes : FnScope ["change"] ["change"] (defScope s_comes) := ⟨rfl, rfl, rfl, by decide +kernel, rfl, by decide +kernel, by decide +kernel⟩
abbrev s_is_possible : Stmt := top 12
theorem sc_is_possible : FnScope ["change", "standing", "old", "new"] ["change", "standing"] (defScope s_is_possible) := ⟨rfl, rfl, rfl, by decide +kernel, rfl, by decide +kernel, by decide +kernel⟩
abbrev s_carry_out : Stmt := top 13
theorem sc_carry_out : FnScope ["change", "standing", "old", "new"] ["change", "standing"] (defScope s_carry_out) := ⟨rfl, rfl, rfl, by decide +kernel, rfl, by decide +kernel, by decide +kernel⟩
abbrev s_opposite : Stmt := top 14
theorem sc_opposite : FnScope ["change", "gap"] ["change", "gap"] (defScope s_opposite) := ⟨rfl, rfl, rfl, by decide +kernel, rfl, by decide +kernel, by decide +kernel⟩
abbrev s_InvalidStory___init__ : Stmt := inClass (top 17) 0
theorem sc_InvalidStory___init__ : FnScope ["self", "value"] ["self", "value"] (defScope s_InvalidStory___init__) := ⟨rfl, rfl, rfl, by decide +kernel, rfl, by decide +kernel, by decide +kernel⟩
abbrev s_InvalidChange___init__ : Stmt := inClass (top 18) 0
theorem sc_InvalidChange___init__ : FnScope ["self", "value"] ["self", "value"] (defScope s_InvalidChange___init__) := ⟨rfl, rfl, rfl, by decide +kernel, rfl, by decide +kernel, by decide +kernel⟩
abbrev s_InvalidNumber___init__ : Stmt := inClass (top 19) 0
theorem sc_InvalidNumber___init__ : FnScope ["self", "value"] ["self", "value"] (defScope s_InvalidNumber___init__) := ⟨rfl, rfl, rfl, by decide +kernel, rfl, by decide +kernel, by decide +kernel⟩
abbrev s_check_least : Stmt := top 21
theorem sc_check_least : FnScope ["value", "least"] ["value", "least"] (defScope s_check_least) := ⟨rfl, rfl, rfl, by decide +kernel, rfl, by decide +kernel, by decide +kernel⟩
abbrev s_check_index : Stmt := top 22
theorem sc_check_index : FnScope ["value", "many"] ["value", "many"] (defScope s_check_index) := ⟨rfl, rfl, rfl, by decide +kernel, rfl, by decide +kernel, by decide +kernel⟩
abbrev s_may_come : Stmt := top 24
theorem sc_may_come : FnScope ["change", "gap", "standing"] ["change", "gap", "standing"] (defScope s_may_come) := ⟨rfl, rfl, rfl, by decide +kernel, rfl, by decide +kernel, by decide +kernel⟩
abbrev s__standing_behind : Stmt := top 25
theorem sc__standing_behind : FnScope ["first", "changes", "standing", "gap", "change", "place"] ["first", "changes"] (defScope s__standing_behind) := ⟨rfl, rfl, rfl, by decide +kernel, rfl, by decide +kernel, by decide +kernel⟩
abbrev s_Story___init__ : Stmt := inClass (top 26) 0
theorem sc_Story___init__ : FnScope ["self", "first", "changes", "row", "standing"] ["self", "first", "changes"] (defScope s_Story___init__) := ⟨rfl, rfl, rfl, by decide +kernel, rfl, by decide +kernel, by decide +kernel⟩
abbrev s_Story_first : Stmt := inClass (top 26) 1
theorem sc_Story_first : FnScope ["self"] ["self"] (defScope s_Story_first) := ⟨rfl, rfl, rfl, by decide +kernel, rfl, by decide +kernel, by decide +kernel⟩
abbrev s_Story___len__ : Stmt := inClass (top 26) 2
theorem sc_Story___len__ : FnScope ["self"] ["self"] (defScope s_Story___len__) := ⟨rfl, rfl, rfl, by decide +kernel, rfl, by decide +kernel, by decide +kernel⟩
abbrev s_Story___getitem__ : Stmt := inClass (top 26) 3
theorem sc_Story___getitem__ : FnScope ["self", "at"] ["self", "at"] (defScope s_Story___getitem__) := ⟨rfl, rfl, rfl, by decide +kernel, rfl, by decide +kernel, by decide +kernel⟩
abbrev s_Story___iter__ : Stmt := inClass (top 26) 4
theorem sc_Story___iter__ : FnScope ["self"] ["self"] (defScope s_Story___iter__) := ⟨rfl, rfl, rfl, by decide +kernel, rfl, by decide +kernel, by decide +kernel⟩
abbrev s_Story___iadd__ : Stmt := inClass (top 26) 5
theorem sc_Story___iadd__ : FnScope ["self", "other", "gap"] ["self", "other"] (defScope s_Story___iadd__) := ⟨rfl, rfl, rfl, by decide +kernel, rfl, by decide +kernel, by decide +kernel⟩
abbrev s_Story___eq__ : Stmt := inClass (top 26) 6
theorem sc_Story___eq__ : FnScope ["self", "other"] ["self", "other"] (defScope s_Story___eq__) := ⟨rfl, rfl, rfl, by decide +kernel, rfl, by decide +kernel, by decide +kernel⟩
abbrev s_Story___contains__ : Stmt := inClass (top 26) 7
theorem sc_Story___contains__ : FnScope ["self", "place", "change"] ["self", "place"] (defScope s_Story___contains__) := ⟨rfl, rfl, rfl, by decide +kernel, rfl, by decide +kernel, by decide +kernel⟩
abbrev s_Story_at : Stmt := inClass (top 26) 8
theorem sc_Story_at : FnScope ["self", "k", "standing", "change", "place"] ["self", "k"] (defScope s_Story_at) := ⟨rfl, rfl, rfl, by decide +kernel, rfl, by decide +kernel, by decide +kernel⟩
abbrev s_Story_fits : Stmt := inClass (top 26) 9
theorem sc_Story_fits : FnScope ["self", "log"] ["self", "log"] (defScope s_Story_fits) := ⟨rfl, rfl, rfl, by decide +kernel, rfl, by decide +kernel, by decide +kernel⟩
abbrev s_Story_allowed : Stmt := inClass (top 26) 10
theorem sc_Story_allowed : FnScope ["self", "rules"] ["self", "rules"] (defScope s_Story_allowed) := ⟨rfl, rfl, rfl, by decide +kernel, rfl, by decide +kernel, by decide +kernel⟩
abbrev s_Story_turned : Stmt := inClass (top 26) 11
theorem sc_Story_turned : FnScope ["self", "moments", "changes", "change"] ["self", "moments"] (defScope s_Story_turned) := ⟨rfl, rfl, rfl, by decide +kernel, rfl, by decide +kernel, by decide +kernel⟩
abbrev s__law_purse : Stmt := top 28
theorem sc__law_purse : FnScope ["_law_script", "_law_at", "_law_cell"] ["_law_script", "_law_at"] (defScope s__law_purse) := ⟨rfl, rfl, rfl, by decide +kernel, rfl, by decide +kernel, by decide +kernel⟩
abbrev s__law_draw : Stmt := top 29
theorem sc__law_draw : FnScope ["_law_purse_here", "_law_many", "_law_drawn", "_law_number"] ["_law_purse_here", "_law_many"] (defScope s__law_draw) := ⟨rfl, rfl, rfl, by decide +kernel, rfl, by decide +kernel, by decide +kernel⟩
abbrev s__law_name : Stmt := top 30
theorem sc__law_name : FnScope ["_law_purse_here", "_law_name_here", "_law_turn"] ["_law_purse_here"] (defScope s__law_name) := ⟨rfl, rfl, rfl, by decide +kernel, rfl, by decide +kernel, by decide +kernel⟩
abbrev s__law_names : Stmt := top 31
theorem sc__law_names : FnScope ["_law_purse_here", "_law_many", "_law_names_here", "_law_turn", "_law_name_here"] ["_law_purse_here", "_law_many"] (defScope s__law_names) := ⟨rfl, rfl, rfl, by decide +kernel, rfl, by decide +kernel, by decide +kernel⟩
abbrev s__law_world : Stmt := top 32
theorem sc__law_world : FnScope ["_law_purse_here", "_law_folders", "_law_names_here", "_law_places", "_law_folder", "_law_name_here"] ["_law_purse_here"] (defScope s__law_world) := ⟨rfl, rfl, rfl, by decide +kernel, rfl, by decide +kernel, by decide +kernel⟩
abbrev s__law_step : Stmt := top 33
theorem sc__law_step : FnScope ["_law_there", "_law_change_here", "_law_rest", "_law_place"] ["_law_there", "_law_change_here"] (defScope s__law_step) := ⟨rfl, rfl, rfl, by decide +kernel, rfl, by decide +kernel, by decide +kernel⟩
abbrev s__law_change : Stmt := top 34
theorem sc__law_change : FnScope ["_law_purse_here", "_law_places", "_law_there", "_law_gap", "_law_one", "_law_other"] ["_law_purse_here", "_law_places", "_law_there", "_law_gap"] (defScope s__law_change) := ⟨rfl, rfl, rfl, by decide +kernel, rfl, by decide +kernel, by decide +kernel⟩
abbrev s__law_course : Stmt := top 35
theorem sc__law_course : FnScope ["_law_purse_here", "_law_places", "_law_there", "_law_changes_here", "_law_gap", "_law_turn", "_law_change_here"] ["_law_purse_here", "_law_places", "_law_there"] (defScope s__law_course) := ⟨rfl, rfl, rfl, by decide +kernel, rfl, by decide +kernel, by decide +kernel⟩
abbrev s__law_changes : Stmt := top 36
theorem sc__law_changes : FnScope ["_law_story", "_law_k"] ["_law_story"] (defScope s__law_changes) := ⟨rfl, rfl, rfl, by decide +kernel, rfl, by decide +kernel, by decide +kernel⟩
abbrev s__law_back : Stmt := top 37
theorem sc__law_back : FnScope ["_law_change_here", "_law_gap"] ["_law_change_here", "_law_gap"] (defScope s__law_back) := ⟨rfl, rfl, rfl, by decide +kernel, rfl, by decide +kernel, by decide +kernel⟩
abbrev s__law_raised : Stmt := top 38
theorem sc__law_raised : FnScope ["_law_story", "_law_value", "_law_found", "e"] ["_law_story", "_law_value"] (defScope s__law_raised) := ⟨rfl, rfl, rfl, by decide +kernel, rfl, by decide +kernel, by decide +kernel⟩
abbrev s__law_right : Stmt := top 39
theorem sc__law_right : FnScope ["_law_story", "_law_first", "_law_changes_here", "_law_moments", "_law_back_here", "_law_last", "_law_change_here", "_law_due", "_law_k", "_law_there"] ["_law_story", "_law_first", "_law_changes_here", "_law_moments"] (defScope s__law_right) := ⟨rfl, rfl, rfl, by decide +kernel, rfl, by decide +kernel, by decide +kernel⟩
abbrev s_law : Stmt := top 40
theorem sc_law : FnScope ["_law_script", "_law_at", "_law_purse_here", "_law_places", "_law_first", "_law_changes_here", "_law_story", "_law_least", "_law_far", "_law_moments", "_law_value", "_law_place"] ["_law_script"] (defScope s_law) := ⟨rfl, rfl, rfl, by decide +kernel, rfl, by decide +kernel, by decide +kernel⟩
theorem words_ : True := by
  k_with "s_P16" => first
    | ((with_reducible refine' s_var ?hv ?_); (case hv => exact rfl))
    | with_reducible first
      | refine' s_c ?_ | refine' s_op ?_ | refine' s_asg ?_ | refine' s_gname ?_ | refine' s_seq ?_ | refine' s_next ?_ | refine' s_ret ?_ | refine' s_ifS ?_ | refine' s_drop ?_ | refine' s_retN ?_
      | refine' s_test ?_ | refine' s_B ?_ | refine' q_test ?_ | refine' s_int ?_ | refine' s_cons ?_ | refine' s_nil ?_ | refine' s_call ?_ | refine' s_CB ?_ | refine' s_andT ?_ | refine' s_orT ?_ | refine' s_notT ?_
      | refine' s_andV ?_ | refine' s_orV ?_ | refine' s_notV ?_ | refine' s_ifV ?_ | refine' s_chain ?_ | refine' s_sl ?_ | refine' s_noPart ?_ | refine' s_part ?_ | refine' s_gsub ?_ | refine' s_BM ?_ | refine' s_tup ?_ | refine' s_lst ?_
      | refine' q_add ?_ | refine' q_sub ?_ | refine' q_lt ?_ | refine' q_le ?_ | refine' q_gt ?_ | refine' q_ge ?_ | refine' s_ifT ?_ | refine' s_ifF ?_
      | (refine' q_mod ?hm ?_; (case hm => first | omega | decide)) | (refine' q_fdiv ?hm ?hn ?_; (case hm => first | omega | decide); (case hn => first | omega | decide))
      | (refine' q_mulR ?hm ?_; (case hm => first | omega | decide)) | (refine' q_mulL ?hm ?_; (case hm => first | omega | decide))
    | dsimp only
  k_with "r_P16" => repeat (k_extra "s_P16")
  trivial
structure Txt (K : PySem.W.Frag) (mg : Str → Option Value) : Prop where
  n_isinstance : mg "isinstance" = none
  n_int : mg "int" = none
  n_bool : mg "bool" = none
  n_str : mg "str" = none
  n_sorted : mg "sorted" = none
  v_LETTERS : ∃ t, mg "LETTERS" = some (.str alphaS t)
  n_tuple : mg "tuple" = none
  n_list : mg "list" = none
  n_set : mg "set" = none
  d_is_whole : Df K mg "is_whole" s_is_whole ["value"]
section
variable {P : Program} {w : World} {K : PySem.W.Frag} {mg : Str → Option Value} {base : Heap}
/-! ### is_whole -/
def wholeV : V → Bool
  | .int _ => true
  | _ => false
def spWhole (K : PySem.W.Frag) : Sp := fun vs H Q _ => ∃ x T, vs = [x] ∧ Pl K H x T ∧ Q (.bl (T == "int")) H
theorem ok_is_whole (T : Txt K mg) : Cal P w K mg base 1 "is_whole" (spWhole K) := by
  refine T.d_is_whole.cal sc_is_whole (fun vs H Q E h => ?_) (fun f cdv A outer s H vs Q E hr h => ?_)
  · obtain ⟨x, T, rfl, _⟩ := h
    rfl
  · obtain ⟨x, ty, rfl, hx, k⟩ := h
    refine ⟨_, (pss_one (ps_ret (pe_and (pe_callB call_isi (by rfl) T.n_isinstance (by decide +kernel) (pa_cons (pv 0) (pa_cons (pe_bltn (v := .ty "int") (by rfl) T.n_int (by decide +kernel) rfl) pa_nil))) (pe_one (pe_not (pe_callB call_isi (by rfl) T.n_isinstance (by decide +kernel) (pa_cons (pv 0) (pa_cons (pe_bltn (v := .ty "bool") (by rfl) T.n_bool (by decide +kernel) rfl) pa_nil)))))))), ?_⟩
    k_extra "r_P16"
    refine q_isi hx .int ?_
    k_extra "r_P16"
    cases hx.2 <;> k_extra "r_P16" <;> first | exact k | (refine s_if (fun _ => ?_) (fun z => absurd z (by decide)); k_extra "r_P16"; refine q_isi hx .bl ?_; k_extra "r_P16"; exact k)
end
end Bt
namespace Bt
open PySem PySem.Spec PyProof.Rows L2
theorem words2_ : True := by
  k_with "s_D16" => first
    | ((with_reducible refine' s_var ?hv ?_); (case hv => exact rfl))
    | with_reducible first
      | refine' s_c ?_ | refine' s_op ?_ | refine' s_asg ?_ | refine' s_gname ?_ | refine' s_seq ?_ | refine' s_next ?_ | refine' s_ret ?_ | refine' s_ifS ?_ | refine' s_drop ?_ | refine' s_retN ?_
      | refine' s_test ?_ | refine' s_B ?_ | refine' q_test ?_ | refine' s_int ?_ | refine' s_cons ?_ | refine' s_nil ?_ | refine' s_call ?_ | refine' s_CB ?_ | refine' s_andT ?_ | refine' s_orT ?_ | refine' s_notT ?_
      | refine' s_andV ?_ | refine' s_orV ?_ | refine' s_notV ?_ | refine' s_ifV ?_ | refine' s_chain ?_ | refine' s_sl ?_ | refine' s_noPart ?_ | refine' s_part ?_ | refine' s_gsub ?_ | refine' s_BM ?_ | refine' s_tup ?_ | refine' s_lst ?_
      | refine' q_add ?_ | refine' q_sub ?_ | refine' q_lt ?_ | refine' q_le ?_ | refine' q_gt ?_ | refine' q_ge ?_ | refine' s_ifT ?_ | refine' s_ifF ?_
      | (refine' q_mod ?hm ?_; (case hm => first | omega | decide)) | (refine' q_fdiv ?hm ?hn ?_; (case hm => first | omega | decide); (case hn => first | omega | decide))
      | (refine' q_mulR ?hm ?_; (case hm => first | omega | decide)) | (refine' q_mulL ?hm ?_; (case hm => first | omega | decide))
    | dsimp only
  k_with "r_D16" => repeat (k_extra "s_D16")
  trivial
/-! ### the purse -/
def Purse (H : Hp) (p : Addr) : Prop := ∃ a b c : Int, H p = some (.lst [.int a, .int b, .int c]) ∧ 0 ≤ b ∧ b < 2147483629
theorem Purse.mono {H H' : Hp} {p : Addr} (S : Same H H') (h : Purse H p) : Purse H' p := let ⟨a, b, c, e, h⟩ := h; ⟨a, b, c, S _ _ e, h⟩
def spDraw : Sp := fun vs H Q _ => ∃ (p : Addr) (m : Int), vs = [.ref p, .int m] ∧ Purse H p ∧ 0 < m ∧ m < 1073741824 ∧ ∀ n H', 0 ≤ n → n < m → Purse H' p → But p H H' → Q (.int n) H'
structure TxtL (K : PySem.W.Frag) (mg : Str → Option Value) : Prop where
  n_range : mg "range" = none
  n_sum : mg "sum" = none
  d__law_purse : Df K mg "_law_purse" s__law_purse ["_law_script", "_law_at"]
  d__law_draw : Df K mg "_law_draw" s__law_draw ["_law_purse_here", "_law_many"]
section
variable {P : Program} {w : World} {K : PySem.W.Frag} {mg : Str → Option Value} {base : Heap}
theorem ok__law_draw (L : TxtL K mg) : Cal P w K mg base 1 "_law_draw" spDraw := by
  refine L.d__law_draw.cal sc__law_draw (fun vs H Q E h => ?_) (fun f cdv A outer s H vs Q E hr h => ?_)
  · obtain ⟨p, m, rfl, _⟩ := h
    rfl
  · obtain ⟨p, m, rfl, ⟨a, b, c, hp, b0, b1⟩, m0, m1, k⟩ := h
    refine ⟨_, (pss_cons (ps_if (pt_cmpR op_gtI (pe_ix ix_seq (pv 0) pe_int (fun _ _ => rfl)) pe_int (by rfl)) (pss_cons (ps_set (i := 2) sc__law_draw.nd rfl (.inl rfl) (pe_op op_modU (pe_ix ix_seq (pv 0) pe_int (fun _ _ => rfl)) (pv 1)))
        (pss_cons (ps_asg (pe_op op_fdivU (pe_ix ix_seq (pv 0) pe_int (fun _ _ => rfl)) (pv 1)) (pg_sub (pv 0) pe_int set_list))
        (pss_one (ps_ret (pv 2))))) pss_nil)
      (pss_cons (ps_asg (pe_op op_addU (pe_ix ix_seq (pv 0) pe_int (fun _ _ => rfl)) pe_int) (pg_sub (pv 0) pe_int set_list))
      (pss_cons (ps_set (i := 3) sc__law_draw.nd rfl (.inl rfl) (pe_op op_modU (pe_op op_addU (pe_op op_addU (pe_op op_mulU (pe_ix ix_seq (pv 0) pe_int (fun _ _ => rfl)) pe_int) (pe_op op_mulU (pe_ix ix_seq (pv 0) pe_int (fun _ _ => rfl)) pe_int)) pe_int) pe_int))
      (pss_cons (ps_set (i := 3) sc__law_draw.nd rfl (.inl rfl) (pe_op op_modU (pe_op op_addU (pe_op op_mulU (pv 3) (pv 3)) (pe_ix ix_seq (pv 0) pe_int (fun _ _ => rfl))) pe_int))
      (pss_cons (ps_set (i := 3) sc__law_draw.nd rfl (.inl rfl) (pe_op op_modU (pe_op op_addU (pe_op op_mulU (pv 3) (pv 3)) pe_int) pe_int))
      (pss_one (ps_ret (pe_op op_modU (pe_op op_fdivU (pv 3) pe_int) (pv 1))))))))), ?_⟩
    k_extra "r_D16"
    refine q_ixL (SqL.of hp) (at_of (j := 0) rfl rfl) ?_
    k_extra "r_D16"
    refine s_ifD (fun c0 => ?_) (fun c0 => ?_)
    · k_extra "r_D16"
      refine q_ixL (SqL.of hp) (at_of (j := 0) rfl rfl) ?_
      k_extra "r_D16"
      refine q_ixL (SqL.of hp) (at_of (j := 0) rfl rfl) ?_
      k_extra "r_D16"
      refine q_setL hp rfl ?_
      k_extra "r_D16"
      exact k _ _ (Int.emod_nonneg _ (by omega)) (Int.emod_lt_of_pos _ m0) ⟨_, _, _, upd_same, b0, b1⟩ But.upd
    · k_extra "r_D16"
      refine q_ixL (SqL.of hp) (at_of (j := 2) rfl rfl) ?_
      k_extra "r_D16"
      refine q_setL hp rfl ?_
      have hp2 : (upd H p (.lst ([V.int a, V.int b, V.int c].set 2 (.int (c + 1))))) p = some (.lst [.int a, .int b, .int (c + 1)]) := upd_same
      k_extra "r_D16"
      refine q_ixL (SqL.of hp2) (at_of (j := 1) rfl rfl) ?_
      k_extra "r_D16"
      refine q_ixL (SqL.of hp2) (at_of (j := 2) rfl rfl) ?_
      k_extra "r_D16"
      have g1 := Int.emod_nonneg (b * 48271 + (c + 1) * 1299709 + 907) (show (2147483629 : Int) ≠ 0 by decide)
      have g2 := Int.emod_lt_of_pos (b * 48271 + (c + 1) * 1299709 + 907) (show (0 : Int) < 2147483629 by decide)
      generalize (b * 48271 + (c + 1) * 1299709 + 907) % 2147483629 = x1 at g1 g2 ⊢
      k_extra "r_D16"
      refine q_ixL (SqL.of hp2) (at_of (j := 2) rfl rfl) ?_
      k_extra "r_D16"
      have g3 := Int.emod_nonneg (x1 * x1 + (c + 1)) (show (2147483587 : Int) ≠ 0 by decide)
      have g4 := Int.emod_lt_of_pos (x1 * x1 + (c + 1)) (show (0 : Int) < 2147483587 by decide)
      generalize (x1 * x1 + (c + 1)) % 2147483587 = x2 at g3 g4 ⊢
      k_extra "r_D16"
      exact k _ _ (Int.emod_nonneg _ (by omega)) (Int.emod_lt_of_pos _ m0) ⟨_, _, _, hp2, b0, b1⟩ But.upd
theorem cutV_ints {ns : List Int} {lo hi : Option Int} : ∃ ms : List Int, cutV (ns.map V.int) lo hi = ms.map V.int := ⟨_, by unfold cutV; rw [← List.map_drop, ← List.map_take]⟩
theorem big_pos : (0 : Int) < ((10 : Int) ^ (60 : Int).toNat) ^ (10 : Int).toNat := Int.pow_pos (Int.pow_pos (by decide))
def spPurse (K : PySem.W.Frag) : Sp := fun vs H Q _ => ∃ (a : Addr) (ns : List Int) (k : Int), vs = [.ref a, .int k] ∧ SqL K H a (ns.map V.int) ∧ 0 ≤ k ∧ k < 1000 ∧ ∀ p H', H p = none → Same H H' → Purse H' p → Q (.ref p) H'
theorem ok__law_purse (T : Txt K mg) (L : TxtL K mg) : Cal P w K mg base 1 "_law_purse" (spPurse K) := by
  refine L.d__law_purse.cal sc__law_purse (fun vs H Q E h => ?_) (fun f cdv A outer s H vs Q E hr h => ?_)
  · obtain ⟨a, ns, k, rfl, _⟩ := h
    rfl
  · obtain ⟨a, ns, at_, rfl, hs, k0, k1, k⟩ := h
    refine ⟨_, (pss_cons (ps_set (i := 2) sc__law_purse.nd rfl (.inl rfl) (pe_callTy call_int1 (by rfl) T.n_int (by decide +kernel) (pa_cons (pe_callB (cr_sum rfl) (by rfl) L.n_sum (by decide +kernel) (pa_cons (pe_slice sl_list (pv 0) (po_some (pv 1)) (po_some (pe_op op_addU (pv 1) pe_int))) pa_nil)) pa_nil)))
      (pss_one (ps_ret (pe_lst (pa_cons (pe_op op_mulU (pe_callTy call_int1 (by rfl) T.n_int (by decide +kernel) (pa_cons (pe_cmpR op_geI (pv 2) (pe_op op_powW pe_int pe_int) (by rfl)) pa_nil)) (pe_op op_modU (pv 2) (pe_op op_powW (pe_op op_powW pe_int pe_int) pe_int))) (pa_cons (pe_op op_modU (pv 2) pe_int) (pa_cons (pe_op op_mulU pe_int (pv 1)) pa_nil))))))), ?_⟩
    k_extra "r_D16"
    refine ⟨a, _, rfl, hs, fun l hl => ?_⟩
    obtain ⟨ms, em⟩ := cutV_ints (ns := ns) (lo := some at_) (hi := some (at_ + 1))
    rw [em]
    k_extra "r_D16"
    refine ⟨l, ms, rfl, SqL.of upd_same, ?_⟩
    k_extra "r_D16"
    refine .inl ⟨_, rfl, ?_⟩
    k_extra "r_D16"
    refine ⟨_, _, rfl, rfl, ⟨by decide, by decide +kernel⟩, ?_⟩
    k_extra "r_D16"
    refine .inr ⟨_, rfl, ?_⟩
    k_extra "r_D16"
    refine ⟨_, _, rfl, rfl, ⟨by decide, by decide +kernel⟩, ?_⟩
    k_extra "r_D16"
    refine ⟨_, _, rfl, rfl, ⟨by decide, by decide +kernel⟩, ?_⟩
    refine q_mod big_pos ?_
    refine q_mulL ?_ ?_
    · split <;> decide
    k_extra "r_D16"
    refine ⟨by show 3 ≤ sizeLine; decide, fun p np => ?_⟩
    refine k p _ (by rw [upd_ne (fun e => by rw [e, upd_same] at np; cases np)] at np; exact np) (fun b o e => ?_) ⟨_, _, _, upd_same, Int.emod_nonneg _ (by decide), Int.emod_lt_of_pos _ (by decide)⟩
    exact Same.new np _ _ (Same.new hl _ _ e)
end
end Bt
namespace Bt
open PySem PySem.Spec PyProof.Rows L2
theorem words6_ : True := by
  k_with "s_N16" => first
    | ((with_reducible refine' s_var ?hv ?_); (case hv => exact rfl))
    | with_reducible first
      | refine' s_c ?_ | refine' s_op ?_ | refine' s_asg ?_ | refine' s_gname ?_ | refine' s_seq ?_ | refine' s_next ?_ | refine' s_ret ?_ | refine' s_ifS ?_ | refine' s_drop ?_ | refine' s_retN ?_
      | refine' s_test ?_ | refine' s_B ?_ | refine' q_test ?_ | refine' s_int ?_ | refine' s_cons ?_ | refine' s_nil ?_ | refine' s_call ?_ | refine' s_CB ?_ | refine' s_andT ?_ | refine' s_orT ?_ | refine' s_notT ?_
      | refine' s_andV ?_ | refine' s_orV ?_ | refine' s_notV ?_ | refine' s_ifV ?_ | refine' s_chain ?_ | refine' s_sl ?_ | refine' s_noPart ?_ | refine' s_part ?_ | refine' s_gsub ?_ | refine' s_BM ?_ | refine' s_tup ?_ | refine' s_lst ?_
      | refine' q_add ?_ | refine' q_sub ?_ | refine' q_lt ?_ | refine' q_le ?_ | refine' q_gt ?_ | refine' q_ge ?_ | refine' s_ifT ?_ | refine' s_ifF ?_ | refine' s_yes ?_ | refine' s_iStr ?_ | refine' s_M0 ?_ | refine' s_make ?_ | refine' s_makeS ?_ | refine' s_prop ?_ | refine' s_raise1 ?_ | refine' s_for ?_ | refine' s_rng1 ?_ | refine' s_par ?_ | refine' s_gcons ?_ | refine' s_gnil ?_ | refine' s_iList ?_ | refine' s_iEnum ?_
      | (refine' q_mod ?hm ?_; (case hm => first | omega | decide)) | (refine' q_fdiv ?hm ?hn ?_; (case hm => first | omega | decide); (case hn => first | omega | decide))
      | (refine' q_mulR ?hm ?_; (case hm => first | omega | decide)) | (refine' q_mulL ?hm ?_; (case hm => first | omega | decide))
    | dsimp only
  k_with "r_N16" => repeat (k_extra "s_N16")
  trivial
/-! ### names -/
def Nm (z : Str) : Prop := 1 ≤ z.length ∧ z.length ≤ 8 ∧ ∀ c ∈ z.cps.toList, c ∈ alpha
theorem Nm.asc {z : Str} (h : Nm z) : Asc z := fun c hc => by
  have := mem_alpha.mp (h.2.2 c hc)
  omega
theorem Nm.sz {z : Str} (h : Nm z) : z.length ≤ sizeLine := Bt.sz (by have := h.2.1; omega)
def NmV (x : V) : Prop := ∃ z, x = .str z ∧ Nm z
structure TxtN (K : PySem.W.Frag) (mg : Str → Option Value) : Prop where
  n_len : mg "len" = none
  n_all : mg "all" = none
  v_LONGEST_NAME : ∃ t, mg "LONGEST_NAME" = some (.int 8 t)
  d_is_name : Df K mg "is_name" s_is_name ["value"]
  d__law_name : Df K mg "_law_name" s__law_name ["_law_purse_here"]
  d__law_names : Df K mg "_law_names" s__law_names ["_law_purse_here", "_law_many"]
section
variable {P : Program} {w : World} {K : PySem.W.Frag} {mg : Str → Option Value} {base : Heap}
theorem s_ifND {p : Prop} {inst : Decidable p} {A B : Prop} (h : p → B) (h' : ¬ p → A) : if (!@decide p inst) = true then A else B := by
  by_cases c : p
  · rw [decide_eq_true c]; exact h c
  · rw [decide_eq_false c]; exact h' c
theorem take_all (z : Str) : z.cps.toList.take z.cps.size = z.cps.toList := List.take_of_length_le (by rw [Array.length_toList]; exact Nat.le_refl _)
def rLenS : List V → Hp → VK → Prop := fun xs H Q => ∃ z, xs = [.str z] ∧ z.length ≤ sizeLine ∧ Q (.int z.length) H
theorem call_lenS {X : Cx} : CallR X (.builtin "len") rLenS := call_len_str
theorem q_lenS {H : Hp} {Q : VK} {z : Str} (h : z.length ≤ sizeLine) (q : Q (.int z.length) H) : rLenS [.str z] H Q := ⟨z, rfl, h, q⟩
def rInC : R2 := fun x y H Q => ∃ (c : Nat) (z : Str), x = .str ⟨#[c]⟩ ∧ y = .str z ∧ Q (.bl (decide (c ∈ z.cps.toList))) H
theorem op_inC {X : Cx} : OpR X (compareOp .In) rInC := op_in_sign
theorem q_inC {H : Hp} {Q : VK} {c : Nat} {z : Str} (q : Q (.bl (decide (c ∈ z.cps.toList))) H) : rInC (.str ⟨#[c]⟩) (.str z) H Q := ⟨c, z, rfl, rfl, q⟩
def rAllB (K : PySem.W.Frag) : List V → Hp → VK → Prop := fun vs H Q => ∃ (a : Addr) (bs : List Bool), vs = [V.ref a] ∧ SqL K H a (bs.map V.bl) ∧ Q (.bl (bs.all id)) H
theorem call_allB {X : Cx} (hc : X.calm = true) : CallR X (.builtin "all") (rAllB X.K) := cr_all hc
theorem q_allB {H : Hp} {Q : VK} {a : Addr} {bs : List Bool} (h : SqL K H a (bs.map V.bl)) (q : Q (.bl (bs.all id)) H) : rAllB K [.ref a] H Q := ⟨a, bs, rfl, h, q⟩
def spName (K : PySem.W.Frag) : Sp := fun vs H Q _ => ∃ x T, vs = [x] ∧ Pl K H x T ∧ (∀ z, x = .str z → z.length < 64) ∧ (¬ NmV x → ∀ H', Same H H' → Q (.bl false) H') ∧ (NmV x → ∀ H', Same H H' → Q (.bl true) H')
theorem ok_is_name (T : Txt K mg) (N : TxtN K mg) : Cal P w K mg base 1 "is_name" (spName K) := by
  refine N.d_is_name.cal sc_is_name (fun vs H Q E h => ?_) (fun f cdv A outer s H vs Q E hr h => ?_)
  · obtain ⟨x, T, rfl, _⟩ := h
    rfl
  · obtain ⟨x, ty, rfl, hx, hz, kN, kY⟩ := h
    refine ⟨_, (pss_cons (ps_if (pt_not (PW.pt (pw_and (pt_val (pe_callB call_isi (by rfl) T.n_isinstance (by decide +kernel) (pa_cons (pv 0) (pa_cons (pe_bltn (v := .ty "str") (by rfl) T.n_str (by decide +kernel) rfl) pa_nil)))) (pw_and1 (pt_chain op_leI op_leI pe_int (pe_callB call_lenS (by rfl) N.n_len (by decide +kernel) (pa_cons (pv 0) pa_nil)) (pe_glob (v := .int 8) (by rfl) N.v_LONGEST_NAME.choose_spec ⟨_, rfl⟩)))))) (pss_one (ps_ret pe_bl)) pss_nil)
      (pss_one (ps_ret (pe_callB (call_allB rfl) (by rfl) N.n_all (by decide +kernel) (pa_cons (pe_lc (own := [("letter", 1)]) (g := gName 1) (tt := tYes) rfl sc_is_name.nd (pi_str (pv 0)) (blkOk_by (own := [("letter", 1)]) (N := ["value", "letter"]) (sc := defScope s_is_name) (by decide +kernel)) (fun _ _ _ _ _ => pg_name (i := 1) sc_is_name.nd rfl (Or.inl rfl)) (fun _ _ _ _ _ => pts_nil) (fun _ _ _ _ _ => (pe_cmpR op_inC (pv 1) (pe_glob (v := .str alphaS) (by rfl) T.v_LETTERS.choose_spec ⟨_, rfl⟩) (by rfl)))) pa_nil))))), ?_⟩
    k_extra "r_N16"
    refine q_isi hx .str ?_
    by_cases e : ty = "str"
    · obtain ⟨z, rfl⟩ := hx.of_str e
      have h64 := hz z rfl
      have hs : z.length ≤ sizeLine := Bt.sz (by omega)
      subst e
      k_extra "r_N16"
      refine s_if1 rfl ?_
      k_extra "r_N16"
      refine q_lenS hs ?_
      k_extra "r_N16"
      have inv : Nm z → z.length ≥ 1 ∧ z.length ≤ 8 := fun h => ⟨h.1, h.2.1⟩
      refine s_ifD (fun c1 => ?_) (fun c1 => ?_)
      · k_extra "r_N16"
        refine s_ifND (fun c2 => ?_) (fun c2 => ?_)
        · k_extra "r_N16"
          refine s_lc ?_
          k_extra "r_N16"
          refine ⟨z, rfl, fun D nD => lc_str (z := z) (fun i H' => Same H H' ∧ H' D = some (.lst (((z.cps.toList.take i).map fun c => decide (c ∈ alphaS.cps.toList)).map V.bl))) ⟨Same.new nD, upd_same⟩ ?_ ?_⟩
          · rintro j d H' hj ⟨S', hD⟩
            k_extra "r_N16"
            refine ⟨rfl, ?_⟩
            k_extra "r_N16"
            refine q_inC ⟨_, hD, ?_, same_mut S' nD, ?_⟩
            · rw [List.length_map, List.length_map, List.length_take]
              exact szlt (by have := (List.getElem?_eq_some_iff.mp hj).1; rw [← len_cps] at this; omega)
            · rw [upd_same, take_map_more hj, List.map_append]
              rfl
          · rintro H2 ⟨S2, h2⟩
            rw [take_all] at h2
            k_extra "r_N16"
            refine q_allB (SqL.of h2) ?_
            by_cases v : Nm z
            · rw [show (List.all _ id : Bool) = true from ?_]
              · exact kY ⟨z, rfl, v⟩ _ S2
              · rw [List.all_map, List.all_eq_true]
                intro c hc
                show decide _ = true
                rw [alphaS_cps]
                exact decide_eq_true (v.2.2 c hc)
            · rw [show (List.all _ id : Bool) = false from ?_]
              · exact kN (fun u => by obtain ⟨_, e, u⟩ := u; cases e; exact v u) _ S2
              · rw [Bool.eq_false_iff]
                intro hall
                rw [List.all_map, List.all_eq_true] at hall
                refine v ⟨by omega, by omega, fun c hc => ?_⟩
                have := of_decide_eq_true (show decide _ = true from hall c hc)
                rw [alphaS_cps] at this
                exact this
        · k_extra "r_N16"
          exact kN (fun v => by obtain ⟨_, e, v⟩ := v; cases e; have := v.2.1; omega) _ (Same.refl H)
      · k_extra "r_N16"
        exact kN (fun v => by obtain ⟨_, e, v⟩ := v; cases e; have := v.1; omega) _ (Same.refl H)
    · have e2 : subKd ty "str" = false := by
        cases hx.2 <;> first | rfl | exact absurd rfl e
      rw [e2]
      k_extra "r_N16"
      refine kN (fun v => ?_) H (Same.refl H)
      obtain ⟨z, ez, _⟩ := v
      subst ez
      exact absurd hx.is_str e
def AlC (z : Str) : Prop := ∀ c ∈ z.cps.toList, c ∈ alpha
def spName1 : Sp := fun vs H Q _ => ∃ p, vs = [.ref p] ∧ Purse H p ∧ ∀ z H', Nm z → Purse H' p → But p H H' → Q (.str z) H'
theorem ok__law_name (L : TxtL K mg) (N : TxtN K mg) : Cal P w K mg base 2 "_law_name" spName1 := by
  refine N.d__law_name.cal sc__law_name (fun vs H Q E h => ?_) (fun f cdv A outer s H vs Q E hr h => ?_)
  · obtain ⟨p, rfl, _⟩ := h
    rfl
  · obtain ⟨p, rfl, hp, k⟩ := h
    refine ⟨_, (pss_cons (ps_set (i := 1) sc__law_name.nd rfl (.inl rfl) pe_str)
      (pss_cons (ps_for PassesOwn.never rfl (pi_range1 rfl L.n_range (pa_cons (pe_op op_addU pe_int (pe_c (ok__law_draw L) hr (by decide) rfl (pa_cons (pv 0) (pa_cons pe_int pa_nil)))) pa_nil)) (pg_name (i := 2) sc__law_name.nd rfl (.inl rfl))
        (pss_one (ps_set (i := 1) sc__law_name.nd rfl (.inl rfl) (pe_op op_addU (pv 1) (pe_ix ix_seq pe_str (pe_c (ok__law_draw L) hr (by decide) rfl (pa_cons (pv 0) (pa_cons pe_int pa_nil))) (fun _ _ => rfl))))))
      (pss_one (ps_ret (pv 1))))), ?_⟩
    k_extra "r_N16"
    refine ⟨p, 8, rfl, hp, by decide, by decide, fun n H1 n0 n1 p1 b1 => ?_⟩
    k_extra "r_N16"
    refine ⟨_, rfl, by omega, by omega, q_forR (fun i σ H2 => ∃ z v, σ = [some (.ref p), some (.str z), v] ∧ z.length = i ∧ AlC z ∧ Purse H2 p ∧ But p H H2) ⟨_, none, rfl, rfl, (fun c hc => by cases hc), p1, b1⟩ ?_ ?_⟩
    · rintro i σ H2 hi ⟨z, v, rfl, hz, az, p2, b2⟩
      k_extra "r_N16"
      refine ⟨p, 26, rfl, p2, by decide, by decide, fun m H3 m0 m1 p3 b3 => ?_⟩
      obtain ⟨j, rfl⟩ : ∃ j : Nat, m = j := ⟨m.toNat, by omega⟩
      have hj : j < 26 := by omega
      have ej : alphaS.cps.toList[j]? = some (97 + j) := by
        rw [alphaS_cps]
        unfold alpha
        rw [List.getElem?_map, List.getElem?_range hj]
        rfl
      refine q_ixS (by show alphaS.length ≤ sizeLine; exact Bt.sz (by decide)) (atI_nat ej) ?_
      refine q_addS (Bt.sz (by rw [hz]; show i + 1 ≤ 100000; omega)) ?_
      k_extra "r_N16"
      refine ⟨_, _, rfl, ?_, ?_, p3, b2.trans b3⟩
      · rw [app_len, hz]
        rfl
      · intro c hc
        rw [app_cps, List.mem_append] at hc
        rcases hc with hc | hc
        · exact az c hc
        · have ec : c = 97 + j := by simpa using hc
          exact mem_alpha.mpr (by omega)
    · rintro σ H2 ⟨z, v, rfl, hz, az, p2, b2⟩
      k_extra "r_N16"
      exact k z H2 ⟨by omega, by omega, az⟩ p2 b2
theorem eqv_strs (xs ys : List Str) : PyData.eqv (.list (xs.map .str)) (.list (ys.map .str)) = decide (xs = ys) := by
  rw [← eqvAll_strs]
  simp only [PyData.eqv]
theorem inV_strs (z : Str) (zs : List Str) : inV (.str z) (zs.map V.str) = decide (z ∈ zs) := by
  unfold inV
  rw [List.any_map, Bool.eq_iff_iff, List.any_eq_true, decide_eq_true_iff]
  constructor
  · rintro ⟨y, hy, e⟩
    have e2 : (y == z) = true := e
    rw [← eq_of_beq e2]
    exact hy
  · intro h
    exact ⟨z, h, (beq_self_eq_true z : (z == z) = true)⟩
theorem flat_strs (zs : List Str) : (zs.map V.str).all flatV = true := by
  rw [List.all_map, List.all_eq_true]
  exact fun _ _ => rfl
theorem q_notinStrs {H : Hp} {Q : VK} {l : Addr} {z : Str} {zs : List Str} (h : H l = some (.lst (zs.map V.str))) (q : Q (.bl (!decide (z ∈ zs))) H) : rIn K true (.str z) (.ref l) H Q :=
  ⟨l, _, rfl, .inl (SqL.of h), rfl, flat_strs zs, by rw [inV_strs]; exact q⟩
theorem atI_last {α : Type} (xs : List α) (x : α) : atI (xs ++ [x]) (-1) = some x := by
  unfold atI
  have e : ixN (xs ++ [x]).length (-1) = some xs.length := by
    rw [List.length_append]
    unfold ixN
    rw [if_neg (by decide), if_pos (by show (-(((xs.length + 1 : Nat)) : Int)) ≤ -1; omega)]
    congr 1
    show (-1 + (((xs.length + 1 : Nat)) : Int)).toNat = xs.length
    omega
  rw [e]
  simp
def spNames : Sp := fun vs H Q _ => ∃ (p : Addr) (m : Nat), vs = [.ref p, .int m] ∧ Purse H p ∧ m ≤ 1000 ∧
  ∀ l H' zs, H l = none → H' l = some (.lst (zs.map V.str)) → (∀ z ∈ zs, Nm z) → zs.Nodup → zs.length ≤ m → (1 ≤ m → zs ≠ []) → Purse H' p → But p H H' → Q (.ref l) H'
theorem ok__law_names (L : TxtL K mg) (N : TxtN K mg) : Cal P w K mg base 3 "_law_names" spNames := by
  refine N.d__law_names.cal sc__law_names (fun vs H Q E h => ?_) (fun f cdv A outer s H vs Q E hr h => ?_)
  · obtain ⟨p, m, rfl, _⟩ := h
    rfl
  · obtain ⟨p, m, rfl, hp, hm, k⟩ := h
    have hu := hr.units
    refine ⟨_, (pss_cons (ps_set (i := 2) sc__law_names.nd rfl (.inl rfl) (pe_lst pa_nil))
      (pss_cons (ps_for PassesOwn.never rfl (pi_range1 rfl L.n_range (pa_cons (pv 1) pa_nil)) (pg_name (i := 3) sc__law_names.nd rfl (.inl rfl))
        (pss_cons (ps_set (i := 4) sc__law_names.nd rfl (.inl rfl) (pe_c (ok__law_name L N) hr (by decide) rfl (pa_cons (pv 0) pa_nil)))
          (C8.pss_cut (ps_if (PW.pt (pw_and (pt_cmpR (op_neU hu) (pv 2) (pe_lst pa_nil) (by rfl)) (pw_and1 (pt_cmpR (op_eqU hu) (pe_c (ok__law_draw L) hr (by decide) rfl (pa_cons (pv 0) (pa_cons pe_int pa_nil))) pe_int (by rfl))))) (pss_one (ps_set (i := 4) sc__law_names.nd rfl (.inl rfl) (pe_slice sl_str (pe_op op_addU (pe_ix ix_seq (pv 2) (pe_un un_neg pe_int) (fun _ _ => rfl)) (pv 4)) po_none (po_some (pe_op op_addU pe_int (pe_c (ok__law_draw L) hr (by decide) rfl (pa_cons (pv 0) (pa_cons pe_int pa_nil)))))))) pss_nil)
          (pss_one (ps_if (pt_cmpR op_notIn_seq (pv 4) (pv 2) (by rfl)) (pss_one (ps_expr (pe_bm PySem.F.plainAttrs_list PySem.F.slot_list_append PySem.F.type_list_append mt_append (pv 2) (pa_cons (pv 4) pa_nil)))) pss_nil)))))
      (pss_one (ps_ret (pv 2))))), ?_⟩
    k_extra "r_N16"
    refine q_newL (by show 0 ≤ sizeLine; decide) fun l H1 n1 S1 h1 => ?_
    k_extra "r_N16"
    have hlp : l ≠ p := by
      obtain ⟨_, _, _, e, _⟩ := hp
      exact fun z => by rw [z, e] at n1; cases n1
    refine ⟨_, rfl, by omega, by omega, q_forR (fun i σ H2 => ∃ zs v u, σ = [some (.ref p), some (.int m), some (.ref l), v, u] ∧ H2 l = some (.lst (zs.map V.str)) ∧ (∀ z ∈ zs, Nm z) ∧ zs.Nodup ∧ zs.length ≤ i ∧ (1 ≤ i → zs ≠ []) ∧ Purse H2 p ∧ But p H H2)
      ⟨[], none, none, rfl, h1, (fun z hz => by cases hz), .nil, Nat.le_refl _, (fun z => absurd z (by decide)), hp.mono S1, But.of S1⟩ ?_ ?_⟩
    · rintro i σ H2 hi ⟨zs, v, u, rfl, h2, nz, nd, hl, hne, p2, b2⟩
      k_extra "r_N16"
      refine ⟨p, rfl, p2, fun z H3 hz p3 b3 => ?_⟩
      have h3 := b3 _ _ hlp h2
      k_extra "r_N16"
      refine ⟨fun σ H4 => ∃ z v, σ = [some (.ref p), some (.int m), some (.ref l), v, some (.str z)] ∧ Nm z ∧ H4 l = some (.lst (zs.map V.str)) ∧ Purse H4 p ∧ But p H H4, ?_, ?_⟩
      · k_extra "r_N16"
        refine q_newL (by show 0 ≤ sizeLine; decide) fun l0 H4 n4 S4 h4 => ?_
        refine q_neD (dp_lst_strs (S4 _ _ h3)) (dp_lst_strs (ys := []) h4) (shaped_strs fun y hy => (nz y hy).asc) (shaped_strs fun y hy => by cases hy) ?_
        rw [eqv_strs]
        k_extra "r_N16"
        refine s_ifND (fun c => ?_) (fun c => ?_)
        · k_extra "r_N16"
          exact ⟨z, _, rfl, hz, S4 _ _ h3, p3.mono S4, b2.trans (b3.trans (But.of S4))⟩
        · k_extra "r_N16"
          refine ⟨p, 3, rfl, p3.mono S4, by decide, by decide, fun n5 H5 n50 n51 p5 b5 => ?_⟩
          refine q_eq rfl ?_
          k_extra "r_N16"
          refine s_if (fun _ => ?_) (fun _ => ?_)
          · k_extra "r_N16"
            obtain ⟨zs0, y, rfl⟩ : ∃ zs0 y, zs = zs0 ++ [y] := ⟨zs.dropLast, zs.getLast c, (List.dropLast_concat_getLast c).symm⟩
            have ny := nz y (by simp)
            have h5 := b5 _ _ hlp (S4 _ _ h3)
            refine ⟨_, rfl, ?_⟩
            rw [List.map_append] at h5
            refine q_ixL (SqL.of h5) (atI_last _ _) ?_
            k_extra "r_N16"
            have hsum : (y ++ z).length ≤ 16 := by rw [app_len]; have := ny.2.1; have := hz.2.1; omega
            refine q_addS (by rw [← app_len]; exact Bt.sz (by omega)) ?_
            k_extra "r_N16"
            refine ⟨p, 8, rfl, p5, by decide, by decide, fun n6 H6 n60 n61 p6 b6 => ?_⟩
            k_extra "r_N16"
            refine ⟨_, rfl, Bt.sz (by omega), ?_⟩
            k_extra "r_N16"
            have ecut : (cutS (y ++ z) none (some (1 + n6))).cps.toList = (y ++ z).cps.toList.take (1 + n6).toNat := cut_to (by omega)
            refine ⟨_, _, rfl, ⟨?_, ?_, fun c2 hc2 => ?_⟩, ?_, p6, ?_⟩
            · rw [len_cps, ecut, List.length_take, ← len_cps, app_len]
              have := ny.1
              omega
            · rw [len_cps, ecut, List.length_take]
              omega
            · rw [ecut] at hc2
              have hc3 := List.mem_of_mem_take hc2
              rw [app_cps, List.mem_append] at hc3
              rcases hc3 with hc3 | hc3
              · exact ny.2.2 _ hc3
              · exact hz.2.2 _ hc3
            · rw [List.map_append]
              exact b6 _ _ hlp h5
            · exact b2.trans (b3.trans ((But.of S4).trans (b5.trans b6)))
          · k_extra "r_N16"
            exact ⟨z, _, rfl, hz, b5 _ _ hlp (S4 _ _ h3), p5, b2.trans (b3.trans ((But.of S4).trans b5))⟩
      · rintro σ H4 ⟨z4, v4, rfl, hz4, h4, p4, b4⟩
        k_extra "r_N16"
        refine q_notinStrs h4 ?_
        k_extra "r_N16"
        refine s_ifND (fun c => ?_) (fun c => ?_)
        · k_extra "r_N16"
          exact ⟨zs, _, _, rfl, h4, nz, nd, by omega, (fun _ e => by rw [e] at c; cases c), p4, b4⟩
        · k_extra "r_N16"
          refine ⟨.inl ⟨rfl, _, SqL.of h4⟩, ?_⟩
          k_extra "r_N16"
          refine q_append h4 (by rw [List.length_map]; exact szlt (by omega)) fun H5 b5 h5 => ?_
          k_extra "r_N16"
          have h5' : H5 l = some (.lst ((zs ++ [z4]).map V.str)) := by rw [h5, List.map_append]; rfl
          refine ⟨zs ++ [z4], _, _, rfl, h5', fun y hy => ?_, ?_, by rw [List.length_append]; show zs.length + 1 ≤ i + 1; omega, (fun _ e => by simp at e), ?_, ?_⟩
          · rcases List.mem_append.mp hy with hy | hy
            · exact nz y hy
            · rw [List.mem_singleton.mp hy]; exact hz4
          · refine List.nodup_append.mpr ⟨nd, by simp, fun a ha b hb e => ?_⟩
            rw [List.mem_singleton.mp hb] at e
            exact c (e ▸ ha)
          · obtain ⟨a, b, c, e, h⟩ := p4
            exact ⟨a, b, c, b5 _ _ hlp.symm e, h⟩
          · exact fun b o hb e => b5 b o (fun z => by rw [z] at e; rw [e] at n1; cases n1) (b4 b o hb e)
    · rintro σ H2 ⟨zs, v, u, rfl, h2, nz, nd, hl, hne, p2, b2⟩
      k_extra "r_N16"
      exact k l H2 zs n1 h2 nz nd hl hne p2 b2
end
end Bt
namespace Bt
open PySem PySem.Spec PyProof.Rows L2 LamX NdefX
theorem words22_ : True := by
  k_with "s_I16" => first
    | ((with_reducible refine' s_var ?hv ?_); (case hv => exact rfl))
    | with_reducible first
      | refine' s_c ?_ | refine' s_op ?_ | refine' s_asg ?_ | refine' s_gname ?_ | refine' s_seq ?_ | refine' s_next ?_ | refine' s_ret ?_ | refine' s_ifS ?_ | refine' s_drop ?_ | refine' s_retN ?_
      | refine' s_test ?_ | refine' s_B ?_ | refine' q_test ?_ | refine' s_int ?_ | refine' s_cons ?_ | refine' s_nil ?_ | refine' s_call ?_ | refine' s_CB ?_ | refine' s_andT ?_ | refine' s_orT ?_ | refine' s_notT ?_
      | refine' s_andV ?_ | refine' s_orV ?_ | refine' s_notV ?_ | refine' s_ifV ?_ | refine' s_chain ?_ | refine' s_sl ?_ | refine' s_noPart ?_ | refine' s_part ?_ | refine' s_gsub ?_ | refine' s_BM ?_ | refine' s_tup ?_ | refine' s_lst ?_
      | refine' q_add ?_ | refine' q_sub ?_ | refine' q_lt ?_ | refine' q_le ?_ | refine' q_gt ?_ | refine' q_ge ?_ | refine' s_ifT ?_ | refine' s_ifF ?_ | refine' s_yes ?_ | refine' s_prop ?_ | refine' s_iList ?_ | refine' s_callOS ?_ | refine' s_iStr ?_ | refine' s_M0 ?_ | refine' s_make ?_ | refine' s_makeS ?_ | refine' s_ownL ?_ | refine' s_ownR ?_ | refine' s_callSD ?_ | refine' s_fld ?_ | refine' s_prop ?_ | refine' s_raise1 ?_ | refine' s_for ?_ | refine' s_rng1 ?_ | refine' s_par ?_ | refine' s_gcons ?_ | refine' s_gnil ?_ | refine' s_iList ?_ | refine' s_iEnum ?_
      | (refine' q_mod ?hm ?_; (case hm => first | omega | decide)) | (refine' q_fdiv ?hm ?hn ?_; (case hm => first | omega | decide); (case hn => first | omega | decide))
      | (refine' q_mulR ?hm ?_; (case hm => first | omega | decide)) | (refine' q_mulL ?hm ?_; (case hm => first | omega | decide))
    | dsimp only
  k_with "r_I16" => repeat (k_extra "s_I16")
  trivial
def NameArg (K : PySem.W.Frag) (H : Hp) (y : V) : Prop := ∃ T, Pl K H y T ∧ ∀ z, y = .str z → z.length < 64
theorem NameArg.mono {K : PySem.W.Frag} {H H' : Hp} {y : V} (S : Same H H') (h : NameArg K H y) : NameArg K H' y := let ⟨T, a, b⟩ := h; ⟨T, a.mono S, b⟩
def rLenQ (K : PySem.W.Frag) : List V → Hp → VK → Prop := fun xs H Q => ∃ p ys, xs = [.ref p] ∧ (SqL K H p ys ∨ SqT K H p ys) ∧ Q (.int ys.length) H
theorem call_lenQ {X : Cx} : CallR X (.builtin "len") (rLenQ X.K) := call_len_seq
theorem q_lenT {K : PySem.W.Frag} {H : Hp} {Q : VK} {p : Addr} {ys : List V} (h : SqT K H p ys) (q : Q (.int ys.length) H) : rLenQ K [.ref p] H Q := ⟨p, ys, rfl, .inr h, q⟩
theorem q_lenL {K : PySem.W.Frag} {H : Hp} {Q : VK} {p : Addr} {ys : List V} (h : SqL K H p ys) (q : Q (.int ys.length) H) : rLenQ K [.ref p] H Q := ⟨p, ys, rfl, .inl h, q⟩
/-! ### places -/
def PlaceV (H : Hp) (x : V) : Prop := ∃ a u v, x = .ref a ∧ H a = some (.tup [u, v]) ∧ NmV u ∧ NmV v
structure TxtI (K : PySem.W.Frag) (mg : Str → Option Value) : Prop where
  d_is_place : Df K mg "is_place" s_is_place ["value"]
section
variable {P : Program} {w : World} {K : PySem.W.Frag} {mg : Str → Option Value} {base : Heap}
def spPlace (K : PySem.W.Frag) : Sp := fun vs H Q _ => ∃ x T, vs = [x] ∧ Pl K H x T ∧
  (T ≠ "tuple" → Q (.bl false) H) ∧
  (T = "tuple" → ∃ a xs, x = .ref a ∧ H a = some (.tup xs) ∧ (∀ y ∈ xs, NameArg K H y) ∧
    (¬ PlaceV H x → ∀ H', Same H H' → Q (.bl false) H') ∧ (PlaceV H x → ∀ H', Same H H' → Q (.bl true) H'))
theorem ok_is_place (T : Txt K mg) (N : TxtN K mg) (I : TxtI K mg) : Cal P w K mg base 2 "is_place" (spPlace K) := by
  refine I.d_is_place.cal sc_is_place (fun vs H Q E h => ?_) (fun f cdv A outer s H vs Q E hr h => ?_)
  · obtain ⟨x, T, rfl, _⟩ := h
    rfl
  · obtain ⟨x, ty, rfl, hx, kN, kY⟩ := h
    have hu := hr.units
    refine ⟨_, (pss_one (ps_ret (pe_and (pe_callB call_isi (by rfl) T.n_isinstance (by decide +kernel) (pa_cons (pv 0) (pa_cons (pe_bltn (v := .ty "tuple") (by rfl) T.n_tuple (by decide +kernel) rfl) pa_nil))) (pe_and (pe_cmpR (op_eqU hu) (pe_callB call_lenQ (by rfl) N.n_len (by decide +kernel) (pa_cons (pv 0) pa_nil)) pe_int (by rfl)) (pe_and (pe_c (ok_is_name T N) hr (by decide) rfl (pa_cons (pe_ix ix_seq (pv 0) pe_int (fun _ _ => rfl)) pa_nil)) (pe_one (pe_c (ok_is_name T N) hr (by decide) rfl (pa_cons (pe_ix ix_seq (pv 0) pe_int (fun _ _ => rfl)) pa_nil)))))))), ?_⟩
    k_extra "r_I16"
    refine q_isi hx .tup ?_
    by_cases e : ty = "tuple"
    · obtain ⟨a, xs, rfl, ha, hn, kF, kT⟩ := kY e
      clear kN kY
      subst e
      k_extra "r_I16"
      refine s_if1 rfl ?_
      k_extra "r_I16"
      refine q_lenT (SqT.of ha) ?_
      k_extra "r_I16"
      refine q_eq rfl ?_
      by_cases hl : xs.length = 2
      · obtain ⟨u, v, rfl⟩ : ∃ u v, xs = [u, v] := by
          match xs, hl with
          | [u, v], _ => exact ⟨u, v, rfl⟩
        k_extra "r_I16"
        refine s_if1 (decide_eq_true rfl) ?_
        obtain ⟨tu, pu, zu⟩ := hn u (by simp)
        obtain ⟨tv, qv, zv⟩ := hn v (by simp)
        k_extra "r_I16"
        refine q_ixT (SqT.of ha) (at_of (j := 0) rfl rfl) ?_
        k_extra "r_I16"
        refine ⟨u, tu, rfl, pu, zu, fun nu H1 S1 => ?_, fun nu H1 S1 => ?_⟩
        · k_extra "r_I16"
          exact kF (fun ⟨_, _, _, e, h, hu, _⟩ => by injection e with e; subst e; rw [ha] at h; cases h; exact nu hu) _ S1
        · k_extra "r_I16"
          refine q_ixT (SqT.of (S1 _ _ ha)) (at_of (j := 1) rfl rfl) ?_
          k_extra "r_I16"
          refine ⟨v, tv, rfl, qv.mono S1, zv, fun nv H2 S2 => ?_, fun nv H2 S2 => ?_⟩
          · exact kF (fun ⟨_, _, _, e, h, _, hv⟩ => by injection e with e; subst e; rw [ha] at h; cases h; exact nv hv) _ (S1.trans S2)
          · exact kT ⟨a, u, v, rfl, ha, nu, nv⟩ _ (S1.trans S2)
      · k_extra "r_I16"
        refine s_if0 (decide_eq_false fun z => ?_) ?_
        · have := V.int.inj z
          omega
        · k_extra "r_I16"
          exact kF (fun ⟨_, _, _, e, h, _⟩ => by injection e with e; subst e; rw [ha] at h; cases h; exact hl rfl) _ (Same.refl H)
    · have e2 : subKd ty "tuple" = false := by
        cases hx.2 <;> first | rfl | exact absurd rfl e
      rw [e2]
      k_extra "r_I16"
      exact kN e
end
end Bt
namespace Bt
open PySem PySem.Spec PyProof.Rows L2 LamX NdefX
theorem words23_ : True := by
  k_with "s_B16" => first
    | ((with_reducible refine' s_var ?hv ?_); (case hv => exact rfl))
    | with_reducible first
      | refine' s_c ?_ | refine' s_op ?_ | refine' s_asg ?_ | refine' s_gname ?_ | refine' s_seq ?_ | refine' s_next ?_ | refine' s_ret ?_ | refine' s_ifS ?_ | refine' s_drop ?_ | refine' s_retN ?_
      | refine' s_test ?_ | refine' s_B ?_ | refine' q_test ?_ | refine' s_int ?_ | refine' s_cons ?_ | refine' s_nil ?_ | refine' s_call ?_ | refine' s_CB ?_ | refine' s_andT ?_ | refine' s_orT ?_ | refine' s_notT ?_
      | refine' s_andV ?_ | refine' s_orV ?_ | refine' s_notV ?_ | refine' s_ifV ?_ | refine' s_chain ?_ | refine' s_sl ?_ | refine' s_noPart ?_ | refine' s_part ?_ | refine' s_gsub ?_ | refine' s_BM ?_ | refine' s_tup ?_ | refine' s_lst ?_
      | refine' q_add ?_ | refine' q_sub ?_ | refine' q_lt ?_ | refine' q_le ?_ | refine' q_gt ?_ | refine' q_ge ?_ | refine' s_ifT ?_ | refine' s_ifF ?_ | refine' s_yes ?_ | refine' s_prop ?_ | refine' s_iList ?_ | refine' s_callOS ?_ | refine' s_iStr ?_ | refine' s_M0 ?_ | refine' s_make ?_ | refine' s_makeS ?_ | refine' s_ownL ?_ | refine' s_ownR ?_ | refine' s_callSD ?_ | refine' s_fld ?_ | refine' s_prop ?_ | refine' s_raise1 ?_ | refine' s_for ?_ | refine' s_rng1 ?_ | refine' s_par ?_ | refine' s_gcons ?_ | refine' s_gnil ?_ | refine' s_iList ?_ | refine' s_iEnum ?_
      | (refine' q_mod ?hm ?_; (case hm => first | omega | decide)) | (refine' q_fdiv ?hm ?hn ?_; (case hm => first | omega | decide); (case hn => first | omega | decide))
      | (refine' q_mulR ?hm ?_; (case hm => first | omega | decide)) | (refine' q_mulL ?hm ?_; (case hm => first | omega | decide))
    | dsimp only
  k_with "r_B16" => repeat (k_extra "s_B16")
  trivial
/-! ### worlds -/
def PlAt (H : Hp) (x : V) (q : Str × Str) : Prop := ∃ a, x = .ref a ∧ H a = some (.tup [.str q.1, .str q.2])
inductive Pls (H : Hp) : List V → List (Str × Str) → Prop where
  | nil : Pls H [] []
  | cons {x : V} {q : Str × Str} {xs : List V} {ps : List (Str × Str)} : PlAt H x q → Pls H xs ps → Pls H (x :: xs) (q :: ps)
theorem PlAt.mono {H H' : Hp} {x : V} {q : Str × Str} (S : Same H H') : PlAt H x q → PlAt H' x q := fun ⟨a, e, h⟩ => ⟨a, e, S _ _ h⟩
theorem PlAt.but {H H' : Hp} {x : V} {q : Str × Str} {l : Addr} {zs : List V} (hl : H l = some (.lst zs)) (B : But l H H') : PlAt H x q → PlAt H' x q :=
  fun ⟨a, e, h⟩ => ⟨a, e, B _ _ (fun z => by rw [z, hl] at h; cases h) h⟩
theorem Pls.mono {H H' : Hp} {xs : List V} {ps : List (Str × Str)} (S : Same H H') (h : Pls H xs ps) : Pls H' xs ps := by
  induction h with
  | nil => exact .nil
  | cons h _ ih => exact .cons (h.mono S) ih
theorem Pls.but {H H' : Hp} {xs : List V} {ps : List (Str × Str)} {l : Addr} {zs : List V} (hl : H l = some (.lst zs)) (B : But l H H') (h : Pls H xs ps) : Pls H' xs ps := by
  induction h with
  | nil => exact .nil
  | cons h _ ih => exact .cons (h.but hl B) ih
theorem Pls.snoc {H : Hp} {xs : List V} {ps : List (Str × Str)} {x : V} {q : Str × Str} (h : Pls H xs ps) (hx : PlAt H x q) : Pls H (xs ++ [x]) (ps ++ [q]) := by
  induction h with
  | nil => exact .cons hx .nil
  | cons h _ ih => exact .cons h ih
theorem Pls.len {H : Hp} {xs : List V} {ps : List (Str × Str)} (h : Pls H xs ps) : xs.length = ps.length := by
  induction h with
  | nil => rfl
  | cons _ _ ih => simp [ih]
def worldOf (fs ns : List Str) : List (Str × Str) := fs.flatMap fun f => ns.map fun n => (f, n)
theorem worldOf_len : ∀ fs ns : List Str, (worldOf fs ns).length = fs.length * ns.length
  | [], ns => by simp [worldOf]
  | f :: fs, ns => by
    have := worldOf_len fs ns
    unfold worldOf at this ⊢
    rw [List.flatMap_cons, List.length_append, List.length_map, this, List.length_cons, Nat.succ_mul, Nat.add_comm]
theorem worldOf_snoc (fs ns : List Str) (f : Str) : worldOf (fs ++ [f]) ns = worldOf fs ns ++ ns.map fun n => (f, n) := by
  unfold worldOf
  rw [List.flatMap_append]
  simp
def NmL (zs : List Str) : Prop := (∀ z ∈ zs, Nm z) ∧ zs.Nodup ∧ zs ≠ []
structure TxtB (K : PySem.W.Frag) (mg : Str → Option Value) : Prop where
  d__law_world : Df K mg "_law_world" s__law_world ["_law_purse_here"]
section
variable {P : Program} {w : World} {K : PySem.W.Frag} {mg : Str → Option Value} {base : Heap}
def spWorld : Sp := fun vs H Q _ => ∃ p, vs = [.ref p] ∧ Purse H p ∧ ∀ l H' xs fs ns, H l = none → H' l = some (.lst xs) → Pls H' xs (worldOf fs ns) → NmL fs → NmL ns → fs.length ≤ 3 → ns.length ≤ 6 → Purse H' p → But p H H' → Q (.ref l) H'
theorem ok__law_world (L : TxtL K mg) (N : TxtN K mg) (B : TxtB K mg) : Cal P w K mg base 4 "_law_world" spWorld := by
  refine B.d__law_world.cal sc__law_world (fun vs H Q E h => ?_) (fun f cdv A outer s H vs Q E hr h => ?_)
  · obtain ⟨p, rfl, _⟩ := h
    rfl
  · obtain ⟨p, rfl, hp, k⟩ := h
    refine ⟨_, (pss_cons (ps_set (i := 1) sc__law_world.nd rfl (.inl rfl) (pe_c (ok__law_names L N) hr (by decide) rfl (pa_cons (pv 0) (pa_cons (pe_op op_addU pe_int (pe_c (ok__law_draw L) hr (by decide) rfl (pa_cons (pv 0) (pa_cons pe_int pa_nil)))) pa_nil))))
      (pss_cons (ps_set (i := 2) sc__law_world.nd rfl (.inl rfl) (pe_c (ok__law_names L N) hr (by decide) rfl (pa_cons (pv 0) (pa_cons (pe_op op_addU pe_int (pe_c (ok__law_draw L) hr (by decide) rfl (pa_cons (pv 0) (pa_cons pe_int pa_nil)))) pa_nil))))
      (pss_cons (ps_set (i := 3) sc__law_world.nd rfl (.inl rfl) (pe_lst pa_nil))
      (pss_cons (ps_for PassesOwn.never rfl (pi_list (pv 1)) (pg_name (i := 4) sc__law_world.nd rfl (.inl rfl))
        (pss_one (ps_for PassesOwn.never rfl (pi_list (pv 2)) (pg_name (i := 5) sc__law_world.nd rfl (.inl rfl))
            (pss_one (ps_expr (pe_bm PySem.F.plainAttrs_list PySem.F.slot_list_append PySem.F.type_list_append mt_append (pv 3) (pa_cons (pe_tup (pa_cons (pv 4) (pa_cons (pv 5) pa_nil))) pa_nil)))))))
      (pss_one (ps_ret (pv 3))))))), ?_⟩
    k_extra "r_B16"
    refine ⟨p, 3, rfl, hp, by decide, by decide, fun m1 H1 m10 m11 p1 b1 => ?_⟩
    k_extra "r_B16"
    obtain ⟨m1, rfl⟩ := Int.eq_ofNat_of_zero_le m10
    refine ⟨p, 1 + m1, (by push_cast; rfl), p1, by omega, fun lf H2 fs nf hf zf df hfl hfe p2 b2 => ?_⟩
    k_extra "r_B16"
    refine ⟨p, 6, rfl, p2, by decide, by decide, fun m2 H3 m20 m21 p3 b3 => ?_⟩
    k_extra "r_B16"
    obtain ⟨m2, rfl⟩ := Int.eq_ofNat_of_zero_le m20
    refine ⟨p, 1 + m2, (by push_cast; rfl), p3, by omega, fun ln H4 ns nn hn zn dn hnl hne p4 b4 => ?_⟩
    k_extra "r_B16"
    refine q_newL (by show 0 ≤ sizeLine; decide) fun lp H5 n5 S5 h5 => ?_
    k_extra "r_B16"
    have hlfp : lf ≠ p := by
      obtain ⟨_, _, _, e, _⟩ := p1
      exact fun z => by rw [z, e] at nf; cases nf
    have hlnp : ln ≠ p := by
      obtain ⟨_, _, _, e, _⟩ := p3
      exact fun z => by rw [z, e] at nn; cases nn
    have hlpp : lp ≠ p := by
      obtain ⟨_, _, _, e, _⟩ := p4
      exact fun z => by rw [z, e] at n5; cases n5
    have B4 : But p H H4 := b1.trans (b2.trans (b3.trans b4))
    have nH : H lp = none := B4.free hlpp n5
    have hf4 : H4 lf = some (.lst (fs.map V.str)) := b4 _ _ hlfp (b3 _ _ hlfp hf)
    have hpf : lf ≠ lp := fun z => by rw [z, n5] at hf4; cases hf4
    have hpn : ln ≠ lp := fun z => by rw [z, n5] at hn; cases hn
    have sz1 : ∀ i, (worldOf (fs.take i) ns).length ≤ 18 := fun i => by
      rw [worldOf_len, List.length_take]
      have a1 : min i fs.length ≤ 3 := by omega
      have a2 : ns.length ≤ 6 := by omega
      exact Nat.le_trans (Nat.mul_le_mul a1 a2) (by decide)
    refine ⟨lf, rfl, ⟨_, SqL.of (S5 _ _ hf4)⟩, q_forL (K := K) (a := lf) (xs := fs.map V.str) (fun i σ H' => ∃ v u xs, σ = [some (.ref p), some (.ref lf), some (.ref ln), some (.ref lp), v, u] ∧ H' lp = some (.lst xs) ∧ Pls H' xs (worldOf (fs.take i) ns) ∧ H' lf = some (.lst (fs.map V.str)) ∧ H' ln = some (.lst (ns.map V.str)) ∧ Purse H' p ∧ But p H H')
      ⟨none, none, [], rfl, h5, .nil, S5 _ _ hf4, S5 _ _ hn, p4.mono S5, B4.trans (But.of S5)⟩ (fun i σ H' _ ⟨_, _, _, _, _, _, h, _⟩ => SqL.of h) ?_ ?_⟩
    · rintro i x σ H6 hx ⟨v, u, xs, rfl, h6, P6, f6, n6, p6, B6⟩
      rw [List.getElem?_map] at hx
      obtain ⟨f1, ef, rfl⟩ := Option.map_eq_some_iff.mp hx
      k_extra "r_B16"
      refine ⟨ln, rfl, ⟨_, SqL.of n6⟩, q_forL (K := K) (a := ln) (xs := ns.map V.str) (fun j σ H' => ∃ u xs, σ = [some (.ref p), some (.ref lf), some (.ref ln), some (.ref lp), some (.str f1), u] ∧ H' lp = some (.lst xs) ∧ Pls H' xs (worldOf (fs.take i) ns ++ (ns.take j).map fun n => (f1, n)) ∧ H' lf = some (.lst (fs.map V.str)) ∧ H' ln = some (.lst (ns.map V.str)) ∧ Purse H' p ∧ But p H H')
        ⟨u, xs, rfl, h6, (by rw [List.take_zero, List.map_nil, List.append_nil]; exact P6), f6, n6, p6, B6⟩ (fun i σ H' _ ⟨_, _, _, _, _, _, h, _⟩ => SqL.of h) ?_ ?_⟩
      · rintro j y σ H7 hy ⟨u, xs, rfl, h7, P7, f7, n7, p7, B7⟩
        rw [List.getElem?_map] at hy
        obtain ⟨n1, en, rfl⟩ := Option.map_eq_some_iff.mp hy
        k_extra "r_B16"
        refine ⟨.inl ⟨rfl, _, SqL.of h7⟩, ?_⟩
        k_extra "r_B16"
        refine q_newT (by show 2 ≤ sizeLine; decide) fun t H8 n8 S8 h8 => ?_
        k_extra "r_B16"
        refine q_append (S8 _ _ h7) ?_ fun H9 b9 h9 => ?_
        · rw [P7.len, List.length_append, List.length_map, List.length_take]
          have := sz1 i
          exact szlt (by omega)
        k_extra "r_B16"
        have tl : t ≠ lp := fun z => by rw [z, h7] at n8; cases n8
        refine ⟨_, _, rfl, h9, ?_, b9 _ _ hpf (S8 _ _ f7), b9 _ _ hpn (S8 _ _ n7), ?_, ?_⟩
        · rw [take_map_more en, ← List.append_assoc]
          exact ((P7.mono S8).but (S8 _ _ h7) b9).snoc ⟨t, rfl, b9 _ _ tl h8⟩
        · obtain ⟨a, b, c, e, h⟩ := p7
          exact ⟨a, b, c, b9 _ _ hlpp.symm (S8 _ _ e), h⟩
        · exact fun b o hb e => b9 b o (fun z => by rw [z] at e; rw [e] at nH; cases nH) (S8 _ _ (B7 b o hb e))
      · rintro σ H7 ⟨u, xs, rfl, h7, P7, f7, n7, p7, B7⟩
        k_extra "r_B16"
        rw [List.length_map, List.take_length] at P7
        refine ⟨_, _, _, rfl, h7, ?_, f7, n7, p7, B7⟩
        rw [List.take_add_one, ef]
        exact (worldOf_snoc (fs.take i) ns f1) ▸ P7
    · rintro σ H6 ⟨v, u, xs, rfl, h6, P6, f6, n6, p6, B6⟩
      k_extra "r_B16"
      rw [List.length_map, List.take_length] at P6
      exact k lp H6 xs fs ns nH h6 P6 ⟨zf, df, hfe (by omega)⟩ ⟨zn, dn, hne (by omega)⟩ (by omega) (by omega) p6 B6
end
end Bt
namespace Bt
open PySem PySem.Spec PyProof.Rows L2
open PySem.W (dataLe alike AllAlike Sortable EachIs)
/-! ### sorted(xs) of data that are alike, any length -/
/-- the items beside what they read as -/
abbrev Prs : Type := List (V × PyData)
abbrev prLe : V × PyData → V × PyData → Bool := dataLe false (fun z : V × PyData => z.2)
def rSortD (K : PySem.W.Frag) : List V → Hp → VK → Prop := fun vs H Q => ∃ (a : Addr) (zs : Prs), vs = [V.ref a] ∧ SqL K H a (zs.map (·.1)) ∧ (∀ z ∈ zs, Dp K H z.1 z.2 ∧ z.2.depth ≤ 60) ∧ AllAlike (zs.map (·.2)) ∧ Sortable (zs.map (·.2)) ∧
  ∀ p, H p = none → Q (.ref p) (upd H p (.lst ((zs.mergeSort prLe).map (·.1))))
theorem each_vals : ∀ {zs : Prs} {us : List Value}, Vals (zs.map (·.1)) us → EachIs (fun u z => RelV z.1 u) us zs
  | [], us, h => by
    cases h
    exact .nil
  | z :: zs, us, h => by
    cases h with
    | cons h r => exact .cons h (each_vals r)
theorem vals_each : ∀ {zs : Prs} {us : List Value}, EachIs (fun u z => RelV z.1 u) us zs → Vals (zs.map (·.1)) us
  | [], _, h => by
    cases h
    exact .nil
  | z :: zs, _, h => by
    cases h with
    | cons h r => exact .cons h (vals_each r)
theorem each_reads {X : Cx} {pins : List (Addr × Obj)} {σ : L2.St} {H : Hp} {s : Shared} (I : Inv X pins σ H s) : ∀ {zs : Prs} {us : List Value}, Vals (zs.map (·.1)) us → (∀ z ∈ zs, Dp X.K H z.1 z.2) → EachIs (fun u z => ∃ as, Reads s.heap u z.2 as) us zs
  | [], us, h, _ => by
    cases h
    exact .nil
  | z :: zs, us, h, d => by
    cases h with
    | cons h r => exact .cons (Dp.reads I z.2 z.1 _ (d z List.mem_cons_self) h) (each_reads I r fun y hy => d y (List.mem_cons_of_mem _ hy))
theorem cr_sortD {X : Cx} (hu : X.A.units + 64 < cLine) : CallR X (.builtin "sorted") (rSortD X.K) := by
  intro pins s σ H vs us Q I r h
  obtain ⟨a, zs, rfl, hs, hd, al, sk, q⟩ := h
  obtain ⟨its, rv, hl, hz⟩ := I.list hs
  rw [Vals.ref1 r]
  rw [List.length_map] at hz
  refine PySem.W.sorted_data (enc := fun z : V × PyData => z.2) hl.isList (each_vals rv) (each_reads I rv fun z hz => (hd z hz).1) al sk hz (fun b hb => by have := (hd b hb).2; omega) fun out h1 h2 => ?_
  obtain ⟨ep, he'⟩ := PyProof.Rows.sortedAll_at s.heap its (List.toArray out)
  have hlen : ((zs.mergeSort prLe).map (·.1)).length ≤ sizeLine := by rw [List.length_map, List.length_mergeSort]; exact hz
  exact ⟨.ref _, upd H (s.heap.objs.size + 1) (.lst ((zs.mergeSort prLe).map (·.1))), I.laid (t' := s.toks) (fun _ _ => PyProof.Rows.sortedAll_old) (Nat.le_succ _) ⟨hlen, out, ep, vals_each h2, he'⟩, rfl, q _ (I.hok.fresh (Nat.le_succ _))⟩
theorem q_sortD {K : PySem.W.Frag} {H : Hp} {Q : VK} {a : Addr} (zs : Prs) (h : SqL K H a (zs.map (·.1))) (hd : ∀ z ∈ zs, Dp K H z.1 z.2 ∧ z.2.depth ≤ 60) (al : AllAlike (zs.map (·.2))) (sk : Sortable (zs.map (·.2)))
    (q : ∀ p H', H p = none → Same H H' → H' p = some (.lst ((zs.mergeSort prLe).map (·.1))) → Q (.ref p) H') : rSortD K [.ref a] H Q := ⟨a, zs, rfl, h, hd, al, sk, fun p n => q p _ n (Same.new n) upd_same⟩
end Bt
namespace Bt
open PySem PySem.Spec PyProof.Rows L2 LamX NdefX
open PySem.W (dataLt dataLe alike AllAlike Sortable)
theorem words90_ : True := by
  k_with "s_Q16" => first
    | ((with_reducible refine' s_var ?hv ?_); (case hv => exact rfl))
    | with_reducible first
      | refine' s_c ?_ | refine' s_op ?_ | refine' s_asg ?_ | refine' s_gname ?_ | refine' s_seq ?_ | refine' s_next ?_ | refine' s_ret ?_ | refine' s_ifS ?_ | refine' s_drop ?_ | refine' s_retN ?_ | refine' s_test ?_ | refine' s_B ?_ | refine' q_test ?_ | refine' s_int ?_ | refine' s_cons ?_ | refine' s_nil ?_ | refine' s_call ?_ | refine' s_CB ?_ | refine' s_andT ?_ | refine' s_orT ?_ | refine' s_notT ?_ | refine' s_andV ?_ | refine' s_orV ?_ | refine' s_notV ?_ | refine' s_ifV ?_ | refine' s_chain ?_ | refine' s_sl ?_ | refine' s_noPart ?_ | refine' s_part ?_ | refine' s_gsub ?_ | refine' s_BM ?_ | refine' s_tup ?_ | refine' s_lst ?_ | refine' q_add ?_ | refine' q_sub ?_ | refine' q_lt ?_ | refine' q_le ?_ | refine' q_gt ?_ | refine' q_ge ?_ | refine' s_ifT ?_ | refine' s_ifF ?_ | refine' s_yes ?_ | refine' s_iStr ?_ | refine' s_M0 ?_ | refine' s_for ?_ | refine' s_rng1 ?_ | refine' s_par ?_ | refine' s_gcons ?_ | refine' s_gnil ?_ | refine' s_iList ?_ | refine' s_iEnum ?_ | refine' s_raise1 ?_
      | (refine' q_mod ?hm ?_; (case hm => first | omega | decide))
    | dsimp only
  k_with "r_Q16" => repeat (k_extra "s_Q16")
  trivial
/-! ### places as data, in order -/
abbrev keyOf (q : Str × Str) : List Key := [.inr q.1, .inr q.2]
def dPl (q : Str × Str) : PyData := .tuple [.str q.1, .str q.2]
theorem eqv_str (a b : Str) : PyData.eqv (.str a) (.str b) = decide (a = b) := by
  simp only [PyData.eqv]
  by_cases h : a = b <;> simp [h]
theorem eqv_pl (p q : Str × Str) : PyData.eqv (dPl p) (dPl q) = decide (p = q) := by
  obtain ⟨p1, p2⟩ := p
  obtain ⟨q1, q2⟩ := q
  unfold dPl
  simp only [PyData.eqv, PyData.eqvAll, Prod.mk.injEq, Bool.and_true]
  rw [Bool.decide_and]
  congr 1 <;> · by_cases h : _ = _ <;> simp_all
theorem sh_pl {q : Str × Str} (h1 : Nm q.1) (h2 : Nm q.2) : SeqAt.shaped (dPl q) = true := by
  unfold SeqAt.shaped
  simp [dPl, PyData.canLay0, PyData.canLayAll0, PyData.depth, PyData.depthAll, h1.asc.ok, h2.asc.ok]
theorem dp_pl {K : PySem.W.Frag} {H : Hp} {a : Addr} {q : Str × Str} (h : H a = some (.tup [.str q.1, .str q.2])) : Dp K H (.ref a) (dPl q) := .tup (SqT.of h) (.cons (.str _) (.cons (.str _) .nil))
theorem cutV_take {xs : List V} (k : Nat) : cutV xs none (some (k : Int)) = xs.take k := by
  unfold cutV
  rw [HT.sIx_nat, HT.sIx_none, List.drop_zero, Nat.sub_zero]
  rcases Nat.lt_or_ge xs.length k with h | h
  · rw [Nat.min_eq_right (by omega), List.take_of_length_le (Nat.le_refl _), List.take_of_length_le (by omega)]
  · rw [Nat.min_eq_left h]
theorem cutV_drop {xs : List V} (k : Nat) : cutV xs (some (k : Int)) none = xs.drop k := by
  unfold cutV
  rw [HT.sIx_nat, HT.sIx_none]
  rcases Nat.lt_or_ge xs.length k with h | h
  · rw [Nat.min_eq_right (by omega), List.drop_eq_nil_of_le (Nat.le_refl _), List.drop_eq_nil_of_le (by omega), List.take_nil]
  · rw [Nat.min_eq_left h, List.take_of_length_le (by rw [List.length_drop]; omega)]
theorem pss_deadA {X : Cx} {b : List Stmt} : PSs X b (fun _ _ _ => False) := ⟨fun _ _ _ _ _ _ h => h.elim⟩
def pLe (p q : Str × Str) : Bool := dataLe false dPl p q
theorem dl_total {β : Type} (k : β → PyData) (a b : β) : dataLe false k a b = true ∨ dataLe false k b a = true := (PySem.W.sortLe_total _ false _).total a b
theorem dl_pw {β : Type} (k : β → PyData) (l : List β) : (l.mergeSort (dataLe false k)).Pairwise fun a b => dataLe false k a b = true :=
  List.pairwise_mergeSort (fun a b c h1 h2 => (PySem.W.sortLe_total _ false _).trans a b c h1 h2) (fun a b => Bool.or_eq_true_iff.mpr ((PySem.W.sortLe_total _ false _).total a b)) l
theorem dl_lt {β : Type} (k : β → PyData) (a b : β) : dataLe false k a b = !dataLt (k b) (k a) := rfl
theorem lt_str (x y : Str) : (!dataLt (.str y) (.str x)) = decide (x.cps.toList ≤ y.cps.toList) := congrFun (congrFun (PySem.W.dataLe_str (fun z : Str => z)) x) y
theorem str_ext {x y : Str} (h : x.cps.toList = y.cps.toList) : x = y := by
  cases x with
  | mk a => cases y with
    | mk b => congr 1; exact Array.toList_inj.mp h
theorem eqv_strb (a b : Str) : PyData.eqv (.str a) (.str b) = decide (a = b) := eqv_str a b
theorem pLe_antisymm {p q : Str × Str} (h1 : pLe p q = true) (h2 : pLe q p = true) : p = q := by
  obtain ⟨p1, p2⟩ := p
  obtain ⟨q1, q2⟩ := q
  unfold pLe at h1 h2
  rw [dl_lt] at h1 h2
  unfold dPl at h1 h2
  rw [PySem.W.dataLt_pair (by simp [alike]) (by simp [alike]), eqv_strb, eqv_strb] at h1 h2
  by_cases e1 : p1 = q1
  · by_cases e2 : p2 = q2
    · rw [e1, e2]
    · exfalso
      simp only [e1, decide_true, if_true, e2, Ne.symm e2, decide_false, Bool.false_eq_true, if_false] at h1 h2
      have a1 := of_decide_eq_true ((lt_str p2 q2).symm.trans h1)
      have a2 := of_decide_eq_true ((lt_str q2 p2).symm.trans h2)
      exact e2 (str_ext (List.le_antisymm a1 a2))
  · exfalso
    simp only [e1, Ne.symm e1, decide_false, Bool.false_eq_true, if_false] at h1 h2
    have a1 := of_decide_eq_true ((lt_str p1 q1).symm.trans h1)
    have a2 := of_decide_eq_true ((lt_str q1 p1).symm.trans h2)
    exact e1 (str_ext (List.le_antisymm a1 a2))
theorem Pls.pairs {H : Hp} {xs : List V} {ps : List (Str × Str)} (h : Pls H xs ps) : ∃ zs : List (V × (Str × Str)), zs.map (·.1) = xs ∧ zs.map (·.2) = ps ∧ ∀ z ∈ zs, PlAt H z.1 z.2 := by
  induction h with
  | nil => exact ⟨[], rfl, rfl, fun _ h => absurd h List.not_mem_nil⟩
  | cons h _ ih =>
    obtain ⟨zs, rfl, rfl, k⟩ := ih
    exact ⟨(_, _) :: zs, rfl, rfl, fun z m => by
      rcases List.mem_cons.mp m with rfl | m
      · exact h
      · exact k z m⟩
theorem Pls.of {H : Hp} : ∀ {zs : List (V × (Str × Str))}, (∀ z ∈ zs, PlAt H z.1 z.2) → Pls H (zs.map (·.1)) (zs.map (·.2))
  | [], _ => .nil
  | z :: zs, h => .cons (h z List.mem_cons_self) (Pls.of fun y m => h y (List.mem_cons_of_mem _ m))
theorem PlAt.dp {K : PySem.W.Frag} {H : Hp} {x : V} {q : Str × Str} : PlAt H x q → Dp K H x (dPl q) := fun ⟨a, e, h⟩ => by
  subst e
  exact dp_pl h
theorem q_sortP {K : PySem.W.Frag} {H : Hp} {Q : VK} {a : Addr} {xs : List V} {ps : List (Str × Str)} (h : SqL K H a xs) (hp : Pls H xs ps)
    (q : ∀ p H' ys, H p = none → Same H H' → H' p = some (.lst ys) → Pls H' ys (ps.mergeSort pLe) → Q (.ref p) H') : rSortD K [.ref a] H Q := by
  obtain ⟨zs, rfl, rfl, k⟩ := hp.pairs
  refine q_sortD (zs.map fun z => (z.1, dPl z.2)) (by rw [List.map_map]; exact h) (fun z hz => ?_) ?_ ?_ fun p H' np S hp' => ?_
  · obtain ⟨y, my, rfl⟩ := List.mem_map.mp hz
    exact ⟨(k y my).dp, by simp [dPl, PyData.depth, PyData.depthAll]⟩
  · rw [List.map_map]
    exact AllAlike.of fun b b' => by simp [dPl, alike, PySem.W.alikeAll]
  · rw [List.map_map]
    exact Sortable.tuples fun b => ⟨_, _, rfl⟩
  · have m1 : (zs.map fun z => (z.1, dPl z.2)).mergeSort prLe = (zs.mergeSort (dataLe false fun z : V × (Str × Str) => dPl z.2)).map fun z => (z.1, dPl z.2) :=
      (List.map_mergeSort (f := fun z : V × (Str × Str) => ((z.1, dPl z.2) : V × PyData)) (r := dataLe false fun z : V × (Str × Str) => dPl z.2) (s := prLe) fun _ _ _ _ => rfl).symm
    have m2 : (zs.mergeSort (dataLe false fun z : V × (Str × Str) => dPl z.2)).map (·.2) = (zs.map (·.2)).mergeSort pLe :=
      List.map_mergeSort (f := fun z : V × (Str × Str) => z.2) (r := dataLe false fun z : V × (Str × Str) => dPl z.2) (s := pLe) fun _ _ _ _ => rfl
    rw [m1, List.map_map] at hp'
    refine q p H' _ np S hp' ?_
    rw [← m2]
    exact Pls.of fun z mz => (k z (List.mem_mergeSort.mp mz)).mono S
theorem canLay_pls : ∀ {ps : List (Str × Str)}, (∀ q ∈ ps, Nm q.1 ∧ Nm q.2) → PyData.canLayAll0 (ps.map dPl) = true
  | [], _ => by simp [PyData.canLayAll0]
  | q :: ps, h => by
    have z1 : PyData.strOk q.1 = true := (h q List.mem_cons_self).1.asc.ok
    have z2 : PyData.strOk q.2 = true := (h q List.mem_cons_self).2.asc.ok
    simp only [List.map_cons, PyData.canLayAll0, canLay_pls fun z hz => h z (List.mem_cons_of_mem _ hz), Bool.and_true, dPl, PyData.canLay0, z1, z2]
theorem depth_pls : ∀ (ps : List (Str × Str)), PyData.depthAll (ps.map dPl) ≤ 5
  | [] => by simp [PyData.depthAll]
  | q :: ps => by
    have := depth_pls ps
    simp only [List.map_cons, PyData.depthAll, dPl, PyData.depth]
    omega
def dPs (ps : List (Str × Str)) : PyData := .list (ps.map dPl)
theorem sh_pls {ps : List (Str × Str)} (h : ∀ q ∈ ps, Nm q.1 ∧ Nm q.2) : SeqAt.shaped (dPs ps) = true := by
  unfold SeqAt.shaped dPs
  rw [Bool.and_eq_true, decide_eq_true_eq]
  have := depth_pls ps
  refine ⟨by simp only [PyData.canLay0]; exact canLay_pls h, ?_⟩
  simp only [PyData.depth]
  omega
theorem Pls.dps {K : PySem.W.Frag} {H : Hp} {xs : List V} {ps : List (Str × Str)} (h : Pls H xs ps) : DpAll K H xs (ps.map dPl) := by
  induction h with
  | nil => exact .nil
  | cons h _ ih => exact .cons h.dp ih
theorem keyOf_inj {p q : Str × Str} (h : keyOf p = keyOf q) : p = q := by
  injection h with h1 h2
  injection h2 with h2 _
  injection h1 with h1
  injection h2 with h2
  exact Prod.ext h1 h2
theorem Pls.get {H : Hp} {xs : List V} {ps : List (Str × Str)} (h : Pls H xs ps) : ∀ {i : Nat} {x : V}, xs[i]? = some x → ∃ q, q ∈ ps ∧ PlAt H x q := by
  induction h with
  | nil => intro i x e; simp at e
  | cons h _ ih =>
    intro i x e
    cases i with
    | zero => cases Option.some.inj e; exact ⟨_, List.mem_cons_self, h⟩
    | succ i =>
      obtain ⟨q, m, p⟩ := ih (i := i) (by simpa using e)
      exact ⟨q, List.mem_cons_of_mem _ m, p⟩
theorem SqL_but {K : PySem.W.Frag} {H H' : Hp} {a p : Addr} {xs : List V} (n : a ≠ p) (B : But p H H') (h : SqL K H a xs) : SqL K H' a xs := by
  rcases h with (h | ⟨o, h⟩) | h
  · exact .inl (.inl (B _ _ n h))
  · exact .inl (.inr ⟨o, B _ _ n h⟩)
  · exact .inr h
def Sc1 (K : PySem.W.Frag) (H : Hp) (p a : Addr) (xs : List V) : Prop := (a ≠ p ∧ SqL K H a xs) ∨ ∀ H', SqL K H' a xs
theorem Sc1.of {K : PySem.W.Frag} {H H' : Hp} {p a : Addr} {xs : List V} (h : SqL K H a xs) (n : H p = none) (S : Same H H') : Sc1 K H' p a xs := by
  rcases h with (h | ⟨o, h⟩) | h
  · exact .inl ⟨ne_of_none h n, .inl (.inl (S _ _ h))⟩
  · exact .inl ⟨ne_of_none h n, .inl (.inr ⟨o, S _ _ h⟩)⟩
  · exact .inr fun _ => .inr h
theorem Sc1.sq {K : PySem.W.Frag} {H : Hp} {p a : Addr} {xs : List V} (h : Sc1 K H p a xs) : SqL K H a xs := h.elim (fun z => z.2) fun z => z H
theorem Sc1.mono {K : PySem.W.Frag} {H H' : Hp} {p a : Addr} {xs : List V} (S : Same H H') (h : Sc1 K H p a xs) : Sc1 K H' p a xs := h.imp (fun z => ⟨z.1, SqL_monoN (ext_same S) z.2⟩) id
theorem Sc1.but {K : PySem.W.Frag} {H H' : Hp} {p a : Addr} {xs : List V} (B : But p H H') (h : Sc1 K H p a xs) : Sc1 K H' p a xs := h.imp (fun z => ⟨z.1, SqL_but z.1 B z.2⟩) id
theorem Sc1.re {K : PySem.W.Frag} {H H' : Hp} {p a : Addr} {xs : List V} (h : Sc1 K H p a xs) (q : SqL K H' a xs) : Sc1 K H' p a xs := h.imp (fun z => ⟨z.1, q⟩) id
/-- all but lists are kept -/
def NL (H H' : Hp) : Prop := ∀ b o, H b = some o → (∀ xs, o ≠ .lst xs) → H' b = some o
theorem NL.but {H H' : Hp} {p : Addr} {xs : List V} (h : H p = some (.lst xs)) (B : But p H H') : NL H H' := fun b o e n => B b o (fun z => by rw [z, h] at e; exact n _ (Option.some.inj e).symm) e
theorem NL.pu {H H' : Hp} {p : Addr} (h : Purse H p) (B : But p H H') : NL H H' := let ⟨_, _, _, e, _⟩ := h; NL.but e B
theorem PlAt.nl {H H' : Hp} {x : V} {q : Str × Str} (N : NL H H') : PlAt H x q → PlAt H' x q := fun ⟨a, e, h⟩ => ⟨a, e, N _ _ h (fun _ z => by cases z)⟩
theorem Pls.nl {H H' : Hp} {xs : List V} {ps : List (Str × Str)} (N : NL H H') (h : Pls H xs ps) : Pls H' xs ps := by
  induction h with
  | nil => exact .nil
  | cons h _ ih => exact .cons (h.nl N) ih
theorem Pls.app {H : Hp} {xs ys : List V} {ps qs : List (Str × Str)} (h : Pls H xs ps) (g : Pls H ys qs) : Pls H (xs ++ ys) (ps ++ qs) := by
  induction h with
  | nil => exact g
  | cons h _ ih => exact .cons h ih
theorem perm_lift {α β : Type} {f : α → β} {ys xs : List β} (h : ys.Perm xs) : ∀ zs : List α, xs = zs.map f → ∃ zs' : List α, zs'.Perm zs ∧ zs'.map f = ys := by
  induction h with
  | nil => exact fun zs e => ⟨zs, .refl _, e.symm⟩
  | cons x _ ih =>
    intro zs e
    cases zs with
    | nil => cases e
    | cons z zs =>
      injection e with e1 e2
      obtain ⟨w, p, q⟩ := ih zs e2
      exact ⟨z :: w, p.cons z, by rw [List.map_cons, q, e1]⟩
  | swap x y l =>
    intro zs e
    match zs, e with
    | z1 :: z2 :: zs, e =>
      injection e with e1 e2
      injection e2 with e2 e3
      exact ⟨z2 :: z1 :: zs, .swap _ _ _, by rw [List.map_cons, List.map_cons, e1, e2, e3]⟩
  | trans _ _ ih1 ih2 =>
    intro zs e
    obtain ⟨w, p, q⟩ := ih2 zs e
    obtain ⟨w', p', q'⟩ := ih1 w q.symm
    exact ⟨w', p'.trans p, q'⟩
theorem worldOf_nodup : ∀ {fs ns : List Str}, fs.Nodup → ns.Nodup → (worldOf fs ns).Nodup
  | [], _, _, _ => .nil
  | f :: fs, ns, hf, hn => by
    have ih := worldOf_nodup (List.nodup_cons.mp hf).2 hn
    unfold worldOf at ih ⊢
    rw [List.flatMap_cons]
    refine List.nodup_append.mpr ⟨List.pairwise_map.mpr (hn.imp fun n e => n (Prod.mk.inj e).2), ih, fun a ha b hb e => ?_⟩
    obtain ⟨z, hz, rfl⟩ := List.mem_map.mp ha
    subst e
    obtain ⟨g, hg, hb⟩ := List.mem_flatMap.mp hb
    obtain ⟨y, hy, e⟩ := List.mem_map.mp hb
    exact (List.nodup_cons.mp hf).1 ((Prod.mk.inj e).1 ▸ hg)
theorem worldOf_mem {fs ns : List Str} {q : Str × Str} (h : q ∈ worldOf fs ns) : q.1 ∈ fs ∧ q.2 ∈ ns := by
  unfold worldOf at h
  obtain ⟨f, hf, hb⟩ := List.mem_flatMap.mp h
  obtain ⟨y, hy, rfl⟩ := List.mem_map.mp hb
  exact ⟨hf, hy⟩
/-! ### answers left out and turned -/
theorem nm_arg {K : PySem.W.Frag} {H : Hp} {z : Str} (h : Nm z) : NameArg K H (.str z) := ⟨"str", Pl.str, fun y e => by cases e; have := h.2.1; omega⟩
theorem room66 {k : Nat} {A : Around} (r : Room k A) : A.units + 1 + 65 < cLine := by have := r.un; omega
theorem s_fld {K : PySem.W.Frag} {ta : TE} {f : Str} {σ : L2.St} {H : Hp} {Q : VK} (h : ta σ H fun x H1 => ∃ a C dx fs v, x = .ref a ∧ H1 a = some (.ins C dx fs) ∧ Cls K C ∧ NoAttr K C f ∧ fs.lookup f = some v ∧ Q v H1) : tFld K ta f σ H Q := h
theorem s_sFld {K : PySem.W.Frag} {ta tv : TE} {f : Str} {D : Ends} {σ : L2.St} {H : Hp} (h : tv σ H fun y H1 => ta σ H1 fun x H2 => ∃ a C dx fs, x = .ref a ∧ H2 a = some (.ins C dx fs) ∧ Cls K C ∧ NoAttr K C f ∧ fs.length < 1000 ∧ D.nx σ (upd H2 a (.ins C dx (putF f y fs)))) : sFld K ta tv f D σ H := h
/-! ### answers in order -/
theorem q_cut8 {tu tz : TS} {D : Ends} {σ : L2.St} {H : Hp} {M : L2.St → Hp → Prop} (h : tu { D with nx := M } σ H) (k : ∀ σ' H', M σ' H' → tz D σ' H') : C8.tCut tu tz D σ H := ⟨M, h, k⟩
def rListOf (K : PySem.W.Frag) : List V → Hp → VK → Prop := fun xs H Q => ∃ p ys, xs = [.ref p] ∧ (SqL K H p ys ∨ SqT K H p ys) ∧ ∀ l, H l = none → Q (.ref l) (upd H l (.lst ys))
theorem call_listOf {X : Cx} : CallR X (.type "list") (rListOf X.K) := call_list_of
theorem q_listL {K : PySem.W.Frag} {H : Hp} {Q : VK} {p : Addr} {ys : List V} (h : SqL K H p ys) (q : ∀ l H', H l = none → Same H H' → H' l = some (.lst ys) → Q (.ref l) H') : rListOf K [.ref p] H Q := ⟨p, ys, rfl, .inl h, fun l n => q l _ n (Same.new n) upd_same⟩
theorem s_meth {C : Addr} {m : Str} {sp : Sp} {dvs : List V} {E : XK} {ta : TE} {t : TA} {σ : L2.St} {H : Hp} {Q : VK} (h : ta σ H fun x H1 => ∃ a dx fs, x = .ref a ∧ H1 a = some (.ins C dx fs) ∧ fs.lookup m = none ∧ t σ H1 fun vs H2 => sp (x :: (vs ++ dvs)) H2 Q E) : tMeth C m sp dvs E ta t σ H Q := h
theorem s_callSD {sp : Sp} {dvs : List V} {E : L2.St → XK} {t : TA} {σ : L2.St} {H : Hp} {Q : VK} (h : t σ H fun vs H1 => sp (vs ++ dvs) H1 Q (E σ)) : tCallSD sp dvs E t σ H Q := h
theorem lt1 {a c : Nat} (h : a + 64 < c) : a + 1 < c := by omega
/-! ### what an ask tells -/
theorem lt2 {a c : Nat} (h : a + 64 < c) : a + 2 < c := by omega
section
variable {X : Cx} {k j : Nat} {x : Str} {sp : Sp} {p pos : Pos} {e : Expr} {es : List Expr} {t : TA} {W : WX}
theorem pe_cxS (c : CalX X.prog X.w X.K X.mg X.base k x sp) (hr : Room j X.A) (hk : k ≤ j) (tk : Takes X W) (hg : Gl X x) (ha : PA X (e :: es) t)
    (hdb : (x == ("__debug__" : Str)) = false := by decide) (he : starEach (e :: es) X.env = (false, eval e X.env) :: starEach es X.env := by rfl) (hpl : (backTo pos (starEach es X.env)).any (·.1) = false := by rfl) :
    PE X (.Call (.Name x p) (e :: es) [] pos) (tCallSD sp [] (fun σ => WE W σ) t) := by
  obtain ⟨f, fd, ps, F, hm, kp, b⟩ := c.ex
  exact pe_callSD F (hr.mono hk) hg hm kp b .nil (fun σ => passAt tk σ) ha hdb he hpl
end

theorem s_din {ty td : TE} {σ : L2.St} {H : Hp} {Q : VK} (h : ty σ H fun y H1 => td σ H1 fun x H2 => ∃ a o, x = .ref a ∧ DGet H2 a y o ∧ Q (.bl o.isSome) H2) : tDIn ty td σ H Q := h
def rIsNot : R2 := fun x y H Q => y = .non ∧ Q (.bl (!decide (x = .non))) H
theorem op_isNotNon {X : Cx} : OpR X (compareOp .IsNot) rIsNot := op_notN
theorem q_isNotNon {H : Hp} {Q : VK} {x : V} (q : Q (.bl (!decide (x = .non))) H) : rIsNot x .non H Q := ⟨rfl, q⟩
def tDead : TE := fun _ _ _ => False
theorem pe_dead {X : Cx} {e : Expr} : PE X e tDead := ⟨fun _ _ _ _ _ _ h => h.elim⟩
def rIsN : R2 := fun x y H Q => y = .non ∧ Q (.bl (decide (x = .non))) H
theorem op_isNon {X : Cx} : OpR X (compareOp .Is) rIsN := op_isN
theorem q_isNon {H : Hp} {Q : VK} {x : V} (q : Q (.bl (decide (x = .non))) H) : rIsN x .non H Q := ⟨rfl, q⟩
end Bt
namespace Bt
open PySem PySem.Spec PyProof.Rows L2
/-! ### == of lists and of tuples whose items are the same objects, or data -/
mutual
inductive EqV (K : PySem.W.Frag) (H : Hp) : Nat → V → V → Bool → Prop where
  | same {n : Nat} (a : Addr) : EqV K H n (.ref a) (.ref a) true
  | data {n : Nat} {x y : V} {d e : PyData} : Dp K H x d → Dp K H y e → SeqAt.shaped d = true → SeqAt.shaped e = true → EqV K H n x y (PyData.eqv d e)
  | lst {n : Nat} {a b : Addr} {xs ys : List V} {bs : List Bool} : a ≠ b → SqL K H a xs → SqL K H b ys → EqVs K H n xs ys bs → EqV K H (n + 1) (.ref a) (.ref b) (bs.all id)
inductive EqVs (K : PySem.W.Frag) (H : Hp) : Nat → List V → List V → List Bool → Prop where
  | nil {n : Nat} : EqVs K H n [] [] []
  | cons {n : Nat} {x y : V} {b : Bool} {xs ys : List V} {bs : List Bool} : EqV K H n x y b → EqVs K H n xs ys bs → EqVs K H n (x :: xs) (y :: ys) (b :: bs)
end
theorem all_range (bs : List Bool) : ((List.range bs.length).all fun j => (bs[j]?).getD true) = bs.all id := by
  rw [Bool.eq_iff_iff, List.all_eq_true, List.all_eq_true]
  constructor
  · intro h b hb
    obtain ⟨j, hj, e⟩ := List.mem_iff_getElem.mp hb
    have := h j (List.mem_range.mpr hj)
    rw [List.getElem?_eq_getElem hj, e] at this
    exact this
  · intro h j hj
    have hj := List.mem_range.mp hj
    rw [List.getElem?_eq_getElem hj]
    exact h _ (List.getElem_mem hj)
section
variable {X : Cx} {pins : List (Addr × Obj)} {σ : L2.St} {H : Hp} {s : Shared}
mutual
theorem eqV_at (I : Inv X pins σ H s) : ∀ (n : Nat) (x y : V) (b : Bool), EqV X.K H n x y b → ∀ (A : Around), A.units + n + 64 < cLine → ∀ (u v : Value), RelV x u → RelV y v → SeqAt.EqAt A s u v b
  | _, _, _, _, .same a, A, hu, u, v, rx, ry => by
    obtain rfl : u = Value.ref a := rx
    obtain rfl : v = Value.ref a := ry
    exact SeqAt.EqAt.same _
  | _, _, _, _, .data hd he sd se, A, hu, u, v, rx, ry => by
    obtain ⟨as, r1⟩ := Dp.reads I _ _ u hd rx
    obtain ⟨bs, r2⟩ := Dp.reads I _ _ v he ry
    exact SeqAt.eqAt_reads _ _ A s u v as bs r1 r2 (SeqAt.canLay_of_shaped sd) (SeqAt.canLay_of_shaped se) (SeqAt.room_of_shaped sd (by omega))
  | _, _, _, _, @EqV.lst _ _ n a b xs ys bs ne h1 h2 h3, A, hu, u, v, rx, ry => by
    obtain rfl : u = Value.ref a := rx
    obtain rfl : v = Value.ref b := ry
    obtain ⟨us, r1, p1, _⟩ := I.list h1
    obtain ⟨vs, r2, p2, _⟩ := I.list h2
    have hi : A.in1.units + n + 64 < cLine := by show A.units + 1 + n + 64 < cLine; omega
    obtain ⟨l1, l2, k⟩ := eqVs_at I _ _ _ _ h3 _ hi _ _ r1 r2
    have e : bs.all id = (List.range us.toArray.size).all fun j => (bs[j]?).getD true := by rw [List.size_toArray, l1, all_range]
    rw [e]
    refine SeqAt.EqAt.of_refs ne (SeqAt.RcAt.lists (items := us.toArray) (items2 := vs.toArray) ?_ ?_ (by simp [l1, l2]) (by omega) (fun j j1 j2 => ?_))
    · obtain ⟨o, n, ho, hc, _, hd⟩ := p1
      exact ⟨o, ho, hc, n, hd⟩
    · obtain ⟨o, n, ho, hc, _, hd⟩ := p2
      exact ⟨o, ho, hc, n, hd⟩
    · simpa using k j (by simpa using j1) (by simpa using j2)
theorem eqVs_at (I : Inv X pins σ H s) : ∀ (n : Nat) (xs ys : List V) (bs : List Bool), EqVs X.K H n xs ys bs → ∀ (A : Around), A.units + n + 64 < cLine → ∀ (us vs : List Value), Vals xs us → Vals ys vs → us.length = bs.length ∧ vs.length = bs.length ∧
    ∀ j (h1 : j < us.length) (h2 : j < vs.length), SeqAt.EqAt A s us[j] vs[j] ((bs[j]?).getD true)
  | _, _, _, _, .nil, A, hu, us, vs, r1, r2 => by
    cases r1
    cases r2
    exact ⟨rfl, rfl, fun j h1 _ => absurd h1 (Nat.not_lt_zero _)⟩
  | _, _, _, _, .cons h hs, A, hu, us, vs, r1, r2 => by
    cases r1 with
    | cons ra r1 =>
      cases r2 with
      | cons rb r2 =>
        obtain ⟨l1, l2, k⟩ := eqVs_at I _ _ _ _ hs _ hu _ _ r1 r2
        refine ⟨by simp [l1], by simp [l2], fun j h1 h2 => ?_⟩
        cases j with
        | zero => exact eqV_at I _ _ _ _ h _ hu _ _ ra rb
        | succ j => simpa using k j (by simpa using h1) (by simpa using h2)
end
end
def rEqI (K : PySem.W.Frag) (n : Nat) : R2 := fun x y H Q => ∃ a b xs ys bs, x = .ref a ∧ y = .ref b ∧ ((SqL K H a xs ∧ SqL K H b ys) ∨ (SqT K H a xs ∧ SqT K H b ys)) ∧ EqVs K H n xs ys bs ∧ Q (.bl (bs.all id)) H
def rNeI (K : PySem.W.Frag) (n : Nat) : R2 := fun x y H Q => ∃ a b xs ys bs, x = .ref a ∧ y = .ref b ∧ ((SqL K H a xs ∧ SqL K H b ys) ∨ (SqT K H a xs ∧ SqT K H b ys)) ∧ EqVs K H n xs ys bs ∧ Q (.bl (!bs.all id)) H
theorem op_eqI {X : Cx} {n : Nat} (hu : X.A.units + n + 65 < cLine) : OpR X (compareOp .Eq) (rEqI X.K n) := by
  intro pins s σ H x y v u Q I rx ry h
  obtain ⟨a, b, xs, ys, bs, rfl, rfl, hs, he, q⟩ := h
  obtain rfl : v = Value.ref a := rx
  obtain rfl : u = Value.ref b := ry
  have hi : X.A.in1.units + n + 64 < cLine := by show X.A.units + 1 + n + 64 < cLine; omega
  rcases hs with ⟨h1, h2⟩ | ⟨h1, h2⟩
  · obtain ⟨us, r1, p1, _⟩ := I.list h1
    obtain ⟨vs, r2, p2, _⟩ := I.list h2
    obtain ⟨l1, l2, k⟩ := eqVs_at I _ _ _ _ he _ hi _ _ r1 r2
    refine SeqAt.eq_listAt (items := us.toArray) (items2 := vs.toArray) (e := fun j => (bs[j]?).getD true) ?_ ?_ (by simp [l1, l2]) (by omega) (fun j j1 j2 => ?_) ⟨.bl _, H, I, rfl, ?_⟩
    · obtain ⟨o, n, ho, hc, _, hd⟩ := p1
      exact ⟨o, ho, hc, n, hd⟩
    · obtain ⟨o, n, ho, hc, _, hd⟩ := p2
      exact ⟨o, ho, hc, n, hd⟩
    · simpa using k j (by simpa using j1) (by simpa using j2)
    · rw [List.size_toArray, l1, all_range]
      exact q
  · obtain ⟨us, r1, p1, _⟩ := I.tuple h1
    obtain ⟨vs, r2, p2, _⟩ := I.tuple h2
    obtain ⟨l1, l2, k⟩ := eqVs_at I _ _ _ _ he _ hi _ _ r1 r2
    refine SeqAt.eq_tupleAt (items := us.toArray) (items2 := vs.toArray) (e := fun j => (bs[j]?).getD true) ?_ ?_ (by omega) (fun j j1 j2 => ?_) ⟨.bl _, H, I, rfl, ?_⟩
    · obtain ⟨o, ho, hc, n, hd⟩ := p1
      exact ⟨o, ho, hc, n, hd⟩
    · obtain ⟨o, ho, hc, n, hd⟩ := p2
      exact ⟨o, ho, hc, n, hd⟩
    · simpa using k j (by simpa using j1) (by simpa using j2)
    · rw [List.size_toArray, List.size_toArray, l1, l2, Nat.min_self, all_range, beq_self_eq_true, Bool.and_true]
      exact q
theorem op_neI {X : Cx} {n : Nat} (hu : X.A.units + n + 65 < cLine) : OpR X (compareOp .NotEq) (rNeI X.K n) := by
  intro pins s σ H x y v u Q I rx ry h
  obtain ⟨a, b, xs, ys, bs, rfl, rfl, hs, he, q⟩ := h
  obtain rfl : v = Value.ref a := rx
  obtain rfl : u = Value.ref b := ry
  have hi : X.A.in1.units + n + 64 < cLine := by show X.A.units + 1 + n + 64 < cLine; omega
  show wpAny (model X.prog X.w) X.A (richCompare .NotEq (.ref a) (.ref b)) (EP X pins σ Q) X.xe s
  rcases hs with ⟨h1, h2⟩ | ⟨h1, h2⟩
  · obtain ⟨us, r1, p1, _⟩ := I.list h1
    obtain ⟨vs, r2, p2, _⟩ := I.list h2
    obtain ⟨l1, l2, k⟩ := eqVs_at I _ _ _ _ he _ hi _ _ r1 r2
    refine SeqAt.RcNeAt.lists (items := us.toArray) (items2 := vs.toArray) (e := fun j => (bs[j]?).getD true) ?_ ?_ (by simp [l1, l2]) (by omega) (fun j j1 j2 => ?_) X.prog X.w X.xe _ ⟨.bl _, H, I, rfl, ?_⟩
    · obtain ⟨o, n, ho, hc, _, hd⟩ := p1
      exact ⟨o, ho, hc, n, hd⟩
    · obtain ⟨o, n, ho, hc, _, hd⟩ := p2
      exact ⟨o, ho, hc, n, hd⟩
    · simpa using k j (by simpa using j1) (by simpa using j2)
    · rw [List.size_toArray, l1, all_range]
      exact q
  · obtain ⟨us, r1, p1, _⟩ := I.tuple h1
    obtain ⟨vs, r2, p2, _⟩ := I.tuple h2
    obtain ⟨l1, l2, k⟩ := eqVs_at I _ _ _ _ he _ hi _ _ r1 r2
    refine SeqAt.RcNeAt.tuples (items := us.toArray) (items2 := vs.toArray) (e := fun j => (bs[j]?).getD true) ?_ ?_ (by omega) (fun j j1 j2 => ?_) X.prog X.w X.xe _ ⟨.bl _, H, I, rfl, ?_⟩
    · obtain ⟨o, ho, hc, n, hd⟩ := p1
      exact ⟨o, ho, hc, n, hd⟩
    · obtain ⟨o, ho, hc, n, hd⟩ := p2
      exact ⟨o, ho, hc, n, hd⟩
    · simpa using k j (by simpa using j1) (by simpa using j2)
    · rw [List.size_toArray, List.size_toArray, l1, l2, Nat.min_self, all_range, beq_self_eq_true, Bool.and_true]
      exact q
end Bt
namespace Bt
open PySem PySem.Spec PyProof.Rows L2
/-! ### dicts whose keys are tuples of texts: dict(pairs) -/
def mergeT (kvs more : List (List Key × V)) : List (List Key × V) := more.foldl (fun acc kv => putK acc kv.1 kv.2) kvs
theorem mergeT_cons (kvs : List (List Key × V)) (p : List Key × V) (more : List (List Key × V)) : mergeT kvs (p :: more) = mergeT (putK kvs p.1 p.2) more := rfl
theorem mergeT_len : ∀ (more kvs : List (List Key × V)), (mergeT kvs more).length ≤ kvs.length + more.length
  | [], _ => Nat.le_refl _
  | p :: more, kvs => by
    have h1 := mergeT_len more (putK kvs p.1 p.2)
    have h2 := length_putK kvs p.1 p.2
    rw [mergeT_cons, List.length_cons]
    omega
theorem KT.merge {H : Hp} : ∀ {more : List (List Key × V)} {ps : List (List Key × Addr × Value)} {kvs : List (List Key × V)} {xs : List (List Key × Addr × Value)}, KT H more ps → KT H kvs xs → KT H (mergeT kvs more) (storedAllH xs ps)
  | [], _, _, _, .nil, r => r
  | p :: more, q :: ps, kvs, xs, .cons h t, r => by
    obtain ⟨h1, h2, h3⟩ := h
    have := KT.merge t (KT.put r p.1 h2 h3)
    rw [mergeT_cons]
    show KT H _ (storedAllH (storedH xs q.1 q.2.1 q.2.2) ps)
    rw [← h1]
    exact this
/-- the pairs of a list: where each stands, where its key stands, the key, the value -/
abbrev PE4 : Type := Addr × Addr × List Key × V
def rDictT (K : PySem.W.Frag) : List V → Hp → VK → Prop := fun xs H Q => ∃ (a : Addr) (es : List PE4), xs = [.ref a] ∧ SqL K H a (es.map fun e => V.ref e.1) ∧ (∀ e ∈ es, SqT K H e.1 [.ref e.2.1, e.2.2.2] ∧ H e.2.1 = some (.tup (e.2.2.1.map kV))) ∧
  ∀ p, H p = none → Q (.ref p) (upd H p (.dT (mergeT [] (es.map fun e => e.2.2))))
section
variable {X : Cx}
theorem pairs4 {pins : List (Addr × Obj)} {σ : L2.St} {H : Hp} {s : Shared} (I : Inv X pins σ H s) : ∀ {es : List PE4}, (∀ e ∈ es, SqT X.K H e.1 [.ref e.2.1, e.2.2.2] ∧ H e.2.1 = some (.tup (e.2.2.1.map kV))) →
    ∃ prs : List (List Key × Addr × Value), KT H (es.map fun e => e.2.2) prs ∧ prs.length = es.length ∧ ∀ (j : Nat) (q : List Key × Addr × Value), prs[j]? = some q → ∃ e, es[j]? = some e ∧ IsTup s.heap e.1 #[.ref q.2.1, q.2.2] ∧ H q.2.1 = some (.tup (q.1.map kV))
  | [], _ => ⟨[], .nil, rfl, fun j q e => by simp at e⟩
  | e :: es, h => by
    obtain ⟨prs, r, hl, hp⟩ := pairs4 I (es := es) fun x hx => h x (List.mem_cons_of_mem _ hx)
    obtain ⟨h1, h2⟩ := h e List.mem_cons_self
    obtain ⟨its, rv, ht, _⟩ := I.tuple h1
    obtain ⟨u, y, ei, ru, ry⟩ := vals2 rv
    subst ei
    cases ru
    refine ⟨(e.2.2.1, e.2.1, y) :: prs, .cons ⟨rfl, h2, ry⟩ r, by rw [List.length_cons, List.length_cons, hl], fun j q e' => ?_⟩
    cases j with
    | zero =>
      cases Option.some.inj e'
      exact ⟨e, rfl, ht, h2⟩
    | succ j =>
      obtain ⟨x, e1, e2⟩ := hp j q (by simpa using e')
      exact ⟨x, by simpa using e1, e2⟩
theorem call_dictT (hcalm : X.calm = true) (hu : X.A.units + 3 < cLine) : CallR X (.type "dict") (rDictT X.K) := by
  intro pins s σ H xs us Q I r q
  obtain ⟨a, es, rfl, hq, hp, q⟩ := q
  obtain ⟨u, rfl, rx⟩ := vals1 r
  cases rx
  obtain ⟨its, rv, pl, hz⟩ := I.list hq
  have ei : its = (es.map (·.1)).map Value.ref := refs_at (by rw [List.map_map]; exact rv)
  subst ei
  rw [List.length_map] at hz
  obtain ⟨prs, rel, hl, hpr⟩ := pairs4 I hp
  obtain ⟨o, n, ho, hc, hd, hdat⟩ := pl
  have key : ∀ {q : List Key × Addr × Value}, q ∈ prs → IsTupleKey (mixKind X.prog X.w) s.heap q.1 q.2.1 := fun {q} hq => by
    obtain ⟨j, hj⟩ := List.mem_iff_getElem?.mp hq
    obtain ⟨e, _, _, h3⟩ := hpr j q hj
    exact key_of I.hok h3
  have lp : (prs.map fun q => (Value.ref q.2.1, q.2.2)).length = es.length := by rw [List.length_map, hl]
  have Tj : ∀ {j : Nat} {e : PE4}, es[j]? = some e → (es.map (·.1)).getD j 0 = e.1 := fun {j e} h => by
    rw [List.getD_eq_getElem?_getD, List.getElem?_map, h]
    rfl
  refine PySem.call_dict_pairsH (knd := tupleKind (mixKind X.prog X.w)) (ps := prs) (PySem.PairArg.list a ((es.map (·.1)).map Value.ref).toArray (fun j => (es.map (·.1)).getD j 0) (prs.map fun q => (Value.ref q.2.1, q.2.2))) (I.ok.hd hcalm) ?_ ?_ ?_ ?_ ?_ fun h' tk hd' k => ?_
  · show X.A.in1.in1.units < cLine
    simp only [Around.in1]
    omega
  · refine ⟨⟨o, n, ho, hc, hd, hdat⟩, by rw [lp]; simp, fun j kx v hj => ?_⟩
    rw [List.getElem?_map] at hj
    obtain ⟨q', hq', e'⟩ := Option.map_eq_some_iff.mp hj
    cases e'
    obtain ⟨e, he, ht, _⟩ := hpr j q' hq'
    refine ⟨?_, .inl ?_⟩
    · show _ = some (Value.ref ((es.map (·.1)).getD j 0))
      rw [Tj he]
      simp [he]
    · show s.heap.IsTuple ((es.map (·.1)).getD j 0) _
      rw [Tj he]
      obtain ⟨o', h1, h2, n', h3⟩ := ht
      exact ⟨o', h1, h2, n', h3⟩
  · refine ⟨by rw [List.length_map], fun i kx v hi => ?_⟩
    rw [PairRel, List.getElem?_map] at hi
    obtain ⟨q', hq', e'⟩ := Option.map_eq_some_iff.mp hi
    cases e'
    exact ⟨q'.1, q'.2.1, hq', rfl⟩
  · intro h' hk x hx
    obtain ⟨o', items, n', h1, h2, h3, h4⟩ := key hx
    exact ⟨o', items, n', hk _ _ (Nat.ne_of_lt (Heap.lt_size h1)) (fun z => nomatch z) h1, h2, h3, h4⟩
  · rw [lp]
    exact hz
  · have hm : (s.heap.objs.size == sysModules) = false := beq_eq_false_iff_ne.mpr (Nat.ne_of_gt I.big)
    have hlen : (mergeT [] (es.map fun e => e.2.2)).length ≤ sizeLine := by
      refine Nat.le_trans (mergeT_len _ _) ?_
      rw [List.length_nil, Nat.zero_add, List.length_map]
      exact hz
    obtain ⟨q', es', ep, hq', h2, h3, h4, _, h5⟩ := hd'
    have hf : H s.heap.objs.size = none := I.hok.fresh (Nat.le_refl _)
    have rel' : KT (upd H s.heap.objs.size (.dT (mergeT [] (es.map fun e => e.2.2)))) (mergeT [] (es.map fun e => e.2.2)) (storedAllH [] prs) := (KT.merge rel .nil).keeps fun c ys ec => by
      rw [upd_ne (fun z => by rw [z, hf] at ec; cases ec)]
      exact ec
    exact ⟨.ref s.heap.objs.size, _, I.laid (t' := tk) (fun b o' e => k b o' (fun z => nomatch z) e) (Nat.le_refl _) (show ObjOk X.prog X.w _ _ _ (.dT (mergeT [] (es.map fun e => e.2.2))) from ⟨hlen, hm, _, rel', q', es', ep, hq', h2, h3, h4, h5⟩), rfl, q _ hf⟩
end
end Bt
namespace Bt
open PySem PySem.Spec PyProof.Rows L2
/-! ### list(d.items()), and walks over d.items(), the keys tuples of texts -/
section
variable {X : Cx} {pins : List (Addr × Obj)} {σ : L2.St} {H H' : Hp} {s : Shared} {h' : Heap} {tk : Nat}
/-- many new things at a time -/
theorem lay_new (I : Inv X pins σ H s) (hk : ∀ b o, s.heap.get? b = some o → h'.get? b = some o) (kp : Same H H') (low : ∀ b o, s.heap.get? b = some o → H' b = H b)
    (ok : ∀ b u, H b = none → H' b = some u → ObjOk X.prog X.w H' h' b u) : Inv X pins σ H' { s with heap := h', toks := tk } := by
  refine I.call' (ch := []) rfl ⟨fun b o q _ _ _ => hk b o q, fun b o q _ _ _ => ⟨o.slots, hk b o q⟩, fun b o q n _ => by rw [low b o q]; exact n, fun b o q _ => ⟨o, hk b o q⟩, fun b xs q => kp b _ q, fun b o u q => kp b _ q, fun b ps q => ⟨#[], by rw [kp b _ q]; simp⟩⟩ (fun b u q => ?_) I.bare fun b z => by simp at z
  cases e : H b with
  | none => exact ok b u e q
  | some v =>
    have : H' b = some v := kp b v e
    rw [q] at this
    cases this
    exact (I.hok b u e).stay (fun d v _ y => hk d v y) (fun d y => kp d _ y) fun d xs y => kp d _ y
end
/-- the pairs tracked -/
def put4 : Hp → List PE4 → Hp
  | H, [] => H
  | H, e :: es => put4 (upd H e.1 (.tup [.ref e.2.1, e.2.2.2])) es
theorem put4_off {b : Addr} : ∀ (es : List PE4) (H : Hp), b ∉ es.map (·.1) → put4 H es b = H b
  | [], _, _ => rfl
  | e :: es, H, h => by
    rw [List.map_cons, List.mem_cons, not_or] at h
    show put4 (upd H e.1 _) es b = H b
    rw [put4_off es _ h.2, upd_ne h.1]
theorem put4_at : ∀ (es : List PE4) (H : Hp), (es.map (·.1)).Nodup → ∀ e ∈ es, put4 H es e.1 = some (.tup [.ref e.2.1, e.2.2.2])
  | e :: es, H, h, x, hx => by
    rw [List.map_cons, List.nodup_cons] at h
    rcases List.mem_cons.mp hx with rfl | hx
    · show put4 (upd H x.1 _) es x.1 = _
      rw [put4_off es _ h.1, upd_same]
    · exact put4_at es _ h.2 x hx
theorem mk4 {H : Hp} : ∀ {kvs : List (List Key × V)} {xs : List (List Key × Addr × Value)} {as : List Addr}, KT H kvs xs → as.length = xs.length → ∃ es : List PE4, es.map (·.1) = as ∧ es.map (·.2.2) = kvs ∧
    ∀ (j : Nat) (e : PE4), es[j]? = some e → as[j]? = some e.1 ∧ ∃ y, xs[j]? = some y ∧ y.2.1 = e.2.1 ∧ RelV e.2.2.2 y.2.2 ∧ H e.2.1 = some (.tup (e.2.2.1.map kV))
  | _, _, [], .nil, _ => ⟨[], rfl, rfl, fun j e h => by simp at h⟩
  | _, _, _ :: _, .nil, h => by simp at h
  | _, _, [], .cons _ _, h => by simp at h
  | p :: kvs, q :: xs, a :: as, .cons h t, hl => by
    obtain ⟨h1, h2, h3⟩ := h
    obtain ⟨es, e1, e2, e3⟩ := mk4 t (as := as) (by simpa using hl)
    refine ⟨(a, q.2.1, p) :: es, by rw [List.map_cons, e1], by rw [List.map_cons, e2], fun j e he => ?_⟩
    cases j with
    | zero =>
      cases Option.some.inj he
      exact ⟨rfl, q, rfl, rfl, h3, h2⟩
    | succ j =>
      obtain ⟨z1, y, z2, z3⟩ := e3 j e (by simpa using he)
      exact ⟨by simpa using z1, y, by simpa using z2, z3⟩
/-- what holds of the pairs in the heap -/
def Prs4 (H : Hp) (es : List PE4) : Prop := ∀ e ∈ es, H e.1 = some (.tup [.ref e.2.1, e.2.2.2]) ∧ H e.2.1 = some (.tup (e.2.2.1.map kV))
theorem Prs4.mono {H H' : Hp} {es : List PE4} (S : Same H H') (h : Prs4 H es) : Prs4 H' es := fun e he => ⟨S _ _ (h e he).1, S _ _ (h e he).2⟩
def rItemsLT : V → Hp → VK → Prop := fun x H Q => ∃ (d : Addr) (kvs : List (List Key × V)), x = .ref d ∧ H d = some (.dT kvs) ∧
  ∀ (H' : Hp) (p : Addr) (es : List PE4), Same H H' → H p = none → H' p = some (.lst (es.map fun e => V.ref e.1)) → es.map (·.2.2) = kvs → Prs4 H' es → Q (.ref p) H'
def tListItT (te : TE) : TE := fun σ H Q => te σ H fun x H1 => rItemsLT x H1 Q
section
variable {X : Cx} {e : Expr} {te : TE} {p apos cpos pos : Pos}
theorem pe_listItT (hc : X.calm = true) (he : PE X e te) (hg : Gl X "list") (hm : X.mg "list" = none) (hv : bootBuiltins "list" = some (.type "list")) (hbase : attributeBase e "items" X.env (eval e X.env) = eval e X.env := by rfl) (hline : (apos.endLine == cpos.line) = true := by rfl)
    (hs : starEach [.Call (.Attribute e "items" apos) [] [] cpos] X.env = (false, eval (.Call (.Attribute e "items" apos) [] [] cpos) X.env) :: starEach [] X.env := by rfl) :
    PE X (.Call (.Name "list" p) [.Call (.Attribute e "items" apos) [] [] cpos] [] pos) (tListItT te) := by
  refine ⟨fun pins s σ H Q I hq => ?_⟩
  refine wpAny_Call_Name_kw (ld_blt I hg hm hv ?_)
  refine PyProof.Rows.callWith_type1 ?_ hs rfl
  rw [hs]
  show wpAny _ _ (spliced ((false, eval (.Call (.Attribute e "items" apos) [] [] cpos) X.env) :: backTo pos (starEach [] X.env))) _ _ s
  refine Calls.spliced_cons ?_
  refine wpAny_Call_method (T := "dict") (id := "dict.items") hbase rfl hline F.plainAttrs_dict F.slot_dict_items F.type_dict_items (thn (he.run pins s σ H _ I hq) fun u s1 ⟨x, H1, I1, rx, d, kvs, ex, hd, q⟩ => ?_)
  subst ex
  obtain rfl : u = Value.ref d := rx
  obtain ⟨hz, hs0, xs, rel, hdo⟩ := dt_of I1.hok hd
  obtain ⟨es, ep, raw, hes, hent⟩ := hdo.raw
  have lk : kvs.length = xs.length := Paired.length rel
  have ht : s1.TypeIs (.ref d) "dict" := hdo.typeIs
  refine ⟨ht, fun b eb => ?_, ?_⟩
  · cases eb
    obtain ⟨o, ho, hx, _⟩ := raw
    exact ⟨o, ho, hx.2.1⟩
  show wpAny _ _ (callWith cpos (.builtin "dict.items") [.ref d] [] []) _ X.xe s1
  refine method_meetsIn F.slot_dict_items F.entry_dict_items rfl (PySem.evalArgs_none ⟨rfl, ht, F.args_dict_items_1 _, _, PySem.meets_dict_items_raw d hs0, ⟨es, ep, raw⟩, ?_⟩)
  refine Calls.spliced_nil ?_
  have I2 : Inv X pins σ H1 { s1 with heap := s1.heap.push { cls := .type "dict_items", data := .fields #[.ref d] } } := I1.kept (t' := s1.toks) fun b ob q => Heap.get?_push_of_some _ q
  refine PySem.W.dil_call (es := es) (ep := ep) (I1.ok.hd hc) ⟨_, Heap.get?_push_size _ rfl, rfl, rfl⟩ (raw.push _) (by omega) fun h' tk acc c as hk hS hl hG hacc => ?_
  obtain ⟨es4, a1, a2, a3⟩ := mk4 rel (as := as) (by omega)
  have nd : as.Nodup := List.Pairwise.imp (fun {a b} (h : a < b) => Nat.ne_of_lt h) hG.rise
  have hSn : ∀ S, S ∈ as → S ≠ (s1.heap.push { cls := .type "dict_items", data := .fields #[.ref d] }).objs.size := fun S z e => Nat.lt_irrefl _ (e ▸ hG.above _ z)
  have new : ∀ t ∈ as, H1 t = none := fun t ht => I2.hok.fresh (Nat.le_of_lt (hG.above t ht))
  have newS : H1 (s1.heap.push { cls := .type "dict_items", data := .fields #[.ref d] }).objs.size = none := I2.hok.fresh (Nat.le_refl _)
  have low : ∀ b o, (s1.heap.push { cls := .type "dict_items", data := .fields #[.ref d] }).get? b = some o → b ∉ as ∧ b ≠ (s1.heap.push { cls := .type "dict_items", data := .fields #[.ref d] }).objs.size := fun b o e => ⟨fun z => absurd (Heap.lt_size e) (Nat.not_lt.mpr (Nat.le_of_lt (hG.above b z))), Nat.ne_of_lt (Heap.lt_size e)⟩
  generalize (s1.heap.push { cls := .type "dict_items", data := .fields #[.ref d] }).objs.size = S at *
  have off : ∀ b, b ∉ as → b ≠ S → put4 (upd H1 S (.lst (as.map V.ref))) es4 b = H1 b := fun b h1 h2 => by rw [put4_off es4 _ (a1 ▸ h1), upd_ne h2]
  have kp : Same H1 (put4 (upd H1 S (.lst (as.map V.ref))) es4) := fun b u e => by
    rw [off b (fun z => by rw [new b z] at e; cases e) (fun z => by rw [z, newS] at e; cases e)]
    exact e
  have eS : put4 (upd H1 S (.lst (as.map V.ref))) es4 S = some (.lst (as.map V.ref)) := by rw [put4_off es4 _ (a1 ▸ fun z => hSn S z rfl), upd_same]
  have at4 := put4_at es4 (upd H1 S (.lst (as.map V.ref))) (a1 ▸ nd)
  have J : Inv X pins σ (put4 (upd H1 S (.lst (as.map V.ref))) es4) { { s1 with heap := s1.heap.push { cls := .type "dict_items", data := .fields #[.ref d] } } with heap := h', toks := tk } := by
    refine lay_new I2 hk kp (fun b o q => off b (low b o q).1 (low b o q).2) fun b u hn hu => ?_
    by_cases hb : b ∈ as
    · rw [← a1] at hb
      obtain ⟨e4, m4, rfl⟩ := List.mem_map.mp hb
      obtain ⟨j, hj⟩ := List.mem_iff_getElem?.mp m4
      obtain ⟨z1, y, z2, z3, z4, z5⟩ := a3 j e4 hj
      obtain ⟨hjs, h5⟩ := hG.pairs j e4.1 z1
      obtain ⟨y', w1, w2, w3, _⟩ := hent j hjs
      rw [z2] at w1
      cases w1
      rw [at4 e4 m4] at hu
      cases hu
      exact ⟨by show 2 ≤ sizeLine; decide, [.ref y.2.1, y.2.2], .cons (by rw [← z3]; rfl) (.cons z4 .nil), ⟨_, by rw [w2, w3] at h5; exact h5, rfl, _, rfl⟩⟩
    · by_cases hb2 : b = S
      · subst hb2
        rw [eS] at hu
        cases hu
        refine ⟨by rw [List.length_map]; omega, acc.toList, c, by rw [hacc]; exact LiI.vals_refs as, ?_⟩
        rw [Array.toArray_toList]
        exact hS
      · rw [off b hb hb2, hn] at hu
        cases hu
  refine ⟨.ref S, _, J, rfl, q _ S es4 kp newS ?_ a2 fun e4 m4 => ⟨at4 e4 m4, ?_⟩⟩
  · rw [eS, ← a1, List.map_map]
    rfl
  · obtain ⟨j, hj⟩ := List.mem_iff_getElem?.mp m4
    obtain ⟨_, _, _, _, _, z5⟩ := a3 j e4 hj
    exact kp _ _ z5
end
end Bt
namespace Bt
open PySem PySem.Spec PyProof.Rows L2
/-! ### for k, v in d.items(), the keys tuples of texts -/
def Itit (d : Addr) (o : Obj) (kvs : List (List Key × V)) : It :=
  ⟨fun i H => H d = some (.frz o (.dT kvs)) ∧ i < kvs.length, fun i H x H' => ∃ T b k v, kvs[i]? = some (k, v) ∧ x = .ref T ∧ H T = none ∧ H b = some (.tup (k.map kV)) ∧ H' = upd H T (.tup [.ref b, v]), fun i H => H d = some (.frz o (.dT kvs)) ∧ kvs.length ≤ i⟩
section
variable {X : Cx} {pins : List (Addr × Obj)} {σ : L2.St} {H : Hp} {s : Shared} {d : Addr} {o : Obj}
theorem frzV {kvs : List (List Key × V)} (I : Inv X pins σ H s) (h : H d = some (.frz o (.dT kvs))) :
    (d == sysModules) = false ∧ s.heap.get? d = some o ∧ o.ExactDict ∧ ∃ (es : Array DictEntry) (ep : Nat), o.data = .dict es ep ∧ es.size = kvs.length ∧
      ∀ (i : Nat) (k : List Key) (v : V), kvs[i]? = some (k, v) → ∃ (en : DictEntry) (q : Addr), es[i]? = some en ∧ en.key = .ref q ∧ RelV v en.val ∧ H q = some (.tup (k.map kV)) := by
  obtain ⟨hd, z, hs, xs, pr, o', es, ep, ho, hx, hdt, he, _⟩ := I.hok d _ h
  rw [hd] at ho
  cases ho
  refine ⟨hs, hd, hx, es, ep, hdt, ?_, fun i k v e => ?_⟩
  · have l1 : es.size = xs.length := size_of_entries he
    have l2 : kvs.length = xs.length := Paired.length pr
    omega
  · obtain ⟨b, hb, e1, e2, e3⟩ := LiI.paired_get pr e
    have q := entry_at he i
    rw [hb] at q
    exact ⟨_, b.2.1, q, rfl, e3, e2⟩
end
section
variable {P : Program} {w : World} {K : PySem.W.Frag} {d : Addr} {o : Obj} {es : Array DictEntry} {ep : Nat}
theorem turn_itemsT {kvs : List (List Key × V)} {elts : List Expr} {kk : Nat} {tpos : Pos} (it : Addr) (hod : o.data = .dict es ep) :
    Turn P w K (.Tuple elts kk tpos) (Itit d o kvs) [it] it (fun i h => ∃ ok ov, IsItemIter h it d i kvs.length ep ok ov) where
  mem := by simp
  obj := fun i h st b hb => by
    have e : b = it := by simpa using hb
    subst e
    obtain ⟨ok, ov, e⟩ := st
    exact ⟨_, e, fun v z => nomatch z⟩
  keep := fun i h h' st k => let ⟨ok, ov, e⟩ := st; ⟨ok, ov, k it (by simp) _ e⟩
  item := by
    intro X hP hw hK hc i pins s σ H E I hf st hg
    subst hP hw hK
    obtain ⟨hd, hi⟩ := hg
    obtain ⟨hs, hgd, hx, es', ep', hdt, hsz, ent⟩ := frzV I hd
    rw [hod] at hdt
    cases hdt
    obtain ⟨⟨k, v⟩, hkv⟩ : ∃ p, kvs[i]? = some p := ⟨kvs[i], List.getElem?_eq_getElem hi⟩
    obtain ⟨en, q, hen, hkey, hval, hq⟩ := ent i k v hkv
    obtain ⟨ok, ov, he⟩ := st
    rw [← hsz] at he
    have hlt : it < s.heap.objs.size := Heap.lt_size he
    have hie : i < es.size := by omega
    have een : es[i] = en := by rw [Array.getElem?_eq_getElem hie] at hen; exact Option.some.inj hen
    refine wpAny_pyNext_items_item_raw he ⟨o, hgd, hx, hod⟩ hie fun h' ho hT hz hk => ?_
    rw [een] at ho hT
    refine ⟨_, rfl, wpAny_letOwnedTupleGo_items (s := { s with heap := h' }) ho fun h'' he' sb => ?_⟩
    have hT2 : h''.get? s.heap.objs.size = some { cls := .type "tuple", data := .seq #[en.key, en.val] } := (sb.2 _ (Nat.ne_of_gt hlt)).trans hT
    have new : ObjOk X.prog X.w (upd H s.heap.objs.size (.tup [.ref q, v])) h'' s.heap.objs.size (.tup [.ref q, v]) :=
      ⟨by show 2 ≤ sizeLine; decide, [en.key, en.val], .cons hkey (.cons hval .nil), ⟨_, hT2, rfl, _, rfl⟩⟩
    have I1 : Inv X pins σ (upd H s.heap.objs.size (.tup [.ref q, v])) { s with heap := h'' } :=
      I.turnedNew (t' := s.toks) (ch := [it]) (fun b ob hb e => (sb.2 b (by simpa using hb)).trans (hk b ob (by simpa using hb) e)) hf (Nat.le_refl _) new
    refine ⟨.ref s.heap.objs.size, _, I1, rfl, ⟨_, q, k, v, hkv, rfl, I.hok.fresh (Nat.le_refl _), hq, rfl⟩, ⟨en.key, en.val, ?_⟩, fun b hb => ?_⟩
    · rw [← hsz]; exact he'
    · have e : b = it := by simpa using hb
      rw [e, upd_ne (Nat.ne_of_lt hlt)]
      exact (hf it (by simp)).1
  done := by
    intro X hP hw hK hc i pins s σ H E I hf st hg
    subst hP hw hK
    obtain ⟨hd, hi⟩ := hg
    obtain ⟨f0, f1, f2, f3, f4, f5⟩ := hf it (by simp)
    obtain ⟨hs, hgd, hx, es', ep', hdt, hsz, ent⟩ := frzV I hd
    rw [hod] at hdt
    cases hdt
    obtain ⟨ok, ov, he⟩ := st
    rw [← hsz] at he
    exact wpAny_pyNext_items_end_raw (I.ok.hd hc) he ⟨o, hgd, hx, hod⟩ (by omega) fun h' eb => ⟨rfl, I.turned (t' := s.toks) (fun b ob hb e => eb b ob hb e) f0 f1 f3 f4 f5⟩
  self := fun A i s Q E st h => let ⟨_, _, e⟩ := st; PySem.W.kcp_self e h
end
/-- the dict is locked -/
def iItemsT (td : TE) : TI := fun σ H R => td σ H fun x H1 => ∃ d o kvs, x = .ref d ∧ H1 d = some (.frz o (.dT kvs)) ∧ R (Itit d o kvs) H1
section
variable {X : Cx} {e : Expr} {td : TE} {apos cpos : Pos}
theorem pi_itemsT {elts : List Expr} {kk : Nat} {tpos : Pos} (he : PE X e td) (hbase : attributeBase e "items" X.env (eval e X.env) = eval e X.env := by rfl) (hline : (apos.endLine == cpos.line) = true := by rfl) :
    PI X (.Tuple elts kk tpos) (.Call (.Attribute e "items" apos) [] [] cpos) (iItemsT td) := by
  refine ⟨fun pins s σ H R I h => ?_⟩
  refine wpAny_Call_method (T := "dict") (id := "dict.items") hbase rfl hline F.plainAttrs_dict F.slot_dict_items F.type_dict_items (thn (he.run pins s σ H _ I h) fun u s1 ⟨x, H1, I1, rx, d, o, kvs, ex, hd, q⟩ => ?_)
  subst ex
  obtain rfl : u = Value.ref d := rx
  obtain ⟨hs, hgd, hx, es, ep, hdt, hsz, ent⟩ := frzV I1 hd
  have raw : s1.heap.DictRaw d es ep := ⟨o, hgd, hx, hdt⟩
  have ht : s1.TypeIs (.ref d) "dict" := raw.typeIs
  refine ⟨ht, fun b eb => ?_, ?_⟩
  · cases eb
    exact ⟨o, hgd, hx.2.1⟩
  have I2 : Inv X pins σ H1 { s1 with heap := s1.heap.push { cls := .type "dict_items", data := .fields #[.ref d] } } := I1.kept (t' := s1.toks) fun b ob q => Heap.get?_push_of_some _ q
  have fin : wpAny (model X.prog X.w) X.A (pyIter (.ref s1.heap.objs.size)) (PIE X pins σ (.Tuple elts kk tpos) R) X.xe { s1 with heap := s1.heap.push { cls := .type "dict_items", data := .fields #[.ref d] } } := by
    refine wpAny_pyIter_items_raw (d := d) ⟨_, Heap.get?_push_size _ rfl, rfl, rfl⟩ (raw.push _) (pi_one (tk := s1.toks) I2 _ (turn_itemsT _ hdt) ⟨.none, .none, ?_⟩ q)
    rw [← hsz]
    exact Heap.get?_push_size _ rfl
  show wpAny _ _ (callWith cpos (.builtin "dict.items") [.ref d] [] []) _ X.xe s1
  exact method_meetsIn F.slot_dict_items F.entry_dict_items rfl (PySem.evalArgs_none ⟨rfl, ht, F.args_dict_items_1 _, _, PySem.meets_dict_items_raw d hs, ⟨es, ep, raw⟩, fin⟩)
end
/-- a comprehension over the items -/
theorem lc_itemsT {d : Addr} {o : Obj} {kvs : List (List Key × V)} {g : TG} {tt : TT} {te : TE} {vs : List Nat} {σ : L2.St} {H1 : Hp} {D : Addr} {Qd : Hp → Prop} (Pv : Nat → Hp → Prop) (h0 : Pv 0 (upd H1 D (.lst []))) (hl : ∀ i H, i ≤ kvs.length → Pv i H → H d = some (.frz o (.dT kvs)))
    (hs : ∀ i T b k v H, kvs[i]? = some (k, v) → Pv i H → H T = none → H b = some (.tup (k.map kV)) → g (.ref T) (wipe σ vs) (upd H T (.tup [.ref b, v])) fun σ2 H2 => wipe σ2 vs = wipe σ vs ∧ tt σ2 H2 fun c H3 =>
      if c = true then te σ2 H3 fun y H4 => ∃ acc, H4 D = some (.lst acc) ∧ acc.length < sizeLine ∧ Pv (i + 1) (upd H4 D (.lst (acc ++ [y]))) else Pv (i + 1) H3) (hd : ∀ H, Pv kvs.length H → Qd H) :
    ∃ W : Nat → Nat → Hp → Prop, (∃ m, W 0 m (upd H1 D (.lst []))) ∧ ∀ i m H, W i m H →
      ((Itit d o kvs).stop i H ∧ Qd H) ∨ ((Itit d o kvs).go i H ∧ ∃ Nx : Hp → Prop, (∀ H', Nx H' → ∃ m', m' < m ∧ W (i + 1) m' H') ∧ ∀ x H', (Itit d o kvs).yld i H x H' → g x (wipe σ vs) H' fun σ2 H2 => wipe σ2 vs = wipe σ vs ∧ tt σ2 H2 fun c H3 =>
        if c = true then te σ2 H3 fun y H4 => ∃ acc, H4 D = some (.lst acc) ∧ acc.length < sizeLine ∧ Nx (upd H4 D (.lst (acc ++ [y]))) else Nx H3) := by
  refine ⟨fun i m H => m = kvs.length - i ∧ i ≤ kvs.length ∧ Pv i H, ⟨kvs.length, by simp, Nat.zero_le _, h0⟩, ?_⟩
  rintro i m H ⟨rfl, hi, p⟩
  by_cases hlt : i < kvs.length
  · refine .inr ⟨⟨hl i H hi p, hlt⟩, Pv (i + 1), fun H' p' => ⟨kvs.length - (i + 1), by omega, rfl, hlt, p'⟩, fun x H' y => ?_⟩
    obtain ⟨T, b, k, v, h1, rfl, h2, h3, rfl⟩ := y
    exact hs i T b k v H h1 p h2 h3
  · have e : i = kvs.length := by omega
    subst e
    exact .inl ⟨⟨hl _ H hi p, Nat.le_refl _⟩, hd H p⟩
end Bt
namespace Bt
namespace ST
open PySem PySem.Spec PyProof.Rows L2
/-! ### sets whose members are tuples of texts and ints: the machine's side -/
abbrev hk (P : Program) (w : World) (k : List Key) : Int := tupleKeyHash (mixKind P w) k
abbrev IsK (P : Program) (w : World) (h : Heap) (k : List Key) (a : Addr) : Prop := IsTupleKey (mixKind P w) h k a
section
variable {P : Program} {w : World} {A : Around} {E : Value → Shared → Prop} {s : Shared}
def Plain (v : Value) : Prop := (∃ i t, v = .int i t) ∨ ∃ x t, v = .str x t
theorem plains {k : List Key} {vs : List Value} (h : ItemsAre (mixKind P w) k vs) : ∀ v ∈ vs, Plain v := by
  induction h with
  | nil => exact fun v hv => nomatch hv
  | cons h1 _ ih =>
    intro v hv
    rcases List.mem_cons.mp hv with rfl | hv
    · rcases keyIs_shape h1 with ⟨i, t, _, e⟩ | ⟨x, t, _, e⟩
      · exact .inl ⟨i, t, e⟩
      · exact .inr ⟨x, t, e⟩
    · exact ih v hv
theorem aClass_key {k : List Key} {b : Addr} {Q : Bool → Shared → Prop} (hb : IsK P w s.heap k b) (h : Q false s) : wpAny (model P w) A (ofAClassStatement 8 (.ref b)) Q E s := by
  have ty := hb.typeIs
  obtain ⟨o, items, n, ho, _, hd, hi⟩ := hb
  unfold ofAClassStatement
  refine wpAny_bind (wpAny_typeOf ty ?_)
  have et : (("tuple" : String) == "tuple") = true := by decide
  simp only [et, if_true, Bool.not_true, Bool.false_eq_true, if_false]
  show wpAny _ _ (seqItems? (.ref b) >>= _) _ _ s
  refine wpAny_bind (wpAny_seqItems ho hd (wpAny_bind ?_))
  show wpAny _ _ (forIn items _ _) _ _ s
  rw [← Array.forIn_toList]
  refine wpAny_forIn_list _ (fun rest r s' => r.1 = none ∧ s' = s ∧ ∀ v ∈ rest, Plain v) _ (fun v rest r s' => ?_) (fun r s' => ?_) _ _ ⟨rfl, rfl, plains hi⟩
  · rintro ⟨hr, rfl, all⟩
    have e : ofAClassStatement 7 v = pure false := by
      rcases all v List.mem_cons_self with ⟨i, t, rfl⟩ | ⟨x, t, rfl⟩ <;> rfl
    rw [e]
    refine wpAny_bind (wpAny_pure ?_)
    simp only [Bool.false_eq_true, if_false]
    exact wpAny_pure ⟨rfl, rfl, fun u hu => all u (List.mem_cons_of_mem _ hu)⟩
  · obtain ⟨r1, r2⟩ := r
    rintro ⟨hr, rfl, _⟩
    obtain rfl : r1 = none := hr
    exact wpAny_pure h
theorem byValue_key {k : List Key} {b : Addr} {Q : Bool → Shared → Prop} (hb : IsK P w s.heap k b) (h : ∀ c, Q c s) : wpAny (model P w) A (hashByValue 8 (.ref b)) Q E s := by
  have ty := hb.typeIs
  obtain ⟨o, items, n, ho, _, hd, hi⟩ := hb
  unfold hashByValue
  refine wpAny_bind (wpAny_specialOf ty F.slot_tuple_hash.lookup ?_)
  show wpAny _ _ (seqItems? (.ref b) >>= _) _ _ s
  refine wpAny_bind (wpAny_seqItems ho hd (wpAny_bind ?_))
  show wpAny _ _ (forIn items _ _) _ _ s
  rw [← Array.forIn_toList]
  refine wpAny_forIn_list _ (fun rest r s' => s' = s ∧ ∀ v ∈ rest, Plain v) _ (fun v rest r s' => ?_) (fun r s' => ?_) _ _ ⟨rfl, plains hi⟩
  · rintro ⟨rfl, all⟩
    have e : ∃ c, hashByValue 7 v = pure c := by
      rcases all v List.mem_cons_self with ⟨i, t, rfl⟩ | ⟨x, t, rfl⟩ <;> exact ⟨_, rfl⟩
    obtain ⟨c, e⟩ := e
    rw [e]
    refine wpAny_bind (wpAny_pure ?_)
    cases c <;> simp only [Bool.not_true, Bool.not_false, if_true, Bool.false_eq_true, if_false]
    · exact wpAny_pure (wpAny_pure (h _))
    · exact wpAny_pure ⟨rfl, fun u hu => all u (List.mem_cons_of_mem _ hu)⟩
  · rintro ⟨rfl, _⟩
    obtain ⟨r1, r2⟩ := r
    cases r1 with
    | none => exact wpAny_pure (h _)
    | some c => exact wpAny_pure (h c)
/-- looking a tuple up among tuples shows nothing of the table -/
theorem unseen {k : List Key} {b : Addr} {Q : Bool → Shared → Prop} (hb : IsK P w s.heap k b) {ys : List Value} (hy : ∀ y ∈ ys, ∃ k' c, y = Value.ref c ∧ IsK P w s.heap k' c) (h : Q false s) : wpAny (model P w) A (searchCouldBeSeen (.ref b) ys) Q E s := by
  unfold searchCouldBeSeen
  refine wpAny_bind (wpAny_forIn_list _ (fun rest r s' => r.1 = none ∧ s' = s ∧ ∀ y ∈ rest, ∃ k' c, y = Value.ref c ∧ IsK P w s.heap k' c) _ (fun v rest r s' => ?_) (fun r s' => ?_) _ _ ⟨rfl, rfl, hy⟩)
  · rintro ⟨hr, rfl, all⟩
    obtain ⟨k', c, rfl, hc⟩ := all v List.mem_cons_self
    have more : ∀ y ∈ rest, ∃ k' c, y = Value.ref c ∧ IsK P w s'.heap k' c := fun u hu => all u (List.mem_cons_of_mem _ hu)
    dsimp only
    by_cases z : (b == c || (carriedByValue (.ref b) && carriedByValue (.ref c))) = true
    · exact wp_if_pos z (wpAny_pure ⟨rfl, rfl, more⟩)
    · refine wp_if_neg z (wpAny_bind (wpAny_eqIsQuiet_tuple hb ?_))
      simp only [Bool.not_true, Bool.false_eq_true, if_false]
      refine wpAny_bind (wpAny_eqIsQuiet_tuple hc ?_)
      simp only [Bool.not_true, Bool.false_eq_true, if_false]
      refine wpAny_bind (aClass_key hb ?_)
      simp only [Bool.false_eq_true, if_false]
      refine wpAny_bind (aClass_key hc ?_)
      simp only [Bool.false_eq_true, if_false]
      exact wpAny_pure ⟨rfl, rfl, more⟩
  · obtain ⟨r1, r2⟩ := r
    rintro ⟨hr, rfl, _⟩
    obtain rfl : r1 = none := hr
    exact wpAny_pure h
/-- the set at a: its members with their places -/
structure TS (P : Program) (w : World) (h : Heap) (a : Addr) (L : List (Addr × List Key)) (es : Array (Int × Value)) (ep : Nat) (t : SetTable) : Prop where
  ob : ∃ o, h.get? a = some o ∧ o.ExactSet ∧ o.data = .set es ep t
  rows : es.toList = L.map fun p => (hk P w p.2, Value.ref p.1)
  tab : TabOk t (L.map fun p => hk P w p.2)
  nd : (L.map (·.2)).Nodup
  mem : ∀ p ∈ L, IsK P w h p.2 p.1
  room : L.length * 5 < t.mask * 3
  few : L.length < 64
variable {a : Addr} {L : List (Addr × List Key)} {es : Array (Int × Value)} {ep : Nat} {t : SetTable}
theorem TS.size (R : TS P w s.heap a L es ep t) : es.size = L.length := by
  rw [← Array.length_toList, R.rows, List.length_map]
theorem TS.places (R : TS P w s.heap a L es ep t) : t.place.size = L.length := by
  rw [R.tab.sz, List.length_map]
theorem TS.fits (R : TS P w s.heap a L es ep t) : t.fits es.size = true := by
  have h1 := R.places
  have h2 := R.size
  have h3 := R.room
  unfold SetTable.fits SetTable.fill
  rw [R.tab.dm, Bool.and_eq_true, beq_iff_eq, decide_eq_true_eq]
  exact ⟨by omega, by show t.place.size + 0 ≤ t.mask; omega⟩
theorem TS.row (R : TS P w s.heap a L es ep t) {i : Nat} {p : Addr × List Key} (h : L[i]? = some p) : es[i]? = some (hk P w p.2, Value.ref p.1) := by
  rw [← Array.getElem?_toList, R.rows, List.getElem?_map, h]
  rfl
theorem TS.stays (R : TS P w s.heap a L es ep t) : ¬ t.gaveWay = true := by
  unfold SetTable.gaveWay
  rw [mask_odd R.tab.mok]
  decide
/-- the c-th step of the way of k -/
abbrev stp (t : SetTable) (h : Int) (c : Nat) : SetTable.Probe := nth t.mask (runAt t.mask (SetTable.bits h % (t.mask + 1)) (SetTable.bits h)) c
theorem stp_clean (t : SetTable) (h : Int) (c : Nat) : (stp t h c).dummy = none := by
  have go : ∀ (n : Nat) (p : SetTable.Probe), p.dummy = none → (nth t.mask p n).dummy = none := fun n => by
    induction n with
    | zero => exact fun p e => e
    | succ n ih =>
      intro p e
      refine ih (adv t.mask p) ?_
      unfold adv
      split <;> exact e
  exact go c _ rfl
theorem stp_add (t : SetTable) (h : Int) (c q : Nat) : nth t.mask (stp t h c) q = stp t h (c + q) := (nth_add t.mask c _ q).symm
theorem srch_go (R : TS P w s.heap a L es ep t) {x : Addr} {k : List Key} (hx : IsK P w s.heap k x) (hu : A.units < cLine) (adding : Bool) {K : Nat} (hKf : K < 10 * SetTable.turns t.mask)
    (hK : way t.mask (hk P w k) K ∉ t.place.toList) (hKb : ∀ c, c < K → way t.mask (hk P w k) c ∈ t.place.toList) {Q : SetFound → Shared → Prop}
    (hin : k ∈ L.map (·.2) → ∀ r, (adding = true → r = none) → (adding = false → r.isSome = true) → Q (.there r) s) (hout : k ∉ L.map (·.2) → Q (.free (way t.mask (hk P w k) K) false) s) :
    ∀ (f c : Nat) (st : Option SetTable.Probe), st.getD (t.probeStart (hk P w k)) = stp t (hk P w k) c → c ≤ K → K - c < f →
      (∀ (i : Nat) p, L[i]? = some p → p.2 = k → ∃ c', c ≤ c' ∧ c' < K ∧ t.place.toList[i]? = some (way t.mask (hk P w k) c')) →
      wpAny (model P w) A (setSearchFrom a (.ref x) (hk P w k) adding f st) Q E s := by
  obtain ⟨o, ho, hex, hd⟩ := R.ob
  intro f
  induction f with
  | zero => exact fun c st _ _ hf _ => absurd hf (Nat.not_lt_zero _)
  | succ f ih =>
    intro c st hst hc hf hre
    rw [setSearchFrom_succ]
    refine wpAny_bind (wpAny_setState_of ho hd R.fits ?_)
    dsimp only
    refine wp_if_neg R.stays ?_
    have hcK : c + (K - c) = K := by omega
    have rowH : ∀ {i : Nat} {p : Addr × List Key}, L[i]? = some p → (es[i]?.map (·.1)).getD 0 = hk P w p.2 := fun hp => by rw [R.row hp]; rfl
    have found : ∀ (i : Nat) p, L[i]? = some p → p.2 = k → (es[i]?.map (·.1)).getD 0 = hk P w k := fun i p hp e => by rw [rowH hp, e]
    rcases go_spec t R.tab.ris R.tab.dm (fun i => (es[i]?.map (·.1)).getD 0) (hk P w k) (10 * SetTable.turns t.mask) (K - c) (stp t (hk P w k) c) (stp_clean _ _ _) (by omega)
      (fun q hq => by rw [stp_add]; exact hKb (c + q) (by omega)) (by rw [stp_add, hcK]; exact hK) with ⟨q, i, hq, hi, hh, hno, hpr⟩ | ⟨hno, hpr⟩
    · rw [stp_add] at hi
      have hpr' : t.probe (fun i => (es[i]?.map (·.1)).getD 0) (hk P w k) (st.getD (t.probeStart (hk P w k))) = some (.candidate (stp t (hk P w k) (c + q)).j i (stp t (hk P w k) (c + (q + 1)))) := by
        rw [hst, ← stp_add, ← stp_add]
        exact hpr
      rw [hpr']
      dsimp only
      have hil : i < L.length := by
        have h1 : i < t.place.toList.length := (List.getElem?_eq_some_iff.mp hi).1
        rw [Array.length_toList, R.places] at h1
        exact h1
      obtain ⟨p, hp⟩ : ∃ p, L[i]? = some p := ⟨_, List.getElem?_eq_getElem hil⟩
      have hpt := R.mem p (List.mem_of_getElem? hp)
      have live : t.slot (stp t (hk P w k) (c + q)).j = .live i := slot_live R.tab.ris hi
      have rest : wpAny (model P w) A (searchRest a (.ref x) (hk P w k) adding f es t (stp t (hk P w k) (c + q)).j i (stp t (hk P w k) (c + (q + 1)))) Q E s := by
        unfold searchRest
        rw [R.row hp]
        dsimp only
        refine wpAny_bind (wpAny_holding (wpAny_eqBool_tuple hu hpt hx ?_))
        refine wpAny_bind (wpAny_setState_of ho hd R.fits ?_)
        dsimp only
        by_cases hkk : p.2 = k
        · have hm : k ∈ L.map (·.2) := List.mem_map.mpr ⟨p, List.mem_of_getElem? hp, hkk⟩
          cases adding with
          | true => exact wp_if_pos (by simp [hkk]) (wpAny_pure (hin hm _ (fun _ => rfl) (fun z => nomatch z)))
          | false =>
            refine wp_if_neg (by simp) ?_
            rw [sameMem]
            dsimp only
            simp only [if_true, live, R.row hp]
            refine wpAny_bind (wpAny_isSame_ref_self (wpAny_bind (wpAny_pure ?_)))
            simp only [if_true]
            exact wp_if_pos (by simp [hkk]) (wpAny_pure (hin hm _ (fun z => nomatch z) (fun _ => rfl)))
        · refine wp_if_neg (by simp [hkk]) ?_
          rw [sameMem]
          dsimp only
          simp only [if_true, live, R.row hp]
          refine wpAny_bind (wpAny_isSame_ref_self (wpAny_bind (wpAny_pure ?_)))
          simp only [if_true]
          refine wp_if_neg (by simp [hkk]) ?_
          refine ih (c + (q + 1)) _ rfl (by omega) (by omega) fun i0 p0 h0 hk0 => ?_
          obtain ⟨c', a1, a2, a3⟩ := hre i0 p0 h0 hk0
          refine ⟨c', ?_, a2, a3⟩
          rcases Nat.lt_trichotomy c' (c + q) with z | z | z
          · refine absurd (found i0 p0 h0 hk0) (hno (c' - c) i0 (by omega) ?_)
            rw [stp_add, show c + (c' - c) = c' by omega]
            exact a3
          · rw [z] at a3
            have := slot_live R.tab.ris a3
            rw [show t.slot (way t.mask (hk P w k) (c + q)) = .live i from live] at this
            cases this
            rw [hp] at h0
            cases h0
            exact absurd hk0 hkk
          · omega
      by_cases hl : t.led = true
      · exact wp_if_neg (by simp [hl]) rest
      · refine wp_if_pos (by simp [hl]) (wpAny_bind (unseen hx (fun y hy => ?_) (wp_if_neg (by decide) rest)))
        obtain ⟨e, he, rfl⟩ := List.mem_map.mp hy
        have he2 : e ∈ es.toList := by
          have : e ∈ es ∧ e.1 = hk P w k := by simpa using he
          simpa using this.1
        rw [R.rows] at he2
        obtain ⟨p2, hp2, rfl⟩ := List.mem_map.mp he2
        exact ⟨p2.2, p2.1, rfl, R.mem p2 hp2⟩
    · have hpr' : t.probe (fun i => (es[i]?.map (·.1)).getD 0) (hk P w k) (st.getD (t.probeStart (hk P w k))) = some (.empty (stp t (hk P w k) K).j none) := by
        rw [hst]
        have := hpr
        rw [stp_add, hcK] at this
        exact this
      rw [hpr']
      refine wpAny_pure (hout fun hm => ?_)
      obtain ⟨p0, h0, hk0⟩ := List.mem_map.mp hm
      obtain ⟨i0, h00⟩ := List.mem_iff_getElem?.mp h0
      obtain ⟨c', a1, a2, a3⟩ := hre i0 p0 h00 hk0
      refine absurd (found i0 p0 h00 hk0) (hno (c' - c) i0 (by omega) ?_)
      rw [stp_add, show c + (c' - c) = c' by omega]
      exact a3
theorem srch (R : TS P w s.heap a L es ep t) {x : Addr} {k : List Key} (hx : IsK P w s.heap k x) (hu : A.units < cLine) (adding : Bool) {Q : SetFound → Shared → Prop}
    (hin : k ∈ L.map (·.2) → ∀ r, (adding = true → r = none) → (adding = false → r.isSome = true) → Q (.there r) s)
    (hout : k ∉ L.map (·.2) → ∀ K, way t.mask (hk P w k) K ∉ t.place.toList → (∀ c, c < K → way t.mask (hk P w k) c ∈ t.place.toList) → Q (.free (way t.mask (hk P w k) K) false) s) :
    wpAny (model P w) A (setSearch a (.ref x) (hk P w k) adding) Q E s := by
  have hroom := R.room
  obtain ⟨K, hKf, hK, hKb⟩ := R.tab.first (by rw [List.length_map]; omega) (hk P w k)
  have hbig : K < 100000 := by
    have : 10 * SetTable.turns t.mask ≤ 1420 := by
      unfold SetTable.turns
      rcases R.tab.mok with e | e | e <;> omega
    omega
  unfold setSearch
  refine srch_go R hx hu adding hKf hK hKb hin (fun z => hout z K hK hKb) 100000 0 none rfl (Nat.zero_le _) (by omega) fun i p hp e => ?_
  have hi : (L.map fun p => hk P w p.2)[i]? = some (hk P w k) := by rw [List.getElem?_map, hp, ← e]; rfl
  obtain ⟨j, hj⟩ : ∃ j, t.place.toList[i]? = some j := ⟨_, List.getElem?_eq_getElem (by
    rw [Array.length_toList, R.places]
    exact (List.getElem?_eq_some_iff.mp hp).1)⟩
  obtain ⟨c, hc, ec⟩ := R.tab.before hK hi hj
  exact ⟨c, Nat.zero_le _, hc, by rw [hj, ec]⟩
end
end ST
end Bt
namespace Bt
namespace ST
open PySem PySem.Spec PyProof.Rows L2
/-! ### a tuple put into a set of tuples -/
section
variable {α β : Type}
theorem range_pick (L : List α) : (List.range L.length).filterMap (fun i => L[i]?) = L := by
  have go : ∀ n, n ≤ L.length → (List.range n).filterMap (fun i => L[i]?) = L.take n := fun n => by
    induction n with
    | zero => exact fun _ => rfl
    | succ n ih =>
      intro hn
      rw [List.range_succ, List.filterMap_append, ih (by omega), List.take_add_one]
      congr 1
  rw [go _ (Nat.le_refl _), List.take_length]
theorem pick_perm (L : List α) {ord : List Nat} (h : ord.Perm (List.range L.length)) : (ord.filterMap fun i => L[i]?).Perm L := by
  have := h.filterMap (fun i => L[i]?)
  rwa [range_pick] at this
theorem pick_map (L : List α) (g : α → β) (ord : List Nat) : (ord.filterMap fun i => (L.map g)[i]?) = (ord.filterMap fun i => L[i]?).map g := by
  rw [List.map_filterMap]
  congr 1
  funext i
  rw [List.getElem?_map]
theorem pick_getD (L : List α) (g : α → β) (z : β) : ∀ ord : List Nat, (∀ i ∈ ord, i < L.length) → (ord.map fun i => (L.map g).getD i z) = (ord.filterMap fun i => L[i]?).map g
  | [], _ => rfl
  | i :: ord, h => by
    have hi := h i List.mem_cons_self
    rw [List.map_cons, pick_getD L g z ord fun j hj => h j (List.mem_cons_of_mem _ hj), List.filterMap_cons_some (List.getElem?_eq_getElem hi), List.map_cons]
    congr 1
    rw [List.getD_eq_getElem?_getD, List.getElem?_map, List.getElem?_eq_getElem hi]
    rfl
theorem ins_perm (L : List α) (p : Nat) (x : α) : (L.take p ++ x :: L.drop p).Perm (x :: L) := by
  refine List.perm_middle.trans ?_
  rw [List.take_append_drop]
end
section
variable {P : Program} {w : World} {A : Around} {E : Value → Shared → Prop} {s : Shared} {a : Addr} {L : List (Addr × List Key)} {es : Array (Int × Value)} {ep : Nat} {t : SetTable}
theorem key_same {h h' : Heap} {k : List Key} {b : Addr} {o : Obj} (hb : IsK P w h k b) (ho : h.get? a = some o) (hd : o.data = .set es ep t) (hs : Heap.SameBut a h h') : IsK P w h' k b := by
  obtain ⟨o', items, n, h1, h2, h3, h4⟩ := hb
  refine ⟨o', items, n, (hs.2 b fun z => ?_).trans h1, h2, h3, h4⟩
  rw [z, ho] at h1
  cases h1
  rw [hd] at h3
  cases h3
theorem relay {o : Obj} (ho : s.heap.get? a = some o) (hex : o.ExactSet) (hd : o.data = .set es ep t) (hrows : es.toList = L.map fun p => (hk P w p.2, Value.ref p.1)) (hsz : t.place.size = es.size) (hdm : t.dummies = #[]) (hfl : es.size ≤ t.mask)
    (nd : (L.map (·.2)).Nodup) (mem : ∀ p ∈ L, IsK P w s.heap p.2 p.1) (few : L.length < 64) {wanted M : Nat}
    (hw : SetTable.sizeAbove wanted - 1 = M) (hM : MaskOk M) (hw2 : SetTable.sizeAbove wanted ≤ 128) (hn : L.length * 5 < M * 3) {Q : Unit → Shared → Prop}
    (hQ : ∀ h' L' es' ep' t', Heap.SameBut a s.heap h' → TS P w h' a L' es' ep' t' → L'.Perm L → Q () { s with heap := h' }) : wpAny (model P w) A (setRelay a wanted) Q E s := by
  have hsl : es.size = L.length := by rw [← Array.length_toList, hrows, List.length_map]
  have fits : t.fits es.size = true := by
    unfold SetTable.fits SetTable.fill
    rw [hdm, Bool.and_eq_true, beq_iff_eq, decide_eq_true_eq]
    exact ⟨hsz, by show t.place.size + 0 ≤ t.mask; omega⟩
  obtain ⟨t', order, e, hp, T, em, _, _, ed⟩ := relaid_ok t (hs := es.map (·.1)) (wanted := wanted) hw hM (by rw [Array.size_map, hsl]; omega)
  rw [Array.size_map, hsl] at hp
  have pm := pick_perm L hp
  have r1 : (order.filterMap (es[·]?)).toList = (order.toList.filterMap fun i => L[i]?).map fun p => (hk P w p.2, Value.ref p.1) := by
    rw [Array.toList_filterMap, ← pick_map, ← hrows]
    congr 1
    funext i
    rw [Array.getElem?_toList]
  have r3 : (order.toList.map fun i => (es.map (·.1)).getD i 0) = (order.toList.filterMap fun i => L[i]?).map fun p => hk P w p.2 := by
    rw [← pick_getD L (fun p => hk P w p.2) 0 order.toList fun i hi => List.mem_range.mp (hp.mem_iff.mp hi)]
    congr 1
    funext i
    have ee : es.map (·.1) = (L.map fun p => hk P w p.2).toArray := by
      apply Array.toList_inj.mp
      rw [Array.toList_map, hrows, List.map_map]
      rfl
    rw [ee]
    simp [Array.getD_eq_getD_getElem?, List.getD_eq_getElem?_getD]
  rw [r3] at T
  have hs2 : (order.filterMap (es[·]?)).size = es.size := by
    rw [← Array.length_toList, r1, List.length_map, pm.length_eq, hsl]
  rw [setRelay_eq]
  refine wpAny_bind (wpAny_setState_of ho hd fits ?_)
  dsimp only
  refine wp_if_neg (by rw [sizeLine_eq]; omega) ?_
  rw [e]
  dsimp only
  refine wpAny_bind (wp_if_neg (by rw [hs2]; simp) ?_)
  refine wpAny_pure ?_
  dsimp only
  refine wpAny_storeSet_of ho hd ?_ (by rw [hs2, hsl, sizeLine_eq]; omega)
  have sb : Heap.SameBut a s.heap (s.heap.update a (Obj.putSet (order.filterMap (es[·]?)) t')) := Heap.SameBut.update ..
  refine hQ _ _ _ (ep + 1) t' sb ⟨⟨_, store_at ho hd, ⟨hex.1, hex.2.1, hex.2.2⟩, rfl⟩, r1, T, (pm.map (·.2)).nodup_iff.mpr nd, fun p hpm => key_same (mem p (pm.mem_iff.mp hpm)) ho hd sb, ?_, ?_⟩ pm
  · rw [pm.length_eq, em]
    exact hn
  · rw [pm.length_eq]
    exact few
theorem put_in (R : TS P w s.heap a L es ep t) {x : Addr} {k : List Key} (hx : IsK P w s.heap k x) (hu : A.units < cLine) (few : L.length + 1 < 64) {Q : Bool → Shared → Prop}
    (hQ : ∀ b h' L' es' ep' t', Heap.SameBut a s.heap h' → TS P w h' a L' es' ep' t' → (k ∈ L.map (·.2) → L' = L) → (k ∉ L.map (·.2) → L'.Perm ((x, k) :: L)) → Q b { s with heap := h' }) :
    wpAny (model P w) A (setAddHashed a (.ref x) (hk P w k)) Q E s := by
  obtain ⟨o, ho, hex, hd⟩ := R.ob
  have hsl := R.size
  have hroom := R.room
  unfold setAddHashed
  refine wpAny_holding ?_
  rw [show (100000 : Nat) = 99999 + 1 from rfl, setAddHashedIn_succ]
  refine wpAny_bind (wpAny_setState_of ho hd R.fits ?_)
  dsimp only
  refine wp_if_neg (by simp [byScan, Value.scannable]) ?_
  refine wpAny_bind (srch R hx hu true (fun hm r hr _ => ?_) fun hm K hK hb => ?_)
  · exact wpAny_pure (hQ false s.heap L es ep t (Heap.SameBut.refl a s.heap) R (fun _ => rfl) fun z => absurd hm z)
  · dsimp only
    refine wpAny_bind (wpAny_setState_of ho hd R.fits ?_)
    dsimp only
    obtain ⟨q1, q2, q3, q4, _, _, _, _, q9⟩ := R.tab.put hK hb
    generalize hpt : t.put (way t.mask (hk P w k) K) = pt at q1 q3 q4 q9 ⊢
    obtain ⟨t1, p⟩ := pt
    dsimp only at q1 q3 q4 q9 ⊢
    subst q1
    have hrow : (SetTable.insertAt es (SetTable.below t.place (way t.mask (hk P w k) K)) (hk P w k, Value.ref x)).toList = (L.take (SetTable.below t.place (way t.mask (hk P w k) K)) ++ (x, k) :: L.drop (SetTable.below t.place (way t.mask (hk P w k) K))).map fun p => (hk P w p.2, Value.ref p.1) := by
      rw [SetTable.toList_insertAt, R.rows, List.map_append, List.map_cons, List.map_take, List.map_drop]
    have hmid : (L.map fun p => hk P w p.2).take (SetTable.below t.place (way t.mask (hk P w k) K)) ++ hk P w k :: (L.map fun p => hk P w p.2).drop (SetTable.below t.place (way t.mask (hk P w k) K)) =
        (L.take (SetTable.below t.place (way t.mask (hk P w k) K)) ++ (x, k) :: L.drop (SetTable.below t.place (way t.mask (hk P w k) K))).map fun p => hk P w p.2 := by
      rw [List.map_append, List.map_cons, List.map_take, List.map_drop]
    rw [hmid] at q3
    have pm := ins_perm L (SetTable.below t.place (way t.mask (hk P w k) K)) (x, k)
    generalize hes1 : SetTable.insertAt es (SetTable.below t.place (way t.mask (hk P w k) K)) (hk P w k, Value.ref x) = es1 at hrow ⊢
    generalize L.take (SetTable.below t.place (way t.mask (hk P w k) K)) ++ (x, k) :: L.drop (SetTable.below t.place (way t.mask (hk P w k) K)) = L1 at pm hrow q3
    have len : L1.length = L.length + 1 := pm.length_eq
    have size1 : es1.size = L.length + 1 := by rw [← Array.length_toList, hrow, List.length_map, len]
    have nd1 : (L1.map (·.2)).Nodup := (pm.map (·.2)).nodup_iff.mpr (by rw [List.map_cons]; exact List.nodup_cons.mpr ⟨hm, R.nd⟩)
    have after : ∀ t2 : SetTable, TabOk t2 (L1.map fun p => hk P w p.2) → t2.mask = t.mask → t2.fill = L.length + 1 → wpAny (model P w) A (do
        storeSet a es1 t2
        if (!false && t2.tooFull) = true then do
            setRelay a (SetTable.grown (es.size + 1))
            pure true
          else pure true) Q E s := fun t2 T2 m2 f2 => by
      refine wpAny_bind (wpAny_storeSet_of ho hd ?_ (by rw [size1, sizeLine_eq]; omega))
      have sb : Heap.SameBut a s.heap (s.heap.update a (Obj.putSet es1 t2)) := Heap.SameBut.update ..
      have ho1 := store_at (es' := es1) (t' := t2) ho hd
      generalize s.heap.update a (Obj.putSet es1 t2) = h1 at sb ho1 ⊢
      have mem1 : ∀ p ∈ L1, IsK P w h1 p.2 p.1 := fun p hp => by
        rcases List.mem_cons.mp (pm.mem_iff.mp hp) with rfl | hp
        · exact key_same hx ho hd sb
        · exact key_same (R.mem p hp) ho hd sb
      by_cases hf : t2.tooFull = true
      · refine wp_if_pos (by simp [hf]) (wpAny_bind ?_)
        have full : (L.length + 1) * 5 ≥ t2.mask * 3 := by
          have h := hf
          unfold SetTable.tooFull at h
          rw [decide_eq_true_eq, f2] at h
          exact h
        have hsz1 : t2.place.size = es1.size := by rw [T2.sz, List.length_map, len, size1]
        rw [hsl]
        have two : (t.mask = 7 ∧ L.length = 4) ∨ (t.mask = 31 ∧ L.length = 18) := by
          rcases R.tab.mok with e | e | e <;> rw [m2, e] at full <;> rw [e] at hroom <;> omega
        have go : ∀ M, SetTable.sizeAbove (SetTable.grown (L.length + 1)) - 1 = M → MaskOk M → SetTable.sizeAbove (SetTable.grown (L.length + 1)) ≤ 128 → (L.length + 1) * 5 < M * 3 →
            wpAny (model P w) A (setRelay a (SetTable.grown (L.length + 1))) (fun _ s' => wpAny (model P w) A (pure true) Q E s') E { s with heap := h1 } := fun M z1 z2 z3 z4 => by
          refine relay (s := { s with heap := h1 }) ho1 ⟨hex.1, hex.2.1, hex.2.2⟩ rfl hrow hsz1 T2.dm (by rw [size1, m2]; rcases two with ⟨e, e2⟩ | ⟨e, e2⟩ <;> omega) nd1 mem1 (by rw [len]; exact few) z1 z2 z3 (by rw [len]; exact z4) ?_
          exact fun h2 L2 es2 ep2 t3 sb2 R2 pm2 => wpAny_pure (hQ true h2 L2 es2 ep2 t3 (sb.trans sb2) R2 (fun z => absurd z hm) fun _ => pm2.trans pm)
        rcases two with ⟨_, e2⟩ | ⟨_, e2⟩
        · exact go 31 (by rw [e2, size_20]) (.inr (.inl rfl)) (by rw [e2, size_20]; decide) (by omega)
        · exact go 127 (by rw [e2, size_76]) (.inr (.inr rfl)) (by rw [e2, size_76]; decide) (by omega)
      · refine wp_if_neg (by simp [hf]) (wpAny_pure (hQ true h1 L1 es1 (ep + 1) t2 sb ⟨⟨_, ho1, ⟨hex.1, hex.2.1, hex.2.2⟩, rfl⟩, hrow, T2, nd1, mem1, ?_, by rw [len]; exact few⟩ (fun z => absurd z hm) fun _ => pm))
        have h := hf
        unfold SetTable.tooFull at h
        rw [decide_eq_true_eq, f2] at h
        rw [len]
        omega
    have f1 : t1.fill = L.length + 1 := by rw [q9, List.length_map]
    have q3' : TabOk { t1 with plain := false } (L1.map fun p => hk P w p.2) := ⟨q3.ris, q3.dm, q3.sz, q3.mok, q3.bd, q3.reach⟩
    by_cases hpl : t1.plain = true
    · refine wp_if_pos hpl (wpAny_bind (byValue_key hx fun c => ?_))
      cases c
      · exact after _ q3' q4 f1
      · exact after _ q3 q4 f1
    · exact wp_if_neg hpl (wpAny_bind (wpAny_pure (after _ q3 q4 f1)))
/-- the set at a, its members told by their places; that these hold the tuples is told apart -/
def TS0 (P : Program) (w : World) (h : Heap) (a : Addr) (L : List (Addr × List Key)) : Prop := ∃ (es : Array (Int × Value)) (ep : Nat) (t : SetTable), (∃ o, h.get? a = some o ∧ o.ExactSet ∧ o.data = .set es ep t) ∧ (es.toList = L.map fun p => (hk P w p.2, Value.ref p.1)) ∧
  TabOk t (L.map fun p => hk P w p.2) ∧ (L.map (·.2)).Nodup ∧ L.length * 5 < t.mask * 3 ∧ L.length < 64
theorem TS.bare {h : Heap} (R : TS P w h a L es ep t) : TS0 P w h a L := ⟨es, ep, t, R.ob, R.rows, R.tab, R.nd, R.room, R.few⟩
theorem TS0.full {h : Heap} (R : TS0 P w h a L) (m : ∀ p ∈ L, IsK P w h p.2 p.1) : ∃ es ep t, TS P w h a L es ep t := let ⟨es, ep, t, h1, h2, h3, h4, h5, h6⟩ := R; ⟨es, ep, t, h1, h2, h3, h4, m, h5, h6⟩
def SetKO (P : Program) (w : World) (a : Addr) (L : List (Addr × List Key)) : HO := .ext fun h => TS0 P w h a L
theorem setKO_new {H : Hp} {h : Heap} (R : TS0 P w h a L) : ObjOk P w H h a (SetKO P w a L) := by
  refine ⟨R, ?_, fun h1 h2 x k => ?_⟩
  · obtain ⟨_, _, _, ⟨o, ho, _⟩, _⟩ := R
    exact ⟨o, ho⟩
  · obtain ⟨es, ep, t, ⟨o, ho, r⟩, r2⟩ := x
    exact ⟨es, ep, t, ⟨o, k o ho, r⟩, r2⟩
theorem fresh_set {h : Heap} : TS0 P w (h.push { cls := .type "set", dict := none, data := .set #[] 0 (.fresh 0 0 (!w.params.followText "set-order")) }) h.objs.size [] := by
  refine ⟨#[], 0, _, ⟨_, Heap.get?_push_size _ rfl, ⟨rfl, rfl, rfl⟩, rfl⟩, rfl, ⟨List.Pairwise.nil, rfl, rfl, .inl rfl, fun x hx => (by cases hx), fun i h j hi => (by simp at hi)⟩, List.nodup_nil, ?_, by decide⟩
  show 0 * 5 < 7 * 3
  decide
end
section
variable {X : Cx} {pins : List (Addr × Obj)} {σ : L2.St} {H : Hp} {s : Shared} {E : Value → Shared → Prop}
/-- the members are tracked -/
def Mem (H : Hp) (L : List (Addr × List Key)) : Prop := ∀ p ∈ L, H p.1 = some (.tup (p.2.map kV))
theorem set_get {a : Addr} {L : List (Addr × List Key)} (I : Inv X pins σ H s) (ha : H a = some (SetKO X.prog X.w a L)) (m : Mem H L) : ∃ es ep t, TS X.prog X.w s.heap a L es ep t := (I.hok a _ ha).1.full fun p hp => key_of I.hok (m p hp)
theorem set_add {D b : Addr} {L : List (Addr × List Key)} {k : List Key} {Q : Value → Shared → Prop} (I : Inv X pins σ H s) (hu : X.A.units + 2 < cLine) (hD : H D = some (SetKO X.prog X.w D L)) (m : Mem H L) (hb : H b = some (.tup (k.map kV))) (few : L.length + 1 < 64)
    (h : ∀ s' L', (k ∈ L.map (·.2) → L' = L) → (k ∉ L.map (·.2) → L'.Perm ((b, k) :: L)) → Inv X pins σ (upd H D (SetKO X.prog X.w D L')) s' → Q .none s') : wpAny (model X.prog X.w) X.A (call (.builtin "set.add") [.ref D, .ref b]) Q E s := by
  obtain ⟨es, ep, t, R⟩ := set_get I hD m
  obtain ⟨o, ho, hex, hd⟩ := id R.ob
  have ty : s.TypeIs (.ref D) "set" := ⟨o, ho, hex.1⟩
  refine wpAny_call_entry F.slot_set_add ty F.entry_set_add ?_ (F.args_set_add_2 _ _)
  unfold Builtin.«set.add» Builtin.Frozenset.oneOther
  simp only [List.isEmpty_nil, bind_assoc]
  unfold Builtin.Frozenset.addrOf setAdd
  refine wpAny_bind (wpAny_pure ?_)
  try dsimp only
  refine wpAny_bind (wpAny_pure ?_)
  try dsimp only
  refine wpAny_bind (wpAny_holding ?_)
  refine wpAny_bind ((tupleKind (mixKind X.prog X.w)).pyHash (k := k) ?_ (key_of I.hok hb) ?_)
  · show X.A.in1.units < cLine
    simp only [Around.in1]
    omega
  refine put_in (s := { s with toks := s.toks + (tupleKind (mixKind X.prog X.w)).draws k }) R (key_of I.hok hb) ?_ few fun b' h' L' es' ep' t' sb R' c1 c2 => ?_
  · show X.A.in1.units < cLine
    simp only [Around.in1]
    omega
  show wpAny _ _ (ret Value.none) _ _ _
  have he : ∃ u, h'.get? D = some u := by
    obtain ⟨o', ho', _⟩ := R'.ob
    exact ⟨o', ho'⟩
  exact wpAny_pure ⟨_, rfl, h _ L' c1 c2 (I.write (e := D) (t' := s.toks + (tupleKind (mixKind X.prog X.w)).draws k) (by rw [hD]; trivial) (.inl rfl) (fun b u hb hu => (sb.2 b hb).trans hu) he (setKO_new R'.bare))⟩
end
end ST
end Bt
namespace Bt
namespace ST
open PySem PySem.Spec PyProof.Rows L2
/-! ### {k for .. in ..}, k a tuple of texts; its length -/
/-- what one turn gives: a tuple put in -/
def addK (P : Program) (w : World) (D : Addr) (y : V) (H : Hp) (N : Hp → Prop) : Prop := ∃ (b : Addr) (k : List Key) (L : List (Addr × List Key)), y = .ref b ∧ H b = some (.tup (k.map kV)) ∧ H D = some (SetKO P w D L) ∧ Mem H L ∧ L.length + 1 < 64 ∧
  ∀ L', (k ∈ L.map (·.2) → L' = L) → (k ∉ L.map (·.2) → L'.Perm ((b, k) :: L)) → N (upd H D (SetKO P w D L'))
def tScK (P : Program) (w : World) (wi : TI) (g : TG) (tt : TT) (te : TE) (vs : List Nat) : TE := fun σ H Q => wi σ H fun J H1 => ∀ D, H1 D = none → ∃ W : Nat → Nat → Hp → Prop, (∃ m, W 0 m (upd H1 D (SetKO P w D []))) ∧ ∀ i m H, W i m H →
  (J.stop i H ∧ Q (.ref D) H) ∨ (J.go i H ∧ ∃ Nx : Hp → Prop, (∀ H', Nx H' → ∃ m', m' < m ∧ W (i + 1) m' H') ∧ ∀ x H', J.yld i H x H' → g x (wipe σ vs) H' fun σ2 H2 => wipe σ2 vs = wipe σ vs ∧ tt σ2 H2 fun b H3 =>
    if b = true then te σ2 H3 fun y H4 => addK P w D y H4 Nx else Nx H3)
section
variable {X : Cx}
theorem addK_ok {X' : Cx} {pins : List (Addr × Obj)} {σ : L2.St} {H : Hp} {s : Shared} {D : Addr} {y : V} {u : Value} {N : Hp → Prop} {E : Value → Shared → Prop} {Q : Value → Shared → Prop} (I : Inv X' pins σ H s) (hu : X'.A.units + 2 < cLine) (r : RelV y u) (h : addK X'.prog X'.w D y H N)
    (q : ∀ s' H', Inv X' pins σ H' s' → N H' → Q .none s') : wpAny (model X'.prog X'.w) X'.A (call (.builtin "set.add") [.ref D, u]) Q E s := by
  obtain ⟨b, k, L, rfl, hb, hD, m, few, n⟩ := h
  cases r
  exact set_add I hu hD m hb few fun s' L' c1 c2 I' => q s' _ I' (n L' c1 c2)
theorem scK_run {pins : List (Addr × Obj)} {σ : L2.St} {Q : VK} {elt tg iter : Expr} {ifs : List Expr} {scope : Scope} {own : List (Str × Nat)} {pos : Pos} {g : TG} {tt : TT} {te : TE} {J : It} {fp : List Addr} {it D : Addr} {tn : Nat → Heap → Prop} {s3 : Shared} {H3 : Hp} {W : Nat → Nat → Hp → Prop} {m0 : Nat}
    (hc : X.calm = true) (hu : X.A.units + 2 < cLine) (hN : X.N.Nodup) (ok : BlkOk X.N X.env.scope scope own)
    (hg : ∀ (s : Shared) (H : Hp) (C : Addr) (cl : List (Str × Addr)) (fp : List Addr), PG (X.blk s H scope (compEnvC scope cl C X.env) fp) tg g) (ht : ∀ (s : Shared) (H : Hp) (C : Addr) (cl : List (Str × Addr)) (fp : List Addr), PTs (X.blk s H scope (compEnvC scope cl C X.env) fp) ifs tt)
    (he : ∀ (s : Shared) (H : Hp) (C : Addr) (cl : List (Str × Addr)) (fp : List Addr), PE (X.blk s H scope (compEnvC scope cl C X.env) fp) elt te)
    (T : Turn X.prog X.w X.K tg J fp it tn) (I3 : Inv X pins σ H3 s3) (f3 : ∀ b ∈ fp, FpOk X pins H3 b ∧ b < s3.heap.objs.size) (st3 : tn 0 s3.heap) (w0 : W 0 m0 H3)
    (turn : ∀ i m H, W i m H → (J.stop i H ∧ Q (.ref D) H) ∨ (J.go i H ∧ ∃ Nx : Hp → Prop, (∀ H', Nx H' → ∃ m', m' < m ∧ W (i + 1) m' H') ∧ ∀ x H', J.yld i H x H' → g x (wipe σ (own.map (·.2))) H' fun σ2 H2 => wipe σ2 (own.map (·.2)) = wipe σ (own.map (·.2)) ∧ tt σ2 H2 fun b H3 =>
      if b = true then te σ2 H3 fun y H4 => addK X.prog X.w D y H4 Nx else Nx H3)) :
    codeAny (model X.prog X.w) X.A (.compStart (.SetComp elt [⟨tg, iter, ifs, 0⟩] scope pos) 0 (.ref it) (.ref D) (compEnvC scope (cellsFrom (s3.heap.objs.size + 1) scope.names (cloFrom X.env.cells scope.names [])) s3.heap.objs.size X.env))
      (compPost (model X.prog X.w) X.A X.xe none (EP X pins σ Q) (.ref D) s3.heap.objs.size) { s3 with heap := pushCells (s3.heap.push { cls := .type "dict", data := .dict #[] }) scope.names } := by
  have I4 := block_start I3 ok hN f3
  obtain ⟨cells, hcells⟩ : ∃ c, c = cellsFrom (s3.heap.objs.size + 1) scope.names (cloFrom X.env.cells scope.names []) := ⟨_, rfl⟩
  rw [← hcells] at I4 ⊢
  have pg := hg s3 H3 s3.heap.objs.size cells fp
  have pt := ht s3 H3 s3.heap.objs.size cells fp
  have pe := he s3 H3 s3.heap.objs.size cells fp
  have cL : (compEnvC scope cells s3.heap.objs.size X.env).locals = s3.heap.objs.size := rfl
  generalize compEnvC scope cells s3.heap.objs.size X.env = ce at I4 pg pt pe cL ⊢
  have st4 : tn 0 ({ s3 with heap := pushCells (s3.heap.push { cls := .type "dict", data := .dict #[] }) scope.names } : Shared).heap := T.keep _ _ (pushCells (s3.heap.push { cls := .type "dict", data := .dict #[] }) scope.names) st3 fun b _ o e => pushCells_keeps _ _ _ _ (Heap.get?_push_of_some _ e)
  have own' : ∀ {σ' : L2.St} {H' : Hp} {s' : Shared}, Inv (X.blk s3 H3 scope ce fp) [] σ' H' s' → (∀ b ∈ fp, H' b = none) → ∀ b ∈ fp, FpOk (X.blk s3 H3 scope ce fp) [] H' b := fun I' hn b hb =>
    ⟨hn b hb, (I'.ok.exf b hb).1, I'.ok.exfs b hb, .inl hb, fun x c e => (I'.ok.exf b hb).2 x c e, fun p hp => nomatch hp⟩
  generalize ({ s3 with heap := pushCells (s3.heap.push { cls := .type "dict", data := .dict #[] }) scope.names } : Shared) = s4 at I4 st4 ⊢
  have nofp : ∀ b ∈ fp, H3 b = none := fun b hb => (f3 b hb).1.1
  have loop : codeAny (model X.prog X.w) X.A (.compLoop (.SetComp elt [⟨tg, iter, ifs, 0⟩] scope pos) 0 (.ref it) (.ref D) ce) (compPost (model X.prog X.w) X.A X.xe none (EP X pins σ Q) (.ref D) s3.heap.objs.size) s4 := by
    refine PpSet.compLoopS_any (fun n s' => ∃ i H', Inv (X.blk s3 H3 scope ce fp) [] (wipe σ (own.map (·.2))) H' s' ∧ tn i s'.heap ∧ (∀ b ∈ fp, H' b = none) ∧ W i n H') ?_ m0 ⟨0, H3, I4, st4, nofp, w0⟩
    rintro n s5 ⟨i, H5, I5, st5, n5, w5⟩
    rcases turn i n H5 w5 with ⟨stop, qq⟩ | ⟨go, Nx, hNx, step⟩
    · refine thnF (T.done (X.blk s3 H3 scope ce fp) rfl rfl rfl hc i [] s5 _ H5 (fun _ _ => False) I5 (own' I5 n5) st5 stop) fun r s6 ⟨hr, I6⟩ => ?_
      subst hr
      have I7 : Inv X pins σ H5 s6 := I3.call' (ch := fp) I6.os I6.base I6.hok I6.bare fun b hb => ⟨(f3 b hb).1.2.2.2.1, (f3 b hb).1.2.1, (f3 b hb).1.2.2.2.2.1, (f3 b hb).1.2.2.2.2.2⟩
      have nC : H5 s3.heap.objs.size = none := cL ▸ (show H5 ce.locals = none from I6.free)
      obtain ⟨m, hn, _⟩ := I6.loc
      have hn' : s6.heap.Ns s3.heap.objs.size m := cL ▸ (show s6.heap.Ns ce.locals m from hn)
      obtain ⟨f0, f1, f2, f4, f5, f6⟩ := I3.fpOk (Nat.le_refl _) nC
      exact ⟨m, hn', fun h'' sb => ⟨.ref D, H5, I7.turned (t' := s6.toks) (fun b o hb e => (sb.2 b hb).trans e) f0 f1 f4 f5 f6, rfl, qq⟩⟩
    · refine thnF (T.item (X.blk s3 H3 scope ce fp) rfl rfl rfl hc i [] s5 _ H5 (fun _ _ => False) I5 (own' I5 n5) st5 go) fun r s6 ⟨u, hr, h6⟩ => ?_
      subst hr
      refine thnF h6 fun _ s7 ⟨x, H7, I7, r7, y7, st7, n7⟩ => ?_
      have I7' := I7.pinned (own' I7 n7) (T.obj _ _ st7)
      refine thnF (pg.run _ s7 _ H7 x u _ I7' r7 (step x H7 y7)) fun _ s8 ⟨σ8, H8, I8, hw8, q8⟩ => ?_
      refine thnF (pt.run _ s8 σ8 H8 _ I8 q8) fun b s9 ⟨H9, I9, q9⟩ => ?_
      have fin : ∀ {s' : Shared} {H' : Hp}, Inv (X.blk s3 H3 scope ce fp) ([] ++ pinsAt fp s7.heap) σ8 H' s' → Nx H' → ∃ m, m < n ∧ ∃ i H', Inv (X.blk s3 H3 scope ce fp) [] (wipe σ (own.map (·.2))) H' s' ∧ tn i s'.heap ∧ (∀ b ∈ fp, H' b = none) ∧ W i m H' := fun {s' H'} I' nx => by
        obtain ⟨m', hm, w'⟩ := hNx H' nx
        have pin : ∀ b ∈ fp, ∀ o, s7.heap.get? b = some o → s'.heap.get? b = some o ∧ H' b = none := fun b hb o e =>
          let z := I'.pin (b, o) (List.mem_append_right _ (List.mem_append_right _ (mem_pinsAt hb e)))
          ⟨z.1, z.2.1⟩
        refine ⟨m', hm, i + 1, H', (I'.unpinned (pins := [])).weak (by rw [← hw8, wipe_length]) (fun j v e => (wipe_some (hw8 ▸ e)).1), T.keep _ _ _ st7 fun b hb o e => (pin b hb o e).1, fun b hb => ?_, w'⟩
        obtain ⟨o, e, _⟩ := T.obj _ _ st7 b hb
        exact (pin b hb o e).2
      cases b with
      | false =>
        simp only [Bool.false_eq_true, if_false] at q9 ⊢
        exact fin I9 q9
      | true =>
        simp only [if_true] at q9 ⊢
        exact thnF (pe.run _ s9 σ8 H9 _ I9 q9) fun z s10 ⟨yv, H10, I10, r10, ad⟩ => addK_ok (X' := X.blk s3 H3 scope ce fp) I10 hu r10 ad fun s11 H11 I11 nx => fin I11 nx
  exact PpSet.codeAny_compStart_set loop (T.self X.A 0 _ _ _ st4 loop)
theorem pe_scK {elt tg iter : Expr} {ifs : List Expr} {scope : Scope} {own : List (Str × Nat)} {pos : Pos} {wi : TI} {g : TG} {tt : TT} {te : TE} (hc : X.calm = true) (hu : X.A.units + 2 < cLine) (hN : X.N.Nodup) (hi : PI X tg iter wi) (ok : BlkOk X.N X.env.scope scope own)
    (hg : ∀ (s : Shared) (H : Hp) (C : Addr) (cl : List (Str × Addr)) (fp : List Addr), PG (X.blk s H scope (compEnvC scope cl C X.env) fp) tg g) (ht : ∀ (s : Shared) (H : Hp) (C : Addr) (cl : List (Str × Addr)) (fp : List Addr), PTs (X.blk s H scope (compEnvC scope cl C X.env) fp) ifs tt)
    (he : ∀ (s : Shared) (H : Hp) (C : Addr) (cl : List (Str × Addr)) (fp : List Addr), PE (X.blk s H scope (compEnvC scope cl C X.env) fp) elt te) (hs : ∀ x, foldedSetIterable iter X.env x = pure x := by intro _; rfl) :
    PE X (.SetComp elt [⟨tg, iter, ifs, 0⟩] scope pos) (tScK X.prog X.w wi g tt te (own.map (·.2))) := by
  refine ⟨fun pins s σ H Q I h => ?_⟩
  rw [PpSet.eval_SetComp]
  have known : ∀ y ∈ scope.names, y.2 = .free → ∃ c, X.env.cells.lookup y.1 = some c := fun y hy e => I.ok.has _ (ok.free y hy e)
  refine wpAny_comprehension_free (use := none) rfl hs (closure_ok known) ok.kind (fun y hy e => by rw [ok.uniq y hy, e]) (thn (hi.run pins s σ H _ I h) fun xv s1 hx => thn hx fun itv s2 ⟨it, fp, tn, J, H2, ei, I2, T, st2, f2, q⟩ => ?_)
  subst ei
  refine PpSet.newSet_ok (newEnv_comp ?_)
  have hDn : H2 s2.heap.objs.size = none := I2.hok.fresh (Nat.le_refl _)
  obtain ⟨W, ⟨m0, w0⟩, turn⟩ := q _ hDn
  have I3 : Inv X pins σ (upd H2 s2.heap.objs.size (SetKO X.prog X.w s2.heap.objs.size [])) { s2 with heap := s2.heap.push { cls := .type "set", dict := none, data := .set #[] 0 (.fresh 0 0 (!X.w.params.followText "set-order")) } } :=
    I2.laid (t' := s2.toks) (fun b o e => Heap.get?_push_of_some _ e) (Nat.le_refl _) (setKO_new fresh_set)
  have f3 : ∀ b ∈ fp, FpOk X pins (upd H2 s2.heap.objs.size (SetKO X.prog X.w s2.heap.objs.size [])) b ∧ b < (s2.heap.push { cls := .type "set", dict := none, data := .set #[] 0 (.fresh 0 0 (!X.w.params.followText "set-order")) }).objs.size := fun b hb => by
    obtain ⟨o, e, _⟩ := T.obj _ _ st2 b hb
    have lt := Heap.lt_size e
    refine ⟨⟨by rw [upd_ne (Nat.ne_of_lt lt)]; exact (f2 b hb).1, (f2 b hb).2⟩, by rw [Heap.size_push]; exact Nat.lt_succ_of_lt lt⟩
  have st3 := T.keep _ _ (s2.heap.push { cls := .type "set", dict := none, data := .set #[] 0 (.fresh 0 0 (!X.w.params.followText "set-order")) }) st2 fun b _ o e => Heap.get?_push_of_some _ e
  exact scK_run (pos := pos) hc hu hN ok hg ht he T I3 f3 st3 w0 turn
end
end ST
end Bt
namespace Bt
namespace ST
open PySem PySem.Spec PyProof.Rows L2
/-! ### sets of tuples: len, in, reading lemmas -/
def rLenK (P : Program) (w : World) : List V → Hp → VK → Prop := fun xs H Q => ∃ (a : Addr) (L : List (Addr × List Key)), xs = [V.ref a] ∧ H a = some (SetKO P w a L) ∧ Q (.int L.length) H
theorem call_lenK {X : Cx} : CallR X (.builtin "len") (rLenK X.prog X.w) := by
  intro pins s σ H xs us Q I r h
  obtain ⟨a, L, rfl, ha, q⟩ := h
  obtain ⟨u, rfl, ru⟩ := vals1 r
  cases ru
  obtain ⟨es, ep, t, ⟨o, ho, hx, hd⟩, rows, tab, nd, room, few⟩ := (I.hok a _ ha).1
  have size : es.size = L.length := by rw [← Array.length_toList, rows, List.length_map]
  have fits : t.fits es.size = true := by
    have h1 := tab.sz
    rw [List.length_map] at h1
    unfold SetTable.fits SetTable.fill
    rw [tab.dm, Bool.and_eq_true, beq_iff_eq, decide_eq_true_eq]
    exact ⟨by omega, by show t.place.size + 0 ≤ t.mask; omega⟩
  exact call_len_set ho hx hd fits (by omega) ⟨.int L.length, H, I.tok _, ⟨_, by rw [size]⟩, q⟩
theorem hasK_iff {L : List (Addr × List Key)} {k : List Key} : (L.any fun p => decide (p.2 = k)) = true ↔ k ∈ L.map (·.2) := by
  rw [List.any_eq_true, List.mem_map]
  exact ⟨fun ⟨p, h, e⟩ => ⟨p, h, of_decide_eq_true e⟩, fun ⟨p, h, e⟩ => ⟨p, h, decide_eq_true e⟩⟩
def hasK (L : List (Addr × List Key)) (k : List Key) : Bool := L.any fun p => decide (p.2 = k)
/-- k in s, k not in s -/
def rInK (P : Program) (w : World) (f : Bool → Bool) : R2 := fun x y H Q => ∃ (b a : Addr) (k : List Key) (L : List (Addr × List Key)), x = .ref b ∧ y = .ref a ∧ H b = some (.tup (k.map kV)) ∧ H a = some (SetKO P w a L) ∧ Mem H L ∧ Q (.bl (f (hasK L k))) H
theorem has_ok {X : Cx} {pins : List (Addr × Obj)} {σ : L2.St} {H : Hp} {s : Shared} {E : Value → Shared → Prop} {a b : Addr} {k : List Key} {L : List (Addr × List Key)} {Q : Value → Shared → Prop} (I : Inv X pins σ H s) (hu : X.A.units + 3 < cLine) (hb : H b = some (.tup (k.map kV))) (ha : H a = some (SetKO X.prog X.w a L)) (m : Mem H L)
    (f : Bool → Bool) (h : ∀ tk, Q (.bool (f (hasK L k))) { s with toks := tk }) : wpAny (model X.prog X.w) X.A (do return .bool (f (← contains (.ref a) (.ref b)))) Q E s := by
  obtain ⟨es, ep, t, R⟩ := set_get I ha m
  obtain ⟨o, ho, hex, hd⟩ := id R.ob
  have ty : s.TypeIs (.ref a) "set" := ⟨o, ho, hex.1⟩
  refine wpAny_bind ?_
  unfold contains
  try with_reducible refine wpAny_holding ?_
  refine wpAny_bind (wpAny_specialOf ty F.slot_set_contains.lookup ?_)
  show wpAny _ _ (if (some (Value.builtin "set.__contains__") == some Value.none) = true then _ else _) _ E s
  rw [if_neg (by rw [beq_builtin_none]; exact Bool.false_ne_true)]
  refine wpAny_bind (wpAny_callSpecialUnlessNone?_slot (name := Str.ofString "__contains__") ty F.slot_set_contains
    (wpAny_call_entry F.slot_set_contains ty entry_set_contains ?_ (F.args_set_contains_2 _ _)))
  unfold Builtin.«frozenset.__contains__» Builtin.Frozenset.oneOther
  simp only [List.isEmpty_nil, bind_assoc]
  unfold Builtin.Frozenset.addrOf Builtin.Frozenset.withSetAsKey setContains
  refine wpAny_bind (wpAny_pure ?_)
  try dsimp only
  refine wpAny_bind (wpAny_pure ?_)
  try dsimp only
  refine wpAny_bind (wpAny_tryCatch ?_)
  refine wpAny_holding ?_
  refine wpAny_bind ((tupleKind (mixKind X.prog X.w)).pyHash (k := k) ?_ (key_of I.hok hb) ?_)
  · show X.A.in1.units < cLine
    simp only [Around.in1]
    omega
  unfold setFind
  rw [show (100000 : Nat) = 99999 + 1 from rfl]
  unfold setFindIn
  refine wpAny_bind (wpAny_bind (wpAny_setState_of ho hd R.fits ?_))
  dsimp only
  refine wp_if_neg (by simp [byScan, Value.scannable]) ?_
  have fin : ∀ (r : Option Nat), r.isSome = hasK L k → wpAny (model X.prog X.w) X.A.in1 (ret (Value.bool r.isSome)) (fun fin s' => ∃ v, fin = .done (.ret v) ∧ wpAny (model X.prog X.w) X.A (truthy v) (fun c s'' => wpAny (model X.prog X.w) X.A (pure (.bool (f c))) Q E s'') E s') E { s with toks := s.toks + (tupleKind (mixKind X.prog X.w)).draws k } := fun r e => by
    rw [e]
    exact wpAny_pure ⟨_, rfl, wpAny_truthy_bool (wpAny_pure (h _))⟩
  refine wpAny_bind (srch (s := { s with toks := s.toks + (tupleKind (mixKind X.prog X.w)).draws k }) R (key_of I.hok hb) ?_ false (fun hm r _ hr => ?_) fun hm K _ _ => ?_)
  · show X.A.in1.units < cLine
    simp only [Around.in1]
    omega
  · refine wpAny_pure ?_
    exact wpAny_pure (fin r (by rw [hr rfl]; exact (hasK_iff.mpr hm).symm))
  · refine wpAny_pure ?_
    exact wpAny_pure (fin none (by
      show false = hasK L k
      cases e : hasK L k with
      | false => rfl
      | true => exact absurd (hasK_iff.mp e) hm))
theorem op_inK {X : Cx} (hu : X.A.units + 3 < cLine) : OpR X (compareOp .In) (rInK X.prog X.w id) := by
  intro pins s σ H x y v u Q I rx ry h
  obtain ⟨b, a, k, L, rfl, rfl, hb, ha, m, q⟩ := h
  cases rx
  cases ry
  exact has_ok I hu hb ha m id fun tk => ⟨.bl (hasK L k), H, I.tok tk, rfl, q⟩
theorem op_notinK {X : Cx} (hu : X.A.units + 3 < cLine) : OpR X (compareOp .NotIn) (rInK X.prog X.w not) := by
  intro pins s σ H x y v u Q I rx ry h
  obtain ⟨b, a, k, L, rfl, rfl, hb, ha, m, q⟩ := h
  cases rx
  cases ry
  exact has_ok I hu hb ha m not fun tk => ⟨.bl (!hasK L k), H, I.tok tk, rfl, q⟩
/-- {.. for x in a list} -/
theorem s_scK {P : Program} {w : World} {wi : TI} {g : TG} {tt : TT} {te : TE} {vs : List Nat} {σ : L2.St} {H : Hp} {Q : VK} (h : wi σ H fun J H1 => ∀ D, H1 D = none → ∃ W : Nat → Nat → Hp → Prop, (∃ m, W 0 m (upd H1 D (SetKO P w D []))) ∧ ∀ i m H, W i m H →
  (J.stop i H ∧ Q (.ref D) H) ∨ (J.go i H ∧ ∃ Nx : Hp → Prop, (∀ H', Nx H' → ∃ m', m' < m ∧ W (i + 1) m' H') ∧ ∀ x H', J.yld i H x H' → g x (wipe σ vs) H' fun σ2 H2 => wipe σ2 vs = wipe σ vs ∧ tt σ2 H2 fun b H3 =>
    if b = true then te σ2 H3 fun y H4 => addK P w D y H4 Nx else Nx H3)) : tScK P w wi g tt te vs σ H Q := h
theorem sc_listK {P : Program} {w : World} {K : PySem.W.Frag} {a : Addr} {xs : List V} {g : TG} {tt : TT} {te : TE} {vs : List Nat} {σ : L2.St} {H1 : Hp} {D : Addr} {Qd : Hp → Prop} (Pv : Nat → Hp → Prop) (h0 : Pv 0 (upd H1 D (SetKO P w D []))) (hl : ∀ i H, i ≤ xs.length → Pv i H → SqL K H a xs)
    (hs : ∀ i x H, xs[i]? = some x → Pv i H → g x (wipe σ vs) H fun σ2 H2 => wipe σ2 vs = wipe σ vs ∧ tt σ2 H2 fun b H3 => if b = true then te σ2 H3 fun y H4 => addK P w D y H4 (Pv (i + 1)) else Pv (i + 1) H3) (hd : ∀ H, Pv xs.length H → Qd H) :
    ∃ W : Nat → Nat → Hp → Prop, (∃ m, W 0 m (upd H1 D (SetKO P w D []))) ∧ ∀ i m H, W i m H →
      ((Itl K a).stop i H ∧ Qd H) ∨ ((Itl K a).go i H ∧ ∃ Nx : Hp → Prop, (∀ H', Nx H' → ∃ m', m' < m ∧ W (i + 1) m' H') ∧ ∀ x H', (Itl K a).yld i H x H' → g x (wipe σ vs) H' fun σ2 H2 => wipe σ2 vs = wipe σ vs ∧ tt σ2 H2 fun b H3 =>
        if b = true then te σ2 H3 fun y H4 => addK P w D y H4 Nx else Nx H3) := by
  refine ⟨fun i m H => m = xs.length - i ∧ i ≤ xs.length ∧ Pv i H, ⟨xs.length, by simp, Nat.zero_le _, h0⟩, ?_⟩
  rintro i m H ⟨rfl, hi, p⟩
  have q := hl i H hi p
  by_cases hlt : i < xs.length
  · refine .inr ⟨⟨xs, xs[i], q, by simp [hlt]⟩, Pv (i + 1), fun H' p' => ⟨xs.length - (i + 1), by omega, rfl, hlt, p'⟩, fun x H' y => ?_⟩
    obtain ⟨rfl, y⟩ := y
    exact hs i x _ (y xs q) p
  · have e : i = xs.length := by omega
    subst e
    exact .inl ⟨⟨xs, q, Nat.le_refl _⟩, hd H p⟩
end ST
end Bt
namespace Bt
namespace ST
open PySem PySem.Spec PyProof.Rows L2
/-! ### set(xs), the items tuples of texts -/
section
variable {P : Program} {w : World} {A : Around} {E : Value → Shared → Prop} {s : Shared}
theorem IsK.keep {h h' : Heap} {k : List Key} {b : Addr} (x : IsK P w h k b) (kp : ∀ c o, h.get? c = some o → h'.get? c = some o) : IsK P w h' k b := let ⟨o, items, n, ho, r⟩ := x; ⟨o, items, n, kp b o ho, r⟩
theorem TS.keep {h h' : Heap} {a : Addr} {L : List (Addr × List Key)} {es : Array (Int × Value)} {ep : Nat} {t : SetTable} (R : TS P w h a L es ep t) (ha : ∀ o, h.get? a = some o → h'.get? a = some o) (hm : ∀ p ∈ L, IsK P w h' p.2 p.1) : TS P w h' a L es ep t :=
  ⟨let ⟨o, ho, r⟩ := R.ob; ⟨o, ha o ho, r⟩, R.rows, R.tab, R.nd, hm, R.room, R.few⟩
/-- the members behind i items -/
structure Seen (ks : List (Addr × List Key)) (i : Nat) (L : List (Addr × List Key)) : Prop where
  sub : ∀ q ∈ L, q ∈ ks.take i
  all : ∀ q ∈ ks.take i, q.2 ∈ L.map (·.2)
  len : L.length ≤ i
  nd : L.length = i ↔ ((ks.take i).map (·.2)).Nodup
theorem Seen.old {ks L : List (Addr × List Key)} {i : Nat} {x : Addr × List Key} (g : Seen ks i L) (hx : ks[i]? = some x) (hm : x.2 ∈ L.map (·.2)) : Seen ks (i + 1) L := by
  have tk : ks.take (i + 1) = ks.take i ++ [x] := by rw [List.take_add_one, hx]; rfl
  refine ⟨fun p hp => by rw [tk]; exact List.mem_append_left _ (g.sub p hp), fun p hp => ?_, Nat.le_succ_of_le g.len, ⟨fun e => absurd g.len (by omega), fun n => ?_⟩⟩
  rw [tk, List.mem_append, List.mem_singleton] at hp
  rcases hp with hp | rfl
  · exact g.all p hp
  · exact hm
  · rw [tk, List.map_append] at n
    obtain ⟨p, mp, ep⟩ := List.mem_map.mp hm
    exact absurd rfl ((List.nodup_append.mp n).2.2 p.2 (List.mem_map.mpr ⟨p, g.sub p mp, rfl⟩) x.2 (by simp) |> fun z => ep ▸ z)
theorem Seen.new {ks L L' : List (Addr × List Key)} {i : Nat} {x : Addr × List Key} (g : Seen ks i L) (hx : ks[i]? = some x) (hm : x.2 ∉ L.map (·.2)) (pm : L'.Perm (x :: L)) : Seen ks (i + 1) L' := by
  have tk : ks.take (i + 1) = ks.take i ++ [x] := by rw [List.take_add_one, hx]; rfl
  refine ⟨fun p hp => ?_, fun p hp => ?_, by rw [pm.length_eq]; exact Nat.succ_le_succ g.len, ?_⟩
  · rw [tk, List.mem_append, List.mem_singleton]
    rcases List.mem_cons.mp (pm.mem_iff.mp hp) with e | hp
    · exact .inr e
    · exact .inl (g.sub p hp)
  · rw [(pm.map (·.2)).mem_iff, List.map_cons, List.mem_cons]
    rw [tk, List.mem_append, List.mem_singleton] at hp
    rcases hp with hp | rfl
    · exact .inr (g.all p hp)
    · exact .inl rfl
  · rw [pm.length_eq, List.length_cons, tk, List.map_append, List.nodup_append, ← g.nd]
    refine ⟨fun e => ⟨by omega, by simp, fun a ha b hb e => ?_⟩, fun e => by omega⟩
    obtain ⟨p, mp, rfl⟩ := List.mem_map.mp ha
    rw [List.map_singleton, List.mem_singleton] at hb
    rw [hb] at e
    exact hm (e ▸ g.all p mp)
theorem upd_keys {it : Addr} {fp wr : List Addr} {G : Array GenState → Array GenState → Prop} {n : Nat} {Pv : Nat → Value → Prop} {St : Nat → Shared → Prop} {R : Result → Shared → Prop} (W : WalksS P w A.in1 it fp wr G n Pv St) (D : Addr) (nD : D ∉ fp)
    (ks : List (Addr × List Key)) (en : n = ks.length) (few : ks.length < 64) (val : ∀ i v, Pv i v → ∃ p, ks[i]? = some p ∧ v = .ref p.1) (h0 : Heap) (hk0 : ∀ p ∈ ks, IsK P w h0 p.2 p.1) (hD0 : h0.get? D = none) (hw0 : ∀ b ∈ wr, h0.get? b = none) (hu : A.in1.units < cLine) :
    ∀ (m i : Nat) (s : Shared), n - i = m → i ≤ n → St i s → (∀ b o, h0.get? b = some o → s.heap.get? b = some o) → (∃ L es ep t, TS P w s.heap D L es ep t ∧ Seen ks i L) →
      (∀ s' L es ep t, Moved (D :: wr) G s s' → TS P w s'.heap D L es ep t → Seen ks n L → (∀ b o, h0.get? b = some o → s'.heap.get? b = some o) → R (.ok (.ret .none)) s') → codeAny (model P w) A (.builtin "set.update.loop" ⟨[.ref D, .ref it], []⟩) R s := by
  have nDw : D ∉ wr := fun z => nD (W.sub _ z)
  have kpM : ∀ {u u' : Shared}, Moved wr G u u' → (∀ b o, h0.get? b = some o → u.heap.get? b = some o) → ∀ b o, h0.get? b = some o → u'.heap.get? b = some o := fun mv kp b o e => mv.heap b o (fun z => by rw [hw0 b z] at e; cases e) (kp b o e)
  have up : ∀ b ∈ wr, b ∈ D :: wr := fun b z => List.mem_cons_of_mem _ z
  intro m
  induction m with
  | zero =>
    rintro i s hm hi st kp ⟨L, es, ep, t, hT, g⟩ hR
    obtain rfl : i = n := by omega
    refine codeAny_builtin (b := Builtin.«set.update.loop») F.entry_set_update_loop ?_; rw [Around.under_plainId F.plain_set_update_loop _]
    refine wpAny_bind (m := pyNext (.ref it)) (W.done s _ _ st fun s' mv => ?_)
    have kp' := kpM mv kp
    exact wpAny_pure (hR s' L es ep t (mv.mono up) (hT.keep (fun o e => mv.heap D o nDw e) fun p hp => IsK.keep (hk0 p (List.mem_of_mem_take (g.sub p hp))) kp') g kp')
  | succ m ih =>
    rintro i s hm hi st kp ⟨L, es, ep, t, hT, g⟩ hR
    have lt : i < n := by omega
    refine codeAny_builtin (b := Builtin.«set.update.loop») F.entry_set_update_loop ?_; rw [Around.under_plainId F.plain_set_update_loop _]
    refine wpAny_bind (m := pyNext (.ref it)) (W.item i s _ _ lt st fun v s' pv st' mv => ?_)
    obtain ⟨p, hp, rfl⟩ := val i v pv
    have kp' := kpM mv kp
    have hT' : TS P w s'.heap D L es ep t := hT.keep (fun o e => mv.heap D o nDw e) fun q hq => IsK.keep (hk0 q (List.mem_of_mem_take (g.sub q hq))) kp'
    have hx : IsK P w s'.heap p.2 p.1 := IsK.keep (hk0 p (List.mem_of_getElem? hp)) kp'
    refine wpAny_bind (m := holding [Value.ref p.1] (setAdd D (.ref p.1))) (wpAny_holding ?_)
    unfold setAdd
    refine wpAny_holding (wpAny_bind ((tupleKind (mixKind P w)).pyHash (k := p.2) hu hx ?_))
    refine put_in (s := { s' with toks := s'.toks + (tupleKind (mixKind P w)).draws p.2 }) hT' hx hu (by have := g.len; omega) fun b h' L' es' ep' t' sb hT2 c1 c2 => ?_
    have g' : Seen ks (i + 1) L' := (Classical.em (p.2 ∈ L.map (·.2))).elim (fun c => by rw [c1 c]; exact g.old hp c) fun c => g.new hp c (c2 c)
    have kp2 : ∀ b o, h0.get? b = some o → h'.get? b = some o := fun b o e => (sb.2 b fun z => by rw [z, hD0] at e; cases e).trans (kp' b o e)
    refine wpAny_pure ⟨plainId_quiet F.plain_set_update_loop _, ih (i + 1) _ (by omega) lt (W.frame _ s' _ _ st' (Nat.le_add_right _ _) fun b hb o e => (sb.2 b fun z => nD (z ▸ hb)).trans e) kp2 ⟨L', es', ep', t', hT2, g'⟩ fun s'' L2 es2 ep2 t2 mv2 hT3 g2 kp3 => ?_⟩
    exact hR s'' L2 es2 ep2 t2 (Moved.trans W.gtrans ((mv.mono up).then_heap (Nat.le_add_right _ _) fun b o hb e => (sb.2 b fun z => hb (z ▸ List.mem_cons_self)).trans e) mv2) hT3 g2 kp3
theorem newSet {h : Heap} (ho : h.get? s.heap.objs.size = some { cls := .type "set", dict := none, data := .set #[] 0 (.fresh 0 0 (!w.params.followText "set-order")) }) : TS P w h s.heap.objs.size [] #[] 0 (.fresh 0 0 (!w.params.followText "set-order")) where
  ob := ⟨_, ho, ⟨rfl, rfl, rfl⟩, rfl⟩
  rows := rfl
  tab := ⟨.nil, rfl, rfl, .inl rfl, (fun _ z => by cases z), fun i h j hi => by simp at hi⟩
  nd := .nil
  mem := fun _ z => by cases z
  room := by show 0 * 5 < 7 * 3; decide
  few := by show 0 < 64; decide
theorem set_of_list {l : Addr} {its : Array Value} (ks : List (Addr × List Key)) {Q : Value → Shared → Prop} (hh : A.handled = none) (hl : s.heap.IsList l its) (ei : its.toList = ks.map fun p => Value.ref p.1) (hk : ∀ p ∈ ks, IsK P w s.heap p.2 p.1) (few : ks.length < 64) (hu : A.units + 3 < cLine)
    (h : ∀ (h' : Heap) (tk : Nat) L es ep t, TS P w h' s.heap.objs.size L es ep t → Seen ks ks.length L → (∀ b o, s.heap.get? b = some o → h'.get? b = some o) → Q (.ref s.heap.objs.size) { s with heap := h', toks := tk }) : wpAny (model P w) A (call (.type "set") [.ref l]) Q E s := by
  have hz : its.size = ks.length := by rw [← Array.length_toList, ei, List.length_map]
  obtain ⟨c, tl, hmro⟩ := F.called_set.mro
  have f1 := F.called_set.made; have f2 := F.called_set.sub; have f3 := F.called_set.notType; have f4 := F.called_set.canCreate
  have f5 := F.typeCall_set_1 (.ref l)
  refine wpAny_call (codeAny_of_tree (show wpAny _ _ (callAny (.type "set") _) _ _ _ from wpAny_pure ⟨Code.quiet_builtin _ (by decide +kernel), codeAny_builtin F.entry_type_call ?_⟩))
  rw [Around.under_plain (weight_type_call_type "set" [.ref l] []) rfl]
  repeat (any_goals (first | assumption | wp_step))
  obtain ⟨N, eN⟩ : ∃ N : Heap, N = s.heap.push { cls := .type "set", dict := none, data := .set #[] 0 (.fresh 0 0 (!w.params.followText "set-order")) } := ⟨_, rfl⟩
  have zN : N.objs.size = s.heap.objs.size + 1 := by rw [eN]; exact Heap.size_push ..
  have oN : ∀ b o, s.heap.get? b = some o → N.get? b = some o := fun b o e => by rw [eN]; exact Heap.get?_push_of_some _ e
  have hD : N.get? s.heap.objs.size = some { cls := .type "set", dict := none, data := .set #[] 0 (.fresh 0 0 (!w.params.followText "set-order")) } := by rw [eN]; exact Heap.get?_push_size _ rfl
  have gone : ∀ b, s.heap.objs.size ≤ b → s.heap.get? b = none := fun b hb => by
    cases e : s.heap.get? b with
    | none => rfl
    | some o => exact absurd (Heap.lt_size e) (Nat.not_lt.mpr hb)
  refine codeAny_mono (code_set_led1 (.ref l) (E := E) (Q₁ := fun obj s₁ => obj = .ref s.heap.objs.size ∧ s₁ = { s with heap := N }) (by rw [eN]; exact ⟨rfl, rfl⟩)) fun r s1 hr => ?_
  rcases r with e | fl
  · exact hr
  cases fl with
  | next => exact hr.elim
  | brk => exact hr.elim
  | cont => exact hr.elim
  | ret obj =>
  obtain ⟨rfl, rfl⟩ := hr
  have ty : Shared.TypeIs { s with heap := N } (.ref s.heap.objs.size) "set" := ⟨_, hD, rfl⟩
  have g1 := F.called_set.init.lookup; have g2 := F.called_set.init.bind (.ref s.heap.objs.size)
  repeat (any_goals (first | assumption | wp_step))
  refine codeAny_mono (codeAny_call_builtin (R := wants (fun r s₂ => r = .none ∧ ∃ h' tk L es ep t, s₂ = { s with heap := h', toks := tk } ∧ TS P w h' s.heap.objs.size L es ep t ∧ Seen ks ks.length L ∧ ∀ b o, s.heap.get? b = some o → h'.get? b = some o) E) F.called_set.init.plain F.entry_set_init (check_set_init_1 ty ?_)) fun r s2 hr => ?_
  · obtain ⟨⟨cl, od, da, sl⟩, ho, ec, nl, ed⟩ := hl
    simp only at ec ed
    subst ec ed
    have ho1 := oN _ _ ho
    have q1 := F.sub_list_set; have q2 := F.sub_list_frozenset; have q3 : (Value.type "list" == Value.type "dict") = false := by decide
    have il : N.IsList l its := ⟨_, ho1, rfl, nl, rfl⟩
    unfold Builtin.«set.__init__» noKeywords Builtin.Frozenset.updateFrom
    generalize ePI : pyIter = PI
    wp_walk
    subst ePI
    refine wpAny_pyIter_list il (wpAny_bind (wpAny_runValue ?_))
    have lt := Heap.lt_size ho
    have lN : l ≠ N.objs.size := by rw [zN]; exact Nat.ne_of_lt (Nat.lt_succ_of_lt lt)
    have dN : s.heap.objs.size ∉ [N.objs.size, l] := by
      rw [zN]
      simp only [List.mem_cons, List.not_mem_nil, or_false, not_or]
      exact ⟨Nat.ne_of_lt (Nat.lt_succ_self _), Nat.ne_of_gt lt⟩
    have val : ∀ (i : Nat) (v : Value), its[i]? = some v → ∃ p, ks[i]? = some p ∧ v = .ref p.1 := fun i v hv => by
      rw [← Array.getElem?_toList, ei, List.getElem?_map] at hv
      obtain ⟨p, hp, e⟩ := Option.map_eq_some_iff.mp hv
      exact ⟨p, hp, e.symm⟩
    refine upd_keys ((Walks.list (by simp [hh]) _ l lN its).toS) s.heap.objs.size dN ks hz few val s.heap hk (gone _ (Nat.le_refl _)) (fun b hb => gone b (by rw [List.mem_singleton.mp hb, zN]; exact Nat.le_succ _)) hu (its.size - 0) 0 _ (by omega) (Nat.zero_le _)
      ⟨⟨_, Heap.get?_push_size _ rfl, rfl, rfl⟩, il.push _⟩ (fun b o e => Heap.get?_push_of_some _ (oN b o e)) ⟨[], #[], 0, _, newSet (Heap.get?_push_of_some _ hD), (fun _ z => by cases z), (fun p z => by simp at z), Nat.le_refl _, by simp⟩ fun s' L es ep t mv hT g kp => ?_
    obtain ⟨h', g', d', tk, os'⟩ := s'
    obtain rfl : g' = s.gens := mv.gens
    obtain rfl : d' = s.drawn := mv.drawn
    obtain rfl : os' = s.os := mv.os
    rw [hz] at g
    exact wpAny_pure (wpAny_pure ⟨rfl, h', tk, L, es, ep, t, rfl, hT, g, kp⟩)
  · rcases r with e | fl
    · exact hr
    cases fl with
    | next => exact hr.elim
    | brk => exact hr.elim
    | cont => exact hr.elim
    | ret obj =>
      obtain ⟨rfl, h', tk, L, es, ep, t, rfl, hT, g, kp⟩ := hr
      repeat (any_goals (first | assumption | wp_step))
      exact h _ _ _ _ _ _ hT g kp
end
def rSetK (K : PySem.W.Frag) (P : Program) (w : World) : List V → Hp → VK → Prop := fun vs H Q => ∃ (a : Addr) (ks : List (Addr × List Key)), vs = [.ref a] ∧ SqL K H a (ks.map fun p => V.ref p.1) ∧ (∀ p ∈ ks, H p.1 = some (.tup (p.2.map kV))) ∧ ks.length < 64 ∧
  ∀ D L, H D = none → Seen ks ks.length L → (L.map (·.2)).Nodup → Q (.ref D) (upd H D (SetKO P w D L))
theorem refs_eq : ∀ {ks : List (Addr × List Key)} {us : List Value}, Vals (ks.map fun p => V.ref p.1) us → us = ks.map fun p => Value.ref p.1
  | [], _, h => by cases h; rfl
  | p :: ks, _, h => by
    cases h with
    | cons h r =>
      cases h
      rw [refs_eq r]
      rfl
theorem cr_setK {X : Cx} (hc : X.calm = true) (hu : X.A.units + 64 < cLine) : CallR X (.type "set") (rSetK X.K X.prog X.w) := by
  intro pins s σ H vs us Q I r h
  obtain ⟨a, ks, rfl, ha, hk, few, q⟩ := h
  rw [Vals.ref1 r]
  obtain ⟨its, rv, hl, hz⟩ := I.list ha
  refine set_of_list ks (I.ok.hd hc) hl.isList (by rw [← refs_eq rv]) (fun p hp => key_of I.hok (hk p hp)) few (by omega) fun h' tk L es ep t R g kp => ?_
  have nD : H s.heap.objs.size = none := I.hok.fresh (Nat.le_refl _)
  refine ⟨V.ref s.heap.objs.size, _, I.laid (t' := tk) kp (Nat.le_refl _) (setKO_new R.bare), rfl, q _ L nD g R.nd⟩
theorem q_setK {K : PySem.W.Frag} {P : Program} {w : World} {H : Hp} {Q : VK} {a : Addr} (ks : List (Addr × List Key)) (ha : SqL K H a (ks.map fun p => V.ref p.1)) (hk : ∀ p ∈ ks, H p.1 = some (.tup (p.2.map kV))) (few : ks.length < 64)
    (q : ∀ D H' L, H D = none → Same H H' → H' D = some (SetKO P w D L) → Seen ks ks.length L → (L.map (·.2)).Nodup → Q (.ref D) H') : rSetK K P w [.ref a] H Q := ⟨a, ks, rfl, ha, hk, few, fun D L n g nd => q D _ L n (Same.new n) upd_same g nd⟩
end ST
end Bt
namespace Bt
open PySem PySem.Spec PyProof.Rows L2 LamX NdefX
open PySem.W (dataLt dataLe alike AllAlike Sortable)
theorem words91_ : True := by
  k_with "s_C16" => first
    | ((with_reducible refine' s_var ?hv ?_); (case hv => exact rfl))
    | with_reducible first
      | refine' s_c ?_ | refine' s_op ?_ | refine' s_asg ?_ | refine' s_gname ?_ | refine' s_seq ?_ | refine' s_next ?_ | refine' s_ret ?_ | refine' s_ifS ?_ | refine' s_drop ?_ | refine' s_retN ?_ | refine' s_test ?_ | refine' s_B ?_ | refine' q_test ?_ | refine' s_int ?_ | refine' s_cons ?_ | refine' s_nil ?_ | refine' s_call ?_ | refine' s_CB ?_ | refine' s_andT ?_ | refine' s_orT ?_ | refine' s_notT ?_ | refine' s_andV ?_ | refine' s_orV ?_ | refine' s_notV ?_ | refine' s_ifV ?_ | refine' s_chain ?_ | refine' s_sl ?_ | refine' s_noPart ?_ | refine' s_part ?_ | refine' s_gsub ?_ | refine' s_BM ?_ | refine' s_tup ?_ | refine' s_lst ?_ | refine' q_add ?_ | refine' q_sub ?_ | refine' q_lt ?_ | refine' q_le ?_ | refine' q_gt ?_ | refine' q_ge ?_ | refine' s_ifT ?_ | refine' s_ifF ?_ | refine' s_yes ?_ | refine' s_iStr ?_ | refine' s_M0 ?_ | refine' s_for ?_ | refine' s_rng1 ?_ | refine' s_par ?_ | refine' s_gcons ?_ | refine' s_gnil ?_ | refine' s_iList ?_ | refine' s_iEnum ?_ | refine' s_raise1 ?_
      | (refine' q_mod ?hm ?_; (case hm => first | omega | decide))
    | dsimp only
  k_with "r_C16" => repeat (k_extra "s_C16")
  trivial
/-! ### changes -/
abbrev Plc : Type := Str × Str
inductive Ch where
  | add (p : Plc)
  | take (p : Plc)
  | ren (p q : Plc)
def Ch.wd : Ch → Str
  | .add _ => "add"
  | .take _ => "take"
  | .ren _ _ => "rename"
def Ch.pcs : Ch → List Plc
  | .add p => [p]
  | .take p => [p]
  | .ren p q => [p, q]
def Ch.gs : Ch → Option Plc
  | .add _ => none
  | .take p => some p
  | .ren p _ => some p
def Ch.cs : Ch → Option Plc
  | .add p => some p
  | .take _ => none
  | .ren _ q => some q
abbrev GC : Type := Int × Ch
def NmP (q : Plc) : Prop := Nm q.1 ∧ Nm q.2
/-- the change z stands in H -/
def ChAt (H : Hp) (x : V) (z : GC) : Prop := ∃ t ys, x = .ref t ∧ H t = some (.tup (.int z.1 :: .str z.2.wd :: ys)) ∧ Pls H ys z.2.pcs
theorem ChAt.mono {H H' : Hp} {x : V} {z : GC} (S : Same H H') : ChAt H x z → ChAt H' x z := fun ⟨t, ys, e, h, p⟩ => ⟨t, ys, e, S _ _ h, p.mono S⟩
theorem ChAt.nl {H H' : Hp} {x : V} {z : GC} (N : NL H H') : ChAt H x z → ChAt H' x z := fun ⟨t, ys, e, h, p⟩ => ⟨t, ys, e, N _ _ h (fun _ z => by cases z), p.nl N⟩
abbrev ChsAt (H : Hp) : List V → List GC → Prop := Paired (ChAt H)
theorem ChsAt.mono {H H' : Hp} {xs : List V} {zs : List GC} (S : Same H H') (h : ChsAt H xs zs) : ChsAt H' xs zs := Paired.mapP h fun _ _ z => z.mono S
theorem ChsAt.nl {H H' : Hp} {xs : List V} {zs : List GC} (N : NL H H') (h : ChsAt H xs zs) : ChsAt H' xs zs := Paired.mapP h fun _ _ z => z.nl N
theorem Paired.get {α β : Type} {R : α → β → Prop} {xs : List α} {zs : List β} (h : Paired R xs zs) : ∀ {i : Nat} {x : α}, xs[i]? = some x → ∃ z, zs[i]? = some z ∧ R x z := by
  induction h with
  | nil => intro i x e; simp at e
  | cons h _ ih =>
    intro i x e
    cases i with
    | zero => cases Option.some.inj e; exact ⟨_, rfl, h⟩
    | succ i =>
      obtain ⟨z, m, p⟩ := ih (i := i) (by simpa using e)
      exact ⟨z, by simpa using m, p⟩
theorem Paired.snoc {α β : Type} {R : α → β → Prop} {xs : List α} {zs : List β} {x : α} {z : β} (h : Paired R xs zs) (r : R x z) : Paired R (xs ++ [x]) (zs ++ [z]) := by
  induction h with
  | nil => exact .cons r .nil
  | cons h _ ih => exact .cons h ih
/-- a place, or None -/
def OpAt (H : Hp) (y : V) : Option Plc → Prop
  | none => y = .non
  | some p => PlAt H y p
theorem OpAt.mono {H H' : Hp} {y : V} {o : Option Plc} (S : Same H H') (h : OpAt H y o) : OpAt H' y o := by
  cases o with
  | none => exact h
  | some p => exact PlAt.mono S h
structure TxtC16 (K : PySem.W.Frag) (mg : Str → Option Value) : Prop where
  d_pl : Df K mg "is_place_list" s_is_place_list ["value"]
  d_ic : Df K mg "is_change" s_is_change ["value"]
  d_goes : Df K mg "goes" s_goes ["change"]
  d_comes : Df K mg "comes" s_comes ["change"]
  d_poss : Df K mg "is_possible" s_is_possible ["change", "standing"]
  d_carry : Df K mg "carry_out" s_carry_out ["change", "standing"]
  d_opp : Df K mg "opposite" s_opposite ["change", "gap"]
section
variable {P : Program} {w : World} {K : PySem.W.Frag} {mg : Str → Option Value} {base : Heap}
def spGoes : Sp := fun vs H Q _ => ∃ x z, vs = [x] ∧ ChAt H x z ∧ ∀ y, OpAt H y z.2.gs → Q y H
theorem ok_goes (C : TxtC16 K mg) : Cal P w K mg base 1 "goes" spGoes := by
  refine C.d_goes.cal sc_goes (fun vs H Q E h => ?_) (fun f cdv A outer s H vs Q E hr h => ?_)
  · obtain ⟨x, z, rfl, _⟩ := h
    rfl
  · obtain ⟨x, z, rfl, ⟨t, ys, rfl, ht, hy⟩, k⟩ := h
    refine ⟨_, (pss_one (ps_ret (pe_ifExp (pt_cmpR op_eq (pe_ix ix_seq (pv 0) pe_int (fun _ _ => rfl)) pe_str (by rfl)) pe_non (pe_ix ix_seq (pv 0) pe_int (fun _ _ => rfl))))), ?_⟩
    k_extra "r_C16"
    refine q_ixT (SqT.of ht) (at_of (j := 1) rfl rfl) ?_
    k_extra "r_C16"
    obtain ⟨g, c⟩ := z
    cases c with
    | add p =>
      refine ⟨rfl, q_test (s_if1 (show decide (V.str "add" = V.str "add") = true by decide) ?_)⟩
      k_extra "r_C16"
      exact k _ rfl
    | take p =>
      refine ⟨rfl, q_test (s_if0 (show decide (V.str "take" = V.str "add") = false by decide +kernel) ?_)⟩
      k_extra "r_C16"
      cases hy with
      | cons h hn =>
        cases hn
        refine q_ixT (SqT.of ht) (at_of (j := 2) rfl rfl) ?_
        exact k _ h
    | ren p q =>
      refine ⟨rfl, q_test (s_if0 (show decide (V.str "rename" = V.str "add") = false by decide +kernel) ?_)⟩
      k_extra "r_C16"
      cases hy with
      | cons h hn =>
        refine q_ixT (SqT.of ht) (at_of (j := 2) rfl rfl) ?_
        exact k _ h
def spComes : Sp := fun vs H Q _ => ∃ x z, vs = [x] ∧ ChAt H x z ∧ ∀ y, OpAt H y z.2.cs → Q y H
theorem ok_comes (C : TxtC16 K mg) : Cal P w K mg base 1 "comes" spComes := by
  refine C.d_comes.cal sc_comes (fun vs H Q E h => ?_) (fun f cdv A outer s H vs Q E hr h => ?_)
  · obtain ⟨x, z, rfl, _⟩ := h
    rfl
  · obtain ⟨x, z, rfl, ⟨t, ys, rfl, ht, hy⟩, k⟩ := h
    refine ⟨_, (pss_one (ps_ret (pe_ifExp (pt_cmpR op_eq (pe_ix ix_seq (pv 0) pe_int (fun _ _ => rfl)) pe_str (by rfl)) pe_non (pe_ix ix_seq (pv 0) (pe_un un_neg pe_int) (fun _ _ => rfl))))), ?_⟩
    k_extra "r_C16"
    refine q_ixT (SqT.of ht) (at_of (j := 1) rfl rfl) ?_
    k_extra "r_C16"
    obtain ⟨g, c⟩ := z
    cases c with
    | take p =>
      refine ⟨rfl, q_test (s_if1 (show decide (V.str "take" = V.str "take") = true by decide) ?_)⟩
      k_extra "r_C16"
      exact k _ rfl
    | add p =>
      refine ⟨rfl, q_test (s_if0 (show decide (V.str "add" = V.str "take") = false by decide +kernel) ?_)⟩
      k_extra "r_C16"
      cases hy with
      | cons h hn =>
        cases hn
        refine ⟨_, rfl, q_ixT (SqT.of ht) (atI_last [V.int g, V.str "add"] _) ?_⟩
        exact k _ h
    | ren p q =>
      refine ⟨rfl, q_test (s_if0 (show decide (V.str "rename" = V.str "take") = false by decide +kernel) ?_)⟩
      k_extra "r_C16"
      cases hy with
      | cons h hn =>
        cases hn with
        | cons h2 hn =>
          cases hn
          refine ⟨_, rfl, q_ixT (SqT.of ht) (atI_last [V.int g, V.str "rename", _] _) ?_⟩
          exact k _ h2
theorem Pls.keys {H : Hp} {xs : List V} {ps : List Plc} (h : Pls H xs ps) : ∃ ks : List (Addr × List Key), xs = ks.map (fun p => V.ref p.1) ∧ ks.map (·.2) = ps.map keyOf ∧ ∀ p ∈ ks, H p.1 = some (.tup (p.2.map kV)) := by
  induction h with
  | nil => exact ⟨[], rfl, rfl, fun _ h => by cases h⟩
  | @cons x q _ _ h _ ih =>
    obtain ⟨a, rfl, ha⟩ := h
    obtain ⟨ks, rfl, e, k⟩ := ih
    refine ⟨(a, keyOf q) :: ks, rfl, by rw [List.map_cons, e, List.map_cons], fun p m => ?_⟩
    rcases List.mem_cons.mp m with rfl | m
    · exact ha
    · exact k p m
theorem keys_nd {ps : List Plc} : (ps.map keyOf).Nodup ↔ ps.Nodup := ⟨fun h => List.Pairwise.of_map keyOf (fun _ _ ne e => ne (congrArg keyOf e)) h, fun h => List.Pairwise.map keyOf (fun _ _ ne e => ne (keyOf_inj e)) h⟩
theorem PlAt.placeV {H : Hp} {x : V} {q : Plc} (n : NmP q) : PlAt H x q → PlaceV H x := fun ⟨a, e, h⟩ => ⟨a, _, _, e, h, ⟨_, rfl, n.1⟩, ⟨_, rfl, n.2⟩⟩
/-- is_place of a place -/
theorem q_isPl {H : Hp} {Q : VK} {E : XK} {x : V} {q : Plc} (h : PlAt H x q) (n : NmP q) (k : ∀ H', Same H H' → Q (.bl true) H') : spPlace K [x] H Q E := by
  have pv := h.placeV n
  obtain ⟨a, rfl, ha⟩ := h
  refine ⟨_, _, rfl, Pl.tup ha, fun e => absurd rfl e, fun _ => ⟨a, _, rfl, ha, fun y hy => ?_, fun z => absurd pv z, fun _ H' S => k H' S⟩⟩
  simp only [List.mem_cons, List.not_mem_nil, or_false] at hy
  rcases hy with rfl | rfl
  · exact nm_arg n.1
  · exact nm_arg n.2
def spPlList : Sp := fun vs H Q _ => ∃ q xs ps, vs = [.ref q] ∧ H q = some (.lst xs) ∧ Pls H xs ps ∧ (∀ p ∈ ps, NmP p) ∧ xs.length < 64 ∧ ps.Nodup ∧ ∀ H', Same H H' → Q (.bl true) H'
theorem ok_is_place_list (T : Txt K mg) (N : TxtN K mg) (I : TxtI K mg) (C : TxtC16 K mg) : Cal P w K mg base 3 "is_place_list" spPlList := by
  refine C.d_pl.cal sc_is_place_list (fun vs H Q E h => ?_) (fun f cdv A outer s H vs Q E hr h => ?_)
  · obtain ⟨q, xs, ps, rfl, _⟩ := h
    rfl
  · obtain ⟨q, xs, ps, rfl, hq, pl, nm, hz, nd, k⟩ := h
    have hu := hr.units
    refine ⟨_, (pss_cons (ps_if (pt_not (PW.pt (pw_and (pt_val (pe_callB call_isi (by rfl) T.n_isinstance (by decide +kernel) (pa_cons (pv 0) (pa_cons (pe_bltn (v := .ty "list") (by rfl) T.n_list (by decide +kernel) rfl) pa_nil)))) (pw_and1 (pt_val (pe_callB (call_allB rfl) (by rfl) N.n_all (by decide +kernel) (pa_cons (pe_lc (own := [("item", 1)]) (g := gName 1) (tt := tYes) (te := tCall (spPlace K) [] E0 (tCons (tVar 1) tNil)) rfl sc_is_place_list.nd (pi_list (pv 0)) (blkOk_by (own := [("item", 1)]) (N := ["value", "item"]) (sc := defScope s_is_place_list) (by decide +kernel)) (fun _ _ _ _ _ => pg_name (i := 1) sc_is_place_list.nd rfl (Or.inl rfl)) (fun _ _ _ _ _ => pts_nil) (fun _ _ _ _ _ => by exact (pe_c (ok_is_place T N I) hr (by decide) rfl (pa_cons (pv 1) pa_nil)))) pa_nil))))))) (pss_one (ps_ret pe_bl)) pss_nil)
      (pss_one (ps_ret (pe_cmpR op_eq (pe_callB ST.call_lenK (by rfl) N.n_len (by decide +kernel) (pa_cons (pe_callTy (ST.cr_setK rfl hu) (by rfl) T.n_set (by decide +kernel) (pa_cons (pv 0) pa_nil)) pa_nil)) (pe_callB call_lenQ (by rfl) N.n_len (by decide +kernel) (pa_cons (pv 0) pa_nil)) (by rfl))))), ?_⟩
    k_extra "r_C16"
    refine q_isi (Pl.lst hq) .lst ?_
    k_extra "r_C16"
    refine s_if1 rfl ?_
    k_extra "r_C16"
    refine s_lc ?_
    k_extra "r_C16"
    refine ⟨q, rfl, ⟨_, SqL.of hq⟩, fun D nD => lc_list (K := K) (a := q) (xs := xs) (fun i H' => Same H H' ∧ H' D = some (.lst ((xs.take i).map fun _ => .bl true))) ⟨Same.new nD, upd_same⟩ (fun i H' _ h => SqL.of (h.1 _ _ hq)) ?_ ?_⟩
    · rintro j x H1 hj ⟨S1, h1⟩
      obtain ⟨p, mp, hp⟩ := pl.get hj
      k_extra "r_C16"
      refine ⟨rfl, ?_⟩
      k_extra "r_C16"
      refine q_isPl (hp.mono S1) (nm p mp) fun H2 S2 => ?_
      refine ⟨_, S2 _ _ h1, ?_, same_mut (S1.trans S2) nD, ?_⟩
      · rw [List.length_map, List.length_take]
        exact szlt (by omega)
      · rw [upd_same, take_map_more hj]
    · rintro H1 ⟨S1, h1⟩
      rw [List.take_of_length_le (Nat.le_refl _)] at h1
      k_extra "r_C16"
      refine q_allB (bs := xs.map fun _ => true) (SqL.of (by rw [List.map_map]; exact h1)) ?_
      rw [show (xs.map fun _ => true).all id = true by simp]
      k_extra "r_C16"
      refine s_if0 rfl ?_
      k_extra "r_C16"
      obtain ⟨ks, rfl, e, hk⟩ := pl.keys
      rw [List.length_map] at hz
      refine ST.q_setK ks (SqL.of (S1 _ _ hq)) (fun p m => S1 _ _ (hk p m)) hz fun D H2 L nD2 S2 hD g _ => ?_
      k_extra "r_C16"
      refine ⟨D, L, rfl, hD, ?_⟩
      k_extra "r_C16"
      refine q_lenL (SqL.of ((S1.trans S2) _ _ hq)) ?_
      have eL : L.length = ks.length := g.nd.mpr (by rw [List.take_of_length_le (Nat.le_refl _), e]; exact keys_nd.mpr nd)
      refine ⟨rfl, ?_⟩
      rw [decide_eq_true (by rw [List.length_map, eL])]
      exact k H2 (S1.trans S2)
end
end Bt
namespace Bt
open PySem PySem.Spec PyProof.Rows L2
open PySem.W (dataLt alike)
/-! ### a <= b, a > b of data that are alike; v in o, v not in o by an own __contains__ -/
def rLeD (K : PySem.W.Frag) : R2 := fun x y H Q => ∃ d e, Dp K H x d ∧ Dp K H y e ∧ alike d e = true ∧ d ≠ .none ∧ d.depth ≤ 60 ∧ Q (.bl (!dataLt e d)) H
def rGtD (K : PySem.W.Frag) : R2 := fun x y H Q => ∃ d e, Dp K H x d ∧ Dp K H y e ∧ alike d e = true ∧ d ≠ .none ∧ d.depth ≤ 60 ∧ Q (.bl (dataLt e d)) H
theorem op_leD {X : Cx} (hu : X.A.units + 64 < cLine) : OpR X (compareOp .LtE) (rLeD X.K) := by
  intro pins s σ H x y v u Q I rx ry h
  obtain ⟨d, e, dx, dy, al, nn, dp, q⟩ := h
  obtain ⟨as, r1⟩ := Dp.reads I d x v dx rx
  obtain ⟨bs, r2⟩ := Dp.reads I e y u dy ry
  show wpAny (model X.prog X.w) X.A (richCompare .LtE v u) (EP X pins σ Q) X.xe s
  exact PySem.W.rcLe_alike d e X.A s v u as bs r1 r2 al nn (by omega) X.prog X.w _ _ ⟨.bl _, H, I, rfl, q⟩
theorem op_gtD {X : Cx} (hu : X.A.units + 64 < cLine) : OpR X (compareOp .Gt) (rGtD X.K) := by
  intro pins s σ H x y v u Q I rx ry h
  obtain ⟨d, e, dx, dy, al, nn, dp, q⟩ := h
  obtain ⟨as, r1⟩ := Dp.reads I d x v dx rx
  obtain ⟨bs, r2⟩ := Dp.reads I e y u dy ry
  show wpAny (model X.prog X.w) X.A (richCompare .Gt v u) (EP X pins σ Q) X.xe s
  exact PySem.W.rcGt_alike d e X.A s v u as bs r1 r2 al nn (by omega) X.prog X.w _ _ ⟨.bl _, H, I, rfl, q⟩
theorem q_leD {K : PySem.W.Frag} {x y : V} {H : Hp} {Q : VK} {d e : PyData} (dx : Dp K H x d) (dy : Dp K H y e) (al : alike d e = true) (nn : d ≠ .none) (dp : d.depth ≤ 60) (q : Q (.bl (!dataLt e d)) H) : rLeD K x y H Q := ⟨d, e, dx, dy, al, nn, dp, q⟩
theorem q_gtD {K : PySem.W.Frag} {x y : V} {H : Hp} {Q : VK} {d e : PyData} (dx : Dp K H x d) (dy : Dp K H y e) (al : alike d e = true) (nn : d ≠ .none) (dp : d.depth ≤ 60) (q : Q (.bl (dataLt e d)) H) : rGtD K x y H Q := ⟨d, e, dx, dy, al, nn, dp, q⟩
def rInOwn (K : PySem.W.Frag) (C : Addr) (neg : Bool) (sp : Sp) (E : XK) : R2 := fun x y H Q => ∃ a dx fs, y = .ref a ∧ H a = some (.ins C dx fs) ∧ sp [y, x] H (fun v H' => ∃ b, v = .bl b ∧ Q (.bl (if neg then !b else b)) H') E
theorem op_inOwn {X : Cx} {CX : CXT} {n : Nat} {C f : Addr} {fd : FuncData} {ps : List Str} {sp : Sp} {E : XK} (F : FnOk X.prog X.w X.K X.mg X.base CX n f fd ps sp) (hr : Room n X.A)
    (hs : PySem.W.findIn X.K (.ref C) "__contains__" = some (some (.ref f))) (hf : PySem.W.isFn X.K (.ref f) = true) (hb : Binds X.K fd ps []) (hx : Passes CX X E) : OpR X (compareOp .In) (rInOwn X.K C false sp E) := by
  intro pins s σ H x y v u Q I rx ry hq
  obtain ⟨a, dx, fs, rfl, ha, hsp⟩ := hq
  cases ry
  obtain ⟨mA, J, _⟩ := ins_get I.hok ha
  obtain ⟨od, J, _⟩ := J.look
  obtain ⟨m, hF⟩ := I.fr
  refine PySem.W.in_K hF I.ok.mod.kin J hs hf ?_
  have hl := F.len _ _ _ _ hsp
  have r2 : Vals [V.ref a, x] [Value.ref a, v] := .cons rfl (.cons rx .nil)
  refine wpAny_call (codeAny_mono (F.run X.A X.stack s H ⟨[.ref a, v], []⟩ [.ref a, v] [.ref a, x] _ E hr I.env0 (by
    have := hb s [.ref a, v] I.kIn (by simpa using hl)
    simpa using this) r2 hsp) fun r s' hq => ?_)
  cases r with
  | error e => exact hx pins σ H s e s' I hq
  | ok fl =>
    cases fl with
    | ret w =>
      obtain ⟨z, H', I', rz, b, ez, q⟩ := I.after hq
      subst ez
      cases rz
      exact wpAny_pure (a := b) ⟨.bl b, H', I', rfl, q⟩
    | next => exact False.elim hq
    | brk => exact False.elim hq
    | cont => exact False.elim hq
theorem op_notInOwn {X : Cx} {CX : CXT} {n : Nat} {C f : Addr} {fd : FuncData} {ps : List Str} {sp : Sp} {E : XK} (F : FnOk X.prog X.w X.K X.mg X.base CX n f fd ps sp) (hr : Room n X.A)
    (hs : PySem.W.findIn X.K (.ref C) "__contains__" = some (some (.ref f))) (hf : PySem.W.isFn X.K (.ref f) = true) (hb : Binds X.K fd ps []) (hx : Passes CX X E) : OpR X (compareOp .NotIn) (rInOwn X.K C true sp E) := by
  intro pins s σ H x y v u Q I rx ry hq
  obtain ⟨a, dx, fs, rfl, ha, hsp⟩ := hq
  cases ry
  obtain ⟨mA, J, _⟩ := ins_get I.hok ha
  obtain ⟨od, J, _⟩ := J.look
  obtain ⟨m, hF⟩ := I.fr
  refine PySem.W.notIn_K hF I.ok.mod.kin J hs hf ?_
  have hl := F.len _ _ _ _ hsp
  have r2 : Vals [V.ref a, x] [Value.ref a, v] := .cons rfl (.cons rx .nil)
  refine wpAny_call (codeAny_mono (F.run X.A X.stack s H ⟨[.ref a, v], []⟩ [.ref a, v] [.ref a, x] _ E hr I.env0 (by
    have := hb s [.ref a, v] I.kIn (by simpa using hl)
    simpa using this) r2 hsp) fun r s' hq => ?_)
  cases r with
  | error e => exact hx pins σ H s e s' I hq
  | ok fl =>
    cases fl with
    | ret w =>
      obtain ⟨z, H', I', rz, b, ez, q⟩ := I.after hq
      subst ez
      cases rz
      exact wpAny_pure (a := b) ⟨.bl (!b), H', I', rfl, q⟩
    | next => exact False.elim hq
    | brk => exact False.elim hq
    | cont => exact False.elim hq
end Bt
namespace Bt
open PySem PySem.Spec PyProof.Rows L2
/-! ### len(o), o[i], o += v, o an instance with an own __len__, __getitem__, __iadd__ -/
section
variable {X : Cx} {CX : CXT} {n : Nat} {C f : Addr} {fd : FuncData} {ps : List Str} {sp : Sp} {E : XK}
/-- an own method called with the values vs: the run -/
theorem own_run {A : Around} {pins : List (Addr × Obj)} {σ : L2.St} {H : Hp} {s : Shared} {us : List Value} {vs : List V} {Q : VK} {Qv : Value → Shared → Prop} {E' : Value → Shared → Prop} (F : FnOk X.prog X.w X.K X.mg X.base CX n f fd ps sp) (hr : Room n A)
    (e0 : Env0 X.prog X.w X.K X.mg X.base A X.stack s H) (hb : Binds X.K fd ps []) (I : Inv X pins σ H s) (r : Vals vs us) (h : sp vs H Q E) (hv : ∀ v s', EP X pins σ Q v s' → Qv v s')
    (hx : ∀ e s', CX X.stack H s E e s' → E' e s') : wpAny (model X.prog X.w) A (call (.ref f) us) Qv E' s := by
  have hl := F.len _ _ _ _ h
  have hl' : (us ++ []).length = ps.length := by rw [List.append_nil, ← r.length]; exact hl
  have hb' := hb s us I.kIn hl'
  rw [List.append_nil] at hb'
  refine wpAny_call (codeAny_mono (F.run A X.stack s H ⟨us, []⟩ us vs Q E hr e0 hb' r h) fun r s' hq => ?_)
  cases r with
  | error e => exact hx e s' hq
  | ok fl =>
    cases fl with
    | ret u => exact hv u s' (I.after hq)
    | next => exact False.elim hq
    | brk => exact False.elim hq
    | cont => exact False.elim hq
def rLenOwn (C : Addr) (sp : Sp) (E : XK) : List V → Hp → VK → Prop := fun xs H Q => ∃ a dx fs, xs = [.ref a] ∧ H a = some (.ins C dx fs) ∧ sp [.ref a] H (fun v H' => ∃ m : Int, v = .int m ∧ 0 ≤ m ∧ m < 2 ^ 63 ∧ Q (.int m) H') E
theorem call_lenOwn (F : FnOk X.prog X.w X.K X.mg X.base CX n f fd ps sp) (hr : Room (n + 1) X.A) (hs : PySem.W.findIn X.K (.ref C) "__len__" = some (some (.ref f))) (hf : PySem.W.isFn X.K (.ref f) = true) (hb : Binds X.K fd ps []) (hx : Passes CX X E) :
    CallR X (.builtin "len") (rLenOwn C sp E) := by
  intro pins s σ H xs us Q I rv h
  obtain ⟨a, dx, fs, rfl, ha, hsp⟩ := h
  obtain ⟨u, rfl, ru⟩ := rv.one
  cases ru
  obtain ⟨mA, J, _⟩ := ins_get I.hok ha
  obtain ⟨od, J, _⟩ := J.look
  obtain ⟨m, hF⟩ := I.fr
  refine PySem.W.len_K hF I.ok.mod.kin J hs hf ?_
  refine own_run F hr.in1 I.env0.in1 hb I (.cons (show RelV (.ref a) (.ref a) from rfl) .nil) hsp (fun v s' hq => ?_) (fun e s' hq => hx pins σ H s e s' I hq)
  obtain ⟨z, H', I', rz, k, ez, k0, k1, q⟩ := hq
  subst ez
  obtain ⟨t, rfl⟩ := rz
  exact ⟨⟨k0, k1⟩, .int k, H', I'.tok _, ⟨_, rfl⟩, q⟩
theorem s_lenOwn {K : PySem.W.Frag} {a : Addr} {H : Hp} {Q : VK} {dx : Addr} {fs : List (Str × V)} (ha : H a = some (.ins C dx fs)) (h : sp [.ref a] H (fun v H' => ∃ m : Int, v = .int m ∧ 0 ≤ m ∧ m < 2 ^ 63 ∧ Q (.int m) H') E) : rLenOwn C sp E [.ref a] H Q := ⟨a, dx, fs, rfl, ha, h⟩
/-- o += v, the own __iadd__ gives an instance -/
def rIaddOwn (C : Addr) (sp : Sp) (E : XK) : V → V → Hp → VK → Prop := fun x y H Q => ∃ a dx fs, x = .ref a ∧ H a = some (.ins C dx fs) ∧ sp [x, y] H (fun v H' => ∃ b, v = .ref b ∧ Q v H') E
theorem in_iaddOwn (F : FnOk X.prog X.w X.K X.mg X.base CX n f fd ps sp) (hr : Room n X.A) (hc : PySem.W.selfFirst X.K C = true) (hs : PySem.W.findIn X.K (.ref C) "__iadd__" = some (some (.ref f))) (hf : PySem.W.isFn X.K (.ref f) = true) (hb : Binds X.K fd ps []) (hx : Passes CX X E) :
    InOp X .Add (rIaddOwn C sp E) := by
  intro pins s σ H x y u v Q I rx ry h
  obtain ⟨a, dx, fs, rfl, ha, hsp⟩ := h
  cases rx
  obtain ⟨mA, J, _⟩ := ins_get I.hok ha
  obtain ⟨od, J, _⟩ := J.look
  obtain ⟨m, hF⟩ := I.fr
  refine PySem.W.ksp_inplace hF I.ok.mod.kin J hc hs hf ?_
  refine own_run F hr I.env0 hb I (.cons (show RelV (.ref a) (.ref a) from rfl) (.cons ry .nil)) hsp (fun v s' hq => ?_) (fun e s' hq => hx pins σ H s e s' I hq)
  obtain ⟨z, H', I', rz, b, ez, q⟩ := hq
  subst ez
  cases rz
  exact ⟨.ref b, H', I', rfl, q⟩
/-- o[i] -/
def tIxOwn (C : Addr) (sp : Sp) (E : XK) (to ti : TE) : TE := fun σ H Q => to σ H fun x H1 => ti σ H1 fun y H2 => ∃ a dx fs, x = .ref a ∧ H2 a = some (.ins C dx fs) ∧ sp [x, y] H2 Q E
theorem pe_ixOwn {o i : Expr} {pos : Pos} {to ti : TE} (ho : PE X o to) (hi : PE X i ti) (F : FnOk X.prog X.w X.K X.mg X.base CX n f fd ps sp) (hr : Room (n + 1) X.A) (hs : PySem.W.findIn X.K (.ref C) "__getitem__" = some (some (.ref f))) (hf : PySem.W.isFn X.K (.ref f) = true) (hfi : PySem.W.fnIn X.K f = true)
    (hb : Binds X.K fd ps []) (hx : Passes CX X E) (hn : ∀ a v, subscripted i true (.ref a) v = runValue (.builtin "lifetime.subscript" ⟨[.ref a, v], []⟩) := by intro _ _; rfl) : PE X (.Subscript o i pos) (tIxOwn C sp E to ti) := by
  refine ⟨fun pins s σ H Q I h => ?_⟩
  refine Subscript_ (thn (ho.run pins s σ H _ I h) fun u s1 ⟨x, H1, I1, rx, q1⟩ => thn (hi.run pins s1 σ H1 _ I1 q1) fun v s2 ⟨y, H2, I2, ry, a, dx, fs, ex, ha, hsp⟩ => ?_)
  subst ex
  cases rx
  obtain ⟨mA, J, _⟩ := ins_get I2.hok ha
  obtain ⟨od, J, _⟩ := J.look
  obtain ⟨m, hF⟩ := I2.fr
  refine PySem.W.sub_K hF I2.ok.mod.kin J hs hfi hf ?_ (hn a v)
  exact own_run F hr.in1 I2.env0.in1 hb I2 (.cons (show RelV (.ref a) (.ref a) from rfl) (.cons ry .nil)) hsp (fun v s' hq => hq) (fun e s' hq => hx pins σ H2 s2 e s' I2 hq)
theorem s_ixOwn {to ti : TE} {σ : L2.St} {H : Hp} {Q : VK} (h : to σ H fun x H1 => ti σ H1 fun y H2 => ∃ a dx fs, x = .ref a ∧ H2 a = some (.ins C dx fs) ∧ sp [x, y] H2 Q E) : tIxOwn C sp E to ti σ H Q := h
end
end Bt
namespace Bt
namespace DT
open PySem PySem.Spec PyProof.Rows L2
/-! ### dicts whose keys are tuples of texts: {k: v for .. in ..}, del d[k] -/
section
variable {X : Cx} {pins : List (Addr × Obj)} {σ : L2.St} {H : Hp} {s : Shared} {a : Addr} {kvs : List (List Key × V)} {A : Around} {E : Value → Shared → Prop}
theorem KT.drop {H : Hp} {kvs : List (List Key × V)} {xs : List (List Key × Addr × Value)} (r : KT H kvs xs) (k : List Key) : KT H (dropK kvs k) (withoutH xs k) := by
  induction r with
  | nil => exact .nil
  | @cons p q ps qs h t ih =>
    unfold dropK withoutH at ih ⊢
    by_cases e : p.1 = k
    · rw [List.filter_cons_of_neg (by simp [e]), List.filter_cons_of_neg (by simp [← h.1, e])]
      exact ih
    · rw [List.filter_cons_of_pos (by simp [e]), List.filter_cons_of_pos (by simp [← h.1, e])]
      exact .cons h ih
theorem KT.away {H : Hp} {xs : List (List Key × Addr × Value)} {u : HO} (e : H a = some u) (n : ∀ ys, u ≠ .tup ys) (ob : HO) (r : KT H kvs xs) : KT (upd H a ob) kvs xs :=
  r.keeps fun c ys ec => by rw [upd_ne (fun z => by rw [z, e] at ec; exact n _ (Option.some.inj ec))]; exact ec
theorem d_dictSetT {D b : Addr} {k : List Key} {v : V} {r : Value} {Q : Unit → Shared → Prop} (hu : X.A.units < cLine) (I : Inv X pins σ H s) (hD : H D = some (.dT kvs)) (hz : kvs.length < sizeLine) (hb : H b = some (.tup (k.map kV)))
    (rv : RelV v r) (h : ∀ s', Inv X pins σ (upd H D (.dT (putK kvs k v))) s' → Q () s') : wpAny (model X.prog X.w) X.A (dictSet D (.ref b) r) Q E s := by
  obtain ⟨z, hd, xs, rel, dd⟩ := dt_of I.hok hD
  have lx : xs.length ≤ sizeLine := by rw [← Paired.length rel]; exact z
  have lp := length_putK kvs k v
  refine wpAny_dictSet_heap (knd := tupleKind (mixKind X.prog X.w)) (k := k) (hsz := lx) hu (key_of I.hok hb) dd fun h' dd' hs => h _ ?_
  obtain ⟨q, es, ep, hq, h2, h3, h4, _, h5⟩ := dd'
  exact d_write I (by rw [hD]; exact True.intro) hs ⟨q, hq⟩ ⟨by omega, hd, _, KT.away hD (fun _ z => nomatch z) _ (rel.put k hb rv), q, es, ep, hq, h2, h3, h4, h5⟩
theorem d_delT {b : Addr} {k : List Key} {Q : Unit → Shared → Prop} (hu : A.units + 1 < cLine) (I : Inv X pins σ H s) (e : H a = some (.dT kvs)) (hb : H b = some (.tup (k.map kV))) (l : (valV kvs k).isSome = true)
    (h : ∀ s', Inv X pins σ (upd H a (.dT (dropK kvs k))) s' → Q () s') : wpAny (model X.prog X.w) A (delItem (.ref a) (.ref b)) Q E s := by
  obtain ⟨z, hd, xs, rel, dd⟩ := dt_of I.hok e
  have lx : xs.length ≤ sizeLine := by rw [← Paired.length rel]; exact z
  have is := (rel.val k).isSome_eq
  rw [l, Option.isSome_map] at is
  obtain ⟨p, hp⟩ := Option.isSome_iff_exists.mp is.symm
  refine wpAny_delItem_heap (hsz := lx) (tupleKind_room_in1 hu) (key_of I.hok hb) hd dd hp fun h' dd' hs => h _ ?_
  obtain ⟨q, es, ep, hq, h2, h3, h4, _, h5⟩ := dd'
  exact d_write I (by rw [e]; exact True.intro) hs ⟨q, hq⟩ ⟨Nat.le_trans (dropK_le kvs k) z, hd, _, KT.away e (fun _ z => nomatch z) _ (KT.drop rel k), q, es, ep, hq, h2, h3, h4, h5⟩
end
def sDDelT (td ty : TE) : TS := fun D σ H => td σ H fun x H1 => ty σ H1 fun y H2 => ∃ a b kvs k, x = .ref a ∧ y = .ref b ∧ H2 a = some (.dT kvs) ∧ H2 b = some (.tup (k.map kV)) ∧ (valV kvs k).isSome = true ∧ D.nx σ (upd H2 a (.dT (dropK kvs k)))
theorem ps_ddelT {X : Cx} {o i : Expr} {pos tpos : Pos} {td ty : TE} (hu : X.A.units + 1 < cLine) (ho : PE X o td) (hi : PE X i ty) : PS X (.Delete [.Subscript o i tpos] pos) (sDDelT td ty) := by
  refine ⟨fun pins s σ H D I h => wpAny_Delete (wpAny_deleteEach_cons (wpAny_delete_Subscript (thn (ho.run pins s σ H _ I h) fun u s1 ⟨x, H1, I1, rx, q1⟩ => thn (hi.run pins s1 σ H1 _ I1 q1) fun v s2 ⟨y, H2, I2, ry, a, b, kvs, k, ex, ey, e, hb, l, q2⟩ => ?_)))⟩
  subst ex ey
  cases rx
  cases ry
  exact d_delT hu I2 e hb l fun s3 I3 => wpAny_deleteEach_nil ⟨σ, _, I3, q2⟩
theorem s_ddelT {td ty : TE} {D : Ends} {σ : L2.St} {H : Hp} (h : td σ H fun x H1 => ty σ H1 fun y H2 => ∃ a b kvs k, x = .ref a ∧ y = .ref b ∧ H2 a = some (.dT kvs) ∧ H2 b = some (.tup (k.map kV)) ∧ (valV kvs k).isSome = true ∧ D.nx σ (upd H2 a (.dT (dropK kvs k)))) : sDDelT td ty D σ H := h
/-- what one turn gives: the key, its value -/
def putT (D : Addr) (y z : V) (H : Hp) (N : Hp → Prop) : Prop := ∃ (b : Addr) (k : List Key) (kvs : List (List Key × V)), y = .ref b ∧ H b = some (.tup (k.map kV)) ∧ H D = some (.dT kvs) ∧ kvs.length < sizeLine ∧ N (upd H D (.dT (putK kvs k z)))
def tDcT (wi : TI) (g : TG) (tt : TT) (tk tv : TE) (vs : List Nat) : TE := fun σ H Q => wi σ H fun J H1 => ∀ D, H1 D = none → ∃ W : Nat → Nat → Hp → Prop, (∃ m, W 0 m (upd H1 D (.dT []))) ∧ ∀ i m H, W i m H →
  (J.stop i H ∧ Q (.ref D) H) ∨ (J.go i H ∧ ∃ Nx : Hp → Prop, (∀ H', Nx H' → ∃ m', m' < m ∧ W (i + 1) m' H') ∧ ∀ x H', J.yld i H x H' → g x (wipe σ vs) H' fun σ2 H2 => wipe σ2 vs = wipe σ vs ∧ tt σ2 H2 fun b H3 =>
    if b = true then tk σ2 H3 fun y H4 => tv σ2 H4 fun z H5 => putT D y z H5 Nx else Nx H3)
section
variable {X : Cx}
theorem dcT_run {pins : List (Addr × Obj)} {σ : L2.St} {Q : VK} {kx vx tg iter : Expr} {ifs : List Expr} {scope : Scope} {own : List (Str × Nat)} {pos : Pos} {g : TG} {tt : TT} {tk tv : TE} {J : It} {fp : List Addr} {it D : Addr} {tn : Nat → Heap → Prop} {s3 : Shared} {H3 : Hp} {W : Nat → Nat → Hp → Prop} {m0 : Nat} {use : Option (Value → Sem Unit)} {Qf : Value → Shared → Prop}
    (hc : X.calm = true) (hu : X.A.units + 2 < cLine) (hN : X.N.Nodup) (ok : BlkOk X.N X.env.scope scope own)
    (hg : ∀ (s : Shared) (H : Hp) (C : Addr) (cl : List (Str × Addr)) (fp : List Addr), PG (X.blk s H scope (compEnvC scope cl C X.env) fp) tg g) (ht : ∀ (s : Shared) (H : Hp) (C : Addr) (cl : List (Str × Addr)) (fp : List Addr), PTs (X.blk s H scope (compEnvC scope cl C X.env) fp) ifs tt)
    (hk : ∀ (s : Shared) (H : Hp) (C : Addr) (cl : List (Str × Addr)) (fp : List Addr), PE (X.blk s H scope (compEnvC scope cl C X.env) fp) kx tk) (he : ∀ (s : Shared) (H : Hp) (C : Addr) (cl : List (Str × Addr)) (fp : List Addr), PE (X.blk s H scope (compEnvC scope cl C X.env) fp) vx tv)
    (ends : ∀ C s' m H', Inv X pins σ H' s' → Q (.ref D) H' → s'.heap.Ns C m → FpOk X pins H' C → compPost (model X.prog X.w) X.A X.xe use Qf (.ref D) C (.ok .next) s')
    (T : Turn X.prog X.w X.K tg J fp it tn) (I3 : Inv X pins σ H3 s3) (f3 : ∀ b ∈ fp, FpOk X pins H3 b ∧ b < s3.heap.objs.size) (st3 : tn 0 s3.heap) (w0 : W 0 m0 H3)
    (turn : ∀ i m H, W i m H → (J.stop i H ∧ Q (.ref D) H) ∨ (J.go i H ∧ ∃ Nx : Hp → Prop, (∀ H', Nx H' → ∃ m', m' < m ∧ W (i + 1) m' H') ∧ ∀ x H', J.yld i H x H' → g x (wipe σ (own.map (·.2))) H' fun σ2 H2 => wipe σ2 (own.map (·.2)) = wipe σ (own.map (·.2)) ∧ tt σ2 H2 fun b H3 =>
      if b = true then tk σ2 H3 fun y H4 => tv σ2 H4 fun z H5 => putT D y z H5 Nx else Nx H3)) :
    codeAny (model X.prog X.w) X.A (.compStart (.DictComp kx vx [⟨tg, iter, ifs, 0⟩] scope pos) 0 (.ref it) (.ref D) (compEnvC scope (cellsFrom (s3.heap.objs.size + 1) scope.names (cloFrom X.env.cells scope.names [])) s3.heap.objs.size X.env))
      (compPost (model X.prog X.w) X.A X.xe use Qf (.ref D) s3.heap.objs.size) { s3 with heap := pushCells (s3.heap.push { cls := .type "dict", data := .dict #[] }) scope.names } := by
  have I4 := block_start I3 ok hN f3
  obtain ⟨cells, hcells⟩ : ∃ c, c = cellsFrom (s3.heap.objs.size + 1) scope.names (cloFrom X.env.cells scope.names []) := ⟨_, rfl⟩
  rw [← hcells] at I4 ⊢
  have pg := hg s3 H3 s3.heap.objs.size cells fp
  have pt := ht s3 H3 s3.heap.objs.size cells fp
  have pk := hk s3 H3 s3.heap.objs.size cells fp
  have pe := he s3 H3 s3.heap.objs.size cells fp
  have cL : (compEnvC scope cells s3.heap.objs.size X.env).locals = s3.heap.objs.size := rfl
  generalize compEnvC scope cells s3.heap.objs.size X.env = ce at I4 pg pt pk pe cL ⊢
  have st4 : tn 0 ({ s3 with heap := pushCells (s3.heap.push { cls := .type "dict", data := .dict #[] }) scope.names } : Shared).heap := T.keep _ _ (pushCells (s3.heap.push { cls := .type "dict", data := .dict #[] }) scope.names) st3 fun b _ o e => pushCells_keeps _ _ _ _ (Heap.get?_push_of_some _ e)
  have own' : ∀ {σ' : L2.St} {H' : Hp} {s' : Shared}, Inv (X.blk s3 H3 scope ce fp) [] σ' H' s' → (∀ b ∈ fp, H' b = none) → ∀ b ∈ fp, FpOk (X.blk s3 H3 scope ce fp) [] H' b := fun I' hn b hb =>
    ⟨hn b hb, (I'.ok.exf b hb).1, I'.ok.exfs b hb, .inl hb, fun x c e => (I'.ok.exf b hb).2 x c e, fun p hp => nomatch hp⟩
  generalize ({ s3 with heap := pushCells (s3.heap.push { cls := .type "dict", data := .dict #[] }) scope.names } : Shared) = s4 at I4 st4 ⊢
  have nofp : ∀ b ∈ fp, H3 b = none := fun b hb => (f3 b hb).1.1
  have loop : codeAny (model X.prog X.w) X.A (.compLoop (.DictComp kx vx [⟨tg, iter, ifs, 0⟩] scope pos) 0 (.ref it) (.ref D) ce) (compPost (model X.prog X.w) X.A X.xe use Qf (.ref D) s3.heap.objs.size) s4 := by
    refine compLoop_anyD (fun n s' => ∃ i H', Inv (X.blk s3 H3 scope ce fp) [] (wipe σ (own.map (·.2))) H' s' ∧ tn i s'.heap ∧ (∀ b ∈ fp, H' b = none) ∧ W i n H') ?_ m0 ⟨0, H3, I4, st4, nofp, w0⟩
    rintro n s5 ⟨i, H5, I5, st5, n5, w5⟩
    rcases turn i n H5 w5 with ⟨stop, qq⟩ | ⟨go, Nx, hNx, step⟩
    · refine thnF (T.done (X.blk s3 H3 scope ce fp) rfl rfl rfl hc i [] s5 _ H5 (fun _ _ => False) I5 (own' I5 n5) st5 stop) fun r s6 ⟨hr, I6⟩ => ?_
      subst hr
      have I7 : Inv X pins σ H5 s6 := I3.call' (ch := fp) I6.os I6.base I6.hok I6.bare fun b hb => ⟨(f3 b hb).1.2.2.2.1, (f3 b hb).1.2.1, (f3 b hb).1.2.2.2.2.1, (f3 b hb).1.2.2.2.2.2⟩
      have nC : H5 s3.heap.objs.size = none := cL ▸ (show H5 ce.locals = none from I6.free)
      obtain ⟨m, hn, _⟩ := I6.loc
      have hn' : s6.heap.Ns s3.heap.objs.size m := cL ▸ (show s6.heap.Ns ce.locals m from hn)
      exact ends s3.heap.objs.size s6 m H5 I7 qq hn' (I3.fpOk (Nat.le_refl _) nC)
    · refine thnF (T.item (X.blk s3 H3 scope ce fp) rfl rfl rfl hc i [] s5 _ H5 (fun _ _ => False) I5 (own' I5 n5) st5 go) fun r s6 ⟨u, hr, h6⟩ => ?_
      subst hr
      refine thnF h6 fun _ s7 ⟨x, H7, I7, r7, y7, st7, n7⟩ => ?_
      have I7' := I7.pinned (own' I7 n7) (T.obj _ _ st7)
      refine thnF (pg.run _ s7 _ H7 x u _ I7' r7 (step x H7 y7)) fun _ s8 ⟨σ8, H8, I8, hw8, q8⟩ => ?_
      refine thnF (pt.run _ s8 σ8 H8 _ I8 q8) fun b s9 ⟨H9, I9, q9⟩ => ?_
      have fin : ∀ {s' : Shared} {H' : Hp}, Inv (X.blk s3 H3 scope ce fp) ([] ++ pinsAt fp s7.heap) σ8 H' s' → Nx H' → ∃ m, m < n ∧ ∃ i H', Inv (X.blk s3 H3 scope ce fp) [] (wipe σ (own.map (·.2))) H' s' ∧ tn i s'.heap ∧ (∀ b ∈ fp, H' b = none) ∧ W i m H' := fun {s' H'} I' nx => by
        obtain ⟨m', hm, w'⟩ := hNx H' nx
        have pin : ∀ b ∈ fp, ∀ o, s7.heap.get? b = some o → s'.heap.get? b = some o ∧ H' b = none := fun b hb o e =>
          let z := I'.pin (b, o) (List.mem_append_right _ (List.mem_append_right _ (mem_pinsAt hb e)))
          ⟨z.1, z.2.1⟩
        refine ⟨m', hm, i + 1, H', (I'.unpinned (pins := [])).weak (by rw [← hw8, wipe_length]) (fun j v e => (wipe_some (hw8 ▸ e)).1), T.keep _ _ _ st7 fun b hb o e => (pin b hb o e).1, fun b hb => ?_, w'⟩
        obtain ⟨o, e, _⟩ := T.obj _ _ st7 b hb
        exact (pin b hb o e).2
      cases b with
      | false =>
        simp only [Bool.false_eq_true, if_false] at q9 ⊢
        exact fin I9 q9
      | true =>
        simp only [if_true] at q9 ⊢
        refine thnF (pk.run _ s9 σ8 H9 _ I9 q9) fun z s10 ⟨yk, H10, I10, r10, q10⟩ => ?_
        refine thnF (pe.run _ s10 σ8 H10 _ I10 q10) fun z2 s11 ⟨yv, H11, I11, r11, b, k, kvs, ek, hb, hD, hz, nx⟩ => ?_
        subst ek
        cases r10
        exact d_dictSetT (X := X.blk s3 H3 scope ce fp) (by show X.A.units < cLine; omega) I11 hD hz hb r11 fun s12 I12 => fin I12 nx
  exact codeAny_compStart_dict loop (T.self X.A 0 _ _ _ st4 loop)
theorem dcT_core {pins : List (Addr × Obj)} {σ : L2.St} {H : Hp} {Q : VK} {s : Shared} {pos' : Pos} {use : Option (Value → Sem Unit)} {Qf : Value → Shared → Prop} {kx vx tg iter : Expr} {ifs : List Expr} {scope : Scope} {own : List (Str × Nat)} {pos : Pos} {wi : TI} {g : TG} {tt : TT} {tk tv : TE} (hc : X.calm = true) (hu : X.A.units + 2 < cLine) (hN : X.N.Nodup) (hi : PI X tg iter wi) (ok : BlkOk X.N X.env.scope scope own)
    (hg : ∀ (s : Shared) (H : Hp) (C : Addr) (cl : List (Str × Addr)) (fp : List Addr), PG (X.blk s H scope (compEnvC scope cl C X.env) fp) tg g) (ht : ∀ (s : Shared) (H : Hp) (C : Addr) (cl : List (Str × Addr)) (fp : List Addr), PTs (X.blk s H scope (compEnvC scope cl C X.env) fp) ifs tt)
    (hk : ∀ (s : Shared) (H : Hp) (C : Addr) (cl : List (Str × Addr)) (fp : List Addr), PE (X.blk s H scope (compEnvC scope cl C X.env) fp) kx tk) (he : ∀ (s : Shared) (H : Hp) (C : Addr) (cl : List (Str × Addr)) (fp : List Addr), PE (X.blk s H scope (compEnvC scope cl C X.env) fp) vx tv) (hs : ∀ x, foldedSetIterable iter X.env x = pure x := by intro _; rfl) (I : Inv X pins σ H s) (h : tDcT wi g tt tk tv (own.map (·.2)) σ H Q)
    (ends : ∀ D C s' m H', Inv X pins σ H' s' → Q (.ref D) H' → s'.heap.Ns C m → FpOk X pins H' C → compPost (model X.prog X.w) X.A X.xe use Qf (.ref D) C (.ok .next) s') :
    wpAny (model X.prog X.w) X.A (comprehension (.DictComp kx vx [⟨tg, iter, ifs, 0⟩] scope pos) scope X.env pos' newDict false (eval iter X.env) use) Qf X.xe s := by
  have known : ∀ y ∈ scope.names, y.2 = .free → ∃ c, X.env.cells.lookup y.1 = some c := fun y hy e => I.ok.has _ (ok.free y hy e)
  refine wpAny_comprehension_free (use := use) rfl hs (closure_ok known) ok.kind (fun y hy e => by rw [ok.uniq y hy, e]) (thn (hi.run pins s σ H _ I h) fun xv s1 hx => thn hx fun itv s2 ⟨it, fp, tn, J, H2, ei, I2, T, st2, f2, q⟩ => ?_)
  subst ei
  refine wpAny_newObj_type (newEnv_comp ?_)
  have hDn : H2 s2.heap.objs.size = none := I2.hok.fresh (Nat.le_refl _)
  obtain ⟨W, ⟨m0, w0⟩, turn⟩ := q _ hDn
  have I3 : Inv X pins σ (upd H2 s2.heap.objs.size (.dT [])) { s2 with heap := s2.heap.push { cls := .type "dict", data := .dict #[] } } :=
    I2.laid (t' := s2.toks) (fun b o e => Heap.get?_push_of_some _ e) (Nat.le_refl _) (dt_empty s2.heap I2.big)
  have f3 : ∀ b ∈ fp, FpOk X pins (upd H2 s2.heap.objs.size (.dT [])) b ∧ b < (s2.heap.push { cls := .type "dict", data := .dict #[] }).objs.size := fun b hb => by
    obtain ⟨o, e, _⟩ := T.obj _ _ st2 b hb
    have lt := Heap.lt_size e
    refine ⟨⟨by rw [upd_ne (Nat.ne_of_lt lt)]; exact (f2 b hb).1, (f2 b hb).2⟩, by rw [Heap.size_push]; exact Nat.lt_succ_of_lt lt⟩
  have st3 := T.keep _ _ (s2.heap.push { cls := .type "dict", data := .dict #[] }) st2 fun b _ o e => Heap.get?_push_of_some _ e
  exact dcT_run (pos := pos) hc hu hN ok hg ht hk he (ends _) T I3 f3 st3 w0 turn
theorem pe_dcT {kx vx tg iter : Expr} {ifs : List Expr} {scope : Scope} {own : List (Str × Nat)} {pos : Pos} {wi : TI} {g : TG} {tt : TT} {tk tv : TE} (hc : X.calm = true) (hu : X.A.units + 2 < cLine) (hN : X.N.Nodup) (hi : PI X tg iter wi) (ok : BlkOk X.N X.env.scope scope own)
    (hg : ∀ (s : Shared) (H : Hp) (C : Addr) (cl : List (Str × Addr)) (fp : List Addr), PG (X.blk s H scope (compEnvC scope cl C X.env) fp) tg g) (ht : ∀ (s : Shared) (H : Hp) (C : Addr) (cl : List (Str × Addr)) (fp : List Addr), PTs (X.blk s H scope (compEnvC scope cl C X.env) fp) ifs tt)
    (hk : ∀ (s : Shared) (H : Hp) (C : Addr) (cl : List (Str × Addr)) (fp : List Addr), PE (X.blk s H scope (compEnvC scope cl C X.env) fp) kx tk) (he : ∀ (s : Shared) (H : Hp) (C : Addr) (cl : List (Str × Addr)) (fp : List Addr), PE (X.blk s H scope (compEnvC scope cl C X.env) fp) vx tv) (hs : ∀ x, foldedSetIterable iter X.env x = pure x := by intro _; rfl) :
    PE X (.DictComp kx vx [⟨tg, iter, ifs, 0⟩] scope pos) (tDcT wi g tt tk tv (own.map (·.2))) := by
  refine ⟨fun pins s σ H Q I h => ?_⟩
  rw [arm_eval_DictComp]
  refine dcT_core hc hu hN hi ok hg ht hk he hs I h fun D C s' m H' I' q hn ⟨f0, f1, f2, f3, f4, f5⟩ => ⟨m, hn, fun h'' sb => ⟨.ref D, H', I'.turned (t' := s'.toks) (fun b o hb e => (sb.2 b hb).trans e) f0 f1 f3 f4 f5, rfl, q⟩⟩
/-- name = {..} on one line, the name a local -/
theorem ps_setDcT {i : Nat} {y : Str} {py spos : Pos} {kx vx tg iter : Expr} {ifs : List Expr} {scope : Scope} {own : List (Str × Nat)} {pos : Pos} {wi : TI} {g : TG} {tt : TT} {tk tv : TE} (hy : X.N[i]? = some y) (hyl : X.env.scope.names.lookup y = some .local) (hsw : swapsWith (.DictComp kx vx [⟨tg, iter, ifs, 0⟩] scope pos) (some (.Name y py)) spos.line X.env = pure true) (hc : X.calm = true) (hu : X.A.units + 2 < cLine) (hN : X.N.Nodup) (hi : PI X tg iter wi) (ok : BlkOk X.N X.env.scope scope own)
    (hg : ∀ (s : Shared) (H : Hp) (C : Addr) (cl : List (Str × Addr)) (fp : List Addr), PG (X.blk s H scope (compEnvC scope cl C X.env) fp) tg g) (ht : ∀ (s : Shared) (H : Hp) (C : Addr) (cl : List (Str × Addr)) (fp : List Addr), PTs (X.blk s H scope (compEnvC scope cl C X.env) fp) ifs tt)
    (hk : ∀ (s : Shared) (H : Hp) (C : Addr) (cl : List (Str × Addr)) (fp : List Addr), PE (X.blk s H scope (compEnvC scope cl C X.env) fp) kx tk) (he : ∀ (s : Shared) (H : Hp) (C : Addr) (cl : List (Str × Addr)) (fp : List Addr), PE (X.blk s H scope (compEnvC scope cl C X.env) fp) vx tv) (hs : ∀ x, foldedSetIterable iter X.env x = pure x := by intro _; rfl) :
    PS X (.Assign [.Name y py] (.DictComp kx vx [⟨tg, iter, ifs, 0⟩] scope pos) spos) (tAsg (tDcT wi g tt tk tv (own.map (·.2))) (gName i)) := by
  refine ⟨fun pins s σ H D I h => ?_⟩
  rw [exec_Assign_Name_used _ _ _ _ hsw]
  refine wpAny_bind (wpAny_standAt (wpAny_bind ?_))
  have h' : tDcT wi g tt tk tv (own.map (·.2)) σ H (fun x H1 => gName i x σ H1 D.nx) := h
  refine wpAny_bind (thn (dcT_core (Qf := fun _ s' => SP X pins D .next s') (use := some (assign (.Name y py) X.env)) hc hu hN hi ok hg ht hk he hs I h' fun L C s' m H' I' q hn ⟨f0, f1, f2, f3, f4, f5⟩ => ?_) fun _ s' hq => wpAny_pure (wpAny_pure hq))
  refine wpAny_assign_Name (store_ok2 (v := V.ref L) I' hN hy (.inl hyl) rfl (fun s2 I2 ⟨a, sb, ha⟩ => ?_) (.inr hyl))
  have aC : C ≠ a := ha.elim (fun z => by rw [z]; exact f1) fun z e => f4 y a z e.symm
  exact ⟨m, hn.sameBut sb aC, fun h3 sb3 => ⟨_, H', I2.turned (t' := s2.toks) (fun b o hb e => (sb3.2 b hb).trans e) f0 f1 f3 f4 f5, q⟩⟩
end
theorem swD_true {kx vx : Expr} {gs : List Comprehension} {scope : Scope} {pos py : Pos} {y : Str} {l : Nat} {env : Env} (hk : env.scope.kind = .function) (hy : env.scope.names.lookup y = some .local) (hl : (py.line == pos.line) = true)
    (ha : (scope.names.any fun (n, k) => n == y && (k == .local || k == .cell)) = false) : swapsWith (.DictComp kx vx gs scope pos) (some (.Name y py)) l env = pure true := by
  have k1 : env.kindOf y = some .local := hy
  have k2 : env.blockKind = .function := by unfold Env.blockKind; rw [hk]; rfl
  unfold swapsWith
  simp only [k2, k1, ha, Expr.pos, hl]
  rfl
theorem s_dcT {wi : TI} {g : TG} {tt : TT} {tk tv : TE} {vs : List Nat} {σ : L2.St} {H : Hp} {Q : VK} (h : wi σ H fun J H1 => ∀ D, H1 D = none → ∃ W : Nat → Nat → Hp → Prop, (∃ m, W 0 m (upd H1 D (.dT []))) ∧ ∀ i m H, W i m H →
    (J.stop i H ∧ Q (.ref D) H) ∨ (J.go i H ∧ ∃ Nx : Hp → Prop, (∀ H', Nx H' → ∃ m', m' < m ∧ W (i + 1) m' H') ∧ ∀ x H', J.yld i H x H' → g x (wipe σ vs) H' fun σ2 H2 => wipe σ2 vs = wipe σ vs ∧ tt σ2 H2 fun b H3 =>
      if b = true then tk σ2 H3 fun y H4 => tv σ2 H4 fun z H5 => putT D y z H5 Nx else Nx H3)) : tDcT wi g tt tk tv vs σ H Q := h
theorem dc_listT {K : PySem.W.Frag} {a : Addr} {xs : List V} {g : TG} {tt : TT} {tk tv : TE} {vs : List Nat} {σ : L2.St} {H1 : Hp} {D : Addr} {Qd : Hp → Prop} (Pv : Nat → Hp → Prop) (h0 : Pv 0 (upd H1 D (.dT []))) (hl : ∀ i H, i ≤ xs.length → Pv i H → SqL K H a xs)
    (hs : ∀ i x H, xs[i]? = some x → Pv i H → g x (wipe σ vs) H fun σ2 H2 => wipe σ2 vs = wipe σ vs ∧ tt σ2 H2 fun b H3 => if b = true then tk σ2 H3 fun y H4 => tv σ2 H4 fun z H5 => putT D y z H5 (Pv (i + 1)) else Pv (i + 1) H3) (hd : ∀ H, Pv xs.length H → Qd H) :
    ∃ W : Nat → Nat → Hp → Prop, (∃ m, W 0 m (upd H1 D (.dT []))) ∧ ∀ i m H, W i m H →
      ((Itl K a).stop i H ∧ Qd H) ∨ ((Itl K a).go i H ∧ ∃ Nx : Hp → Prop, (∀ H', Nx H' → ∃ m', m' < m ∧ W (i + 1) m' H') ∧ ∀ x H', (Itl K a).yld i H x H' → g x (wipe σ vs) H' fun σ2 H2 => wipe σ2 vs = wipe σ vs ∧ tt σ2 H2 fun b H3 =>
        if b = true then tk σ2 H3 fun y H4 => tv σ2 H4 fun z H5 => putT D y z H5 Nx else Nx H3) := by
  refine ⟨fun i m H => m = xs.length - i ∧ i ≤ xs.length ∧ Pv i H, ⟨xs.length, by simp, Nat.zero_le _, h0⟩, ?_⟩
  rintro i m H ⟨rfl, hi, p⟩
  have q := hl i H hi p
  by_cases hlt : i < xs.length
  · refine .inr ⟨⟨xs, xs[i], q, by simp [hlt]⟩, Pv (i + 1), fun H' p' => ⟨xs.length - (i + 1), by omega, rfl, hlt, p'⟩, fun x H' y => ?_⟩
    obtain ⟨rfl, y⟩ := y
    exact hs i x _ (y xs q) p
  · have e : i = xs.length := by omega
    subst e
    exact .inl ⟨⟨xs, q, Nat.le_refl _⟩, hd H p⟩
end DT
end Bt
namespace PySem.W
open PySem PySem.Calls PyProof.Rows
/-! ### sorted(o), o walked by a source: its items in a new list, list.sort -/
section
variable {prog : Program} {w : World} {A : Around} {E : Value → Shared → Prop} {s : Shared} {T : String} {r d : Addr} {n : Nat} {P : Nat → Value → Prop} {OK : Heap → Prop} {Q : Value → Shared → Prop} {β : Type} {enc : β → PyData} {R : Value → β → Prop} {bs : List β}
theorem sorted_src (K : KdlSrc prog w T r d n P OK) (hh : A.handled = none) (hok : OK s.heap) (hn : n ≤ sizeLine) (hb : bs.length = n) (hal : AllAlike (bs.map enc)) (hk : Sortable (bs.map enc)) (hu : ∀ b, b ∈ bs → A.units + 2 + (enc b).depth < cLine)
    (he : ∀ vs : List Value, vs.length = n → (∀ (j : Nat) (v : Value), vs[j]? = some v → P j v) → EachIs R vs bs ∧ EachIs (fun v b => ∃ as, Reads s.heap v (enc b) as) vs bs)
    (h : ∀ (hp : Heap) (tk : Nat) (out : List Value) (B : Addr), (∀ b o, s.heap.get? b = some o → hp.get? b = some o) → s.heap.get? B = none → (∃ ep, hp.get? B = some (seqObj "list" (List.toArray out) ep)) → EachIs R out (bs.mergeSort (dataLe false enc)) → Q (.ref B) { s with heap := hp, toks := tk }) :
    wpAny (model prog w) A (call (.builtin "sorted") [.ref r]) Q E s := by
  refine call_function_entry kind_sorted plain_sorted entry_sorted (args_sorted1 _) ?_
  unfold Builtin.«sorted»
  refine wpAny_bind (m := checkCount "sorted" 1 1 _) (wpAny_pure (wpAny_bind (kdu_collect (A := A.in1) K hh hok hn fun h' tk acc hk' hacc => ?_)))
  obtain ⟨vs, evs⟩ : ∃ vs, vs = acc.toList := ⟨_, rfl⟩
  have hl : vs.length = n := by rw [evs, Array.length_toList]; exact hacc.1
  obtain ⟨e1, e2⟩ := he vs hl fun j v e => hacc.2 j v (by rw [← Array.getElem?_toList, ← evs]; exact e)
  rw [← evs]
  refine wpAny_bind (wpAny_newList ?_ (by omega))
  generalize hB : h'.objs.size = B
  have nB : s.heap.get? B = none := by
    cases q : s.heap.get? B with
    | none => rfl
    | some o => exact absurd (Heap.lt_size (hk' _ _ q)) (by rw [hB]; exact Nat.lt_irrefl _)
  have atB : (h'.push (seqObj "list" vs.toArray 0)).get? B = some (seqObj "list" vs.toArray 0) := by rw [← hB]; exact Heap.get?_push_size _ rfl
  have old : ∀ b o, s.heap.get? b = some o → (h'.push (seqObj "list" vs.toArray 0)).get? b = some o := fun b o q => Heap.get?_push_of_some _ (hk' b o q)
  have neB : ∀ b o, s.heap.get? b = some o → b ≠ B := fun b o q z => by rw [z, nB] at q; cases q
  show wpAny (model prog w) A.in1 (holding [Value.ref B] (call (.builtin "list.sort") [.ref B] []) >>= fun _ => ret (Value.ref B)) _ E { s with heap := h'.push (seqObj "list" vs.toArray 0), toks := tk }
  have e3 : EachIs (fun v b => ∃ as, Reads (sortingHeap (h'.push (seqObj "list" vs.toArray 0)) B vs) v (enc b) as) vs bs := e2.mono fun _ _ ⟨as, r⟩ => ⟨as, PyProof.Rows.Reads.keeps (fun b o q => sortingHeap_old (neB b o q) (old b o q)) r⟩
  have so : SortsAt prog w A.in1.in1 { s with heap := sortingHeap (h'.push (seqObj "list" vs.toArray 0)) B vs, toks := tk } (dataKind (sortingHeap (h'.push (seqObj "list" vs.toArray 0)) B vs) (bs.map enc)) vs :=
    SortsAt.data (s := { s with heap := sortingHeap (h'.push (seqObj "list" vs.toArray 0)) B vs, toks := tk }) (each_map (R := fun v d => ∃ as, Reads (sortingHeap (h'.push (seqObj "list" vs.toArray 0)) B vs) v d as) enc e3) hal hk (bound_map hu)
  refine wpAny_bind (wpAny_holding (wpAny_call_entry slot_list_sort ⟨_, atB, rfl⟩ entry_list_sort ?_ (args_list_sort _)))
  refine list_sort_vals (s := { s with heap := h'.push (seqObj "list" vs.toArray 0), toks := tk }) atB so (by omega) ?_
  refine ⟨_, rfl, wpAny_pure ⟨_, rfl, h _ tk _ B (fun b o q => ?_) nB ?_ (sortVals_data false e1 e3 hal)⟩⟩
  · have lt := Heap.lt_size (old b o q)
    rw [sortedHeap_old (neB b o q) lt]
    exact old b o q
  · exact sortedHeap_at atB
end
end PySem.W

namespace Bt
namespace DT
open PySem PySem.Spec PyProof.Rows L2
open PySem.W (dataLe alike AllAlike Sortable EachIs)
/-! ### sorted(d), the keys of d tuples of texts and ints -/
def kD : Key → PyData
  | .inl i => .int i
  | .inr x => .str x
/-- a key as data -/
def keyD (k : List Key) : PyData := .tuple (k.map kD)
theorem dp_keys {K : PySem.W.Frag} {H : Hp} : ∀ k : List Key, DpAll K H (k.map kV) (k.map kD)
  | [] => .nil
  | .inl i :: k => .cons (.int i) (dp_keys k)
  | .inr x :: k => .cons (.str x) (dp_keys k)
theorem dp_key {K : PySem.W.Frag} {H : Hp} {b : Addr} {k : List Key} (h : H b = some (.tup (k.map kV))) : Dp K H (.ref b) (keyD k) := .tup (SqT.of h) (dp_keys k)
theorem ObjOk.there {P : Program} {w : World} {H : Hp} {h : Heap} {a : Addr} {o : HO} (x : ObjOk P w H h a o) : ∃ q, h.get? a = some q := by
  cases o with
  | lst xs => obtain ⟨_, _, _, _, e⟩ := x; exact ⟨_, e⟩
  | tup xs => obtain ⟨_, _, _, ob, e, _⟩ := x; exact ⟨ob, e⟩
  | dK kvs => obtain ⟨_, _, _, _, o, _, _, e, _⟩ := x; exact ⟨_, e⟩
  | dT kvs => obtain ⟨_, _, _, _, o, _, _, e, _⟩ := x; exact ⟨_, e⟩
  | set S n => obtain ⟨o, _, _, _, e, _⟩ := x; exact ⟨_, e⟩
  | ins C dx fs => obtain ⟨_, _, _, e, _⟩ := x; exact ⟨_, e⟩
  | own y => exact x
  | xd fs => obtain ⟨_, ⟨_, _, _, e, _⟩, _⟩ := x; exact ⟨_, e⟩
  | rng lo hi => obtain ⟨_, _, _, e⟩ := x; exact ⟨_, e⟩
  | frz ob u => obtain ⟨e, _⟩ := x; exact ⟨_, e⟩
  | tbl ps => exact ⟨_, show h.get? a = some _ from x⟩
  | met f y => exact ⟨_, show h.get? a = some _ from x⟩
  | ext φ => exact x.2.1
abbrev KA : Type := Addr × List Key
def kaLe : KA → KA → Bool := dataLe false (fun z : KA => keyD z.2)
def rSortKT (K : PySem.W.Frag) : List V → Hp → VK → Prop := fun vs H Q => ∃ (a : Addr) (kvs : List (List Key × V)), vs = [V.ref a] ∧ H a = some (.dT kvs) ∧ (∀ p ∈ kvs, (keyD p.1).depth ≤ 60) ∧ AllAlike (kvs.map fun p => keyD p.1) ∧ Sortable (kvs.map fun p => keyD p.1) ∧
  ∀ (zs : List KA) (p : Addr), zs.map (·.2) = kvs.map (·.1) → (∀ z ∈ zs, H z.1 = some (.tup (z.2.map kV))) → H p = none → Q (.ref p) (upd H p (.lst ((zs.mergeSort kaLe).map fun z => .ref z.1)))
theorem keys_of {H : Hp} : ∀ {kvs : List (List Key × V)} {xs : List (List Key × Addr × Value)}, KT H kvs xs → ∃ zs : List KA, zs.map (·.2) = kvs.map (·.1) ∧ zs.map (·.1) = xs.map (·.2.1) ∧ ∀ z ∈ zs, H z.1 = some (.tup (z.2.map kV))
  | _, _, .nil => ⟨[], rfl, rfl, fun _ h => by cases h⟩
  | p :: _, q :: _, .cons h t => by
    obtain ⟨zs, e1, e2, e3⟩ := keys_of t
    refine ⟨(q.2.1, p.1) :: zs, by rw [List.map_cons, e1, List.map_cons], by rw [List.map_cons, e2, List.map_cons], fun z m => ?_⟩
    rcases List.mem_cons.mp m with rfl | m
    · exact h.2.1
    · exact e3 z m
theorem each_refs : ∀ {vs : List Value} {zs : List KA}, vs.length = zs.length → (∀ (j : Nat) (v : Value), vs[j]? = some v → ∃ z, zs[j]? = some z ∧ v = .ref z.1) → EachIs (fun v (z : KA) => v = .ref z.1) vs zs
  | [], [], _, _ => .nil
  | [], _ :: _, h, _ => by simp at h
  | _ :: _, [], h, _ => by simp at h
  | v :: vs, z :: zs, h, k => by
    obtain ⟨z', e, ev⟩ := k 0 v rfl
    cases Option.some.inj e
    exact .cons ev (each_refs (by simpa using h) fun j u hu => by simpa using k (j + 1) u (by simpa using hu))
theorem each_read {X : Cx} {pins : List (Addr × Obj)} {σ : L2.St} {H : Hp} {s : Shared} (I : Inv X pins σ H s) : ∀ {vs : List Value} {zs : List KA}, EachIs (fun v (z : KA) => v = .ref z.1) vs zs → (∀ z ∈ zs, H z.1 = some (.tup (z.2.map kV))) → EachIs (fun v (z : KA) => ∃ as, Reads s.heap v (keyD z.2) as) vs zs
  | [], [], _, _ => .nil
  | v :: vs, z :: zs, .cons e r, h => by
    subst e
    exact .cons (Dp.reads I (keyD z.2) (.ref z.1) _ (dp_key (K := X.K) (h z List.mem_cons_self)) rfl) (each_read I r fun y m => h y (List.mem_cons_of_mem _ m))
theorem refs_vals : ∀ {vs : List Value} {zs : List KA}, EachIs (fun v (z : KA) => v = .ref z.1) vs zs → Vals (zs.map fun z => V.ref z.1) vs
  | [], [], _ => .nil
  | _ :: _, _ :: _, .cons e r => .cons (by subst e; rfl) (refs_vals r)
theorem cr_sortKT {X : Cx} (hc : X.calm = true) (hu : X.A.units + 64 < cLine) : CallR X (.builtin "sorted") (rSortKT X.K) := by
  intro pins s σ H vs us Q I r h
  obtain ⟨a, kvs, rfl, ha, hd, al, sk, q⟩ := h
  rw [Vals.ref1 r]
  obtain ⟨hz, lo, xs, rel, hdo⟩ := dt_of I.hok ha
  obtain ⟨es, ep, raw, hes, hent⟩ := hdo.raw
  obtain ⟨zs, e1, e2, e3⟩ := keys_of rel
  have lk : kvs.length = xs.length := Paired.length rel
  have lz : zs.length = xs.length := by have := congrArg List.length e2; rwa [List.length_map, List.length_map] at this
  have em : (zs.map fun z => keyD z.2) = kvs.map fun p => keyD p.1 := by
    rw [show (zs.map fun z => keyD z.2) = (zs.map (·.2)).map keyD by rw [List.map_map]; rfl, e1, List.map_map]
    rfl
  refine PySem.W.sorted_src (bs := zs) (enc := fun z : KA => keyD z.2) (R := fun v (z : KA) => v = .ref z.1) (PySem.KdlSrc.rawDict (es := es) (ep := ep) lo) (I.ok.hd hc) raw (by omega) (by omega) (by rw [em]; exact al) (by rw [em]; exact sk) (fun z mz => ?_) (fun vs hl hp => ?_) fun hp tk out B hk nB hB he => ?_
  · have : keyD z.2 ∈ kvs.map fun p => keyD p.1 := by rw [← em]; exact List.mem_map.mpr ⟨z, mz, rfl⟩
    obtain ⟨p, mp, ep⟩ := List.mem_map.mp this
    have := hd p mp
    rw [ep] at this
    show X.A.units + 2 + (keyD z.2).depth < cLine
    omega
  · have ei : EachIs (fun v (z : KA) => v = .ref z.1) vs zs := each_refs (by omega) fun j v hv => by
      obtain ⟨hj, ev⟩ := hp j v hv
      obtain ⟨y, w1, w2, _, _⟩ := hent j hj
      have : (zs.map (·.1))[j]? = some y.2.1 := by rw [e2, List.getElem?_map, w1]; rfl
      rw [List.getElem?_map] at this
      obtain ⟨z, hz', ez⟩ := Option.map_eq_some_iff.mp this
      exact ⟨z, hz', by rw [ev, w2, ez]⟩
    exact ⟨ei, each_read I ei e3⟩
  · obtain ⟨ep', hB⟩ := hB
    have nH : H B = none := by
      cases e : H B with
      | none => rfl
      | some u =>
        obtain ⟨o, ho⟩ := ObjOk.there (I.hok B u e)
        rw [nB] at ho
        cases ho
    refine ⟨.ref B, _, lay_new I hk (Same.new nH) (fun b o eb => upd_ne fun z => by rw [z, nB] at eb; cases eb) fun b u hb hu => ?_, rfl, q zs B e1 e3 nH⟩
    by_cases z : b = B
    · subst z
      rw [upd_same] at hu
      cases hu
      refine ⟨?_, out, ep', refs_vals he, hB⟩
      rw [List.length_map, List.length_mergeSort]
      omega
    · rw [upd_ne z, hb] at hu
      cases hu
theorem q_sortKT {K : PySem.W.Frag} {H : Hp} {Q : VK} {a : Addr} {kvs : List (List Key × V)} (ha : H a = some (.dT kvs)) (hd : ∀ p ∈ kvs, (keyD p.1).depth ≤ 60) (al : AllAlike (kvs.map fun p => keyD p.1)) (sk : Sortable (kvs.map fun p => keyD p.1))
    (q : ∀ (zs : List KA) (p : Addr) (H' : Hp), zs.map (·.2) = kvs.map (·.1) → (∀ z ∈ zs, H z.1 = some (.tup (z.2.map kV))) → H p = none → Same H H' → H' p = some (.lst ((zs.mergeSort kaLe).map fun z => .ref z.1)) → Q (.ref p) H') : rSortKT K [.ref a] H Q :=
  ⟨a, kvs, rfl, ha, hd, al, sk, fun zs p e1 e2 n => q zs p _ e1 e2 n (Same.new n) upd_same⟩
end DT
end Bt
namespace Bt
open PySem PySem.Spec PyProof.Rows L2 LamX NdefX
open PySem.W (dataLt dataLe alike AllAlike Sortable)
theorem words92_ : True := by
  k_with "s_C16b" => first
    | ((with_reducible refine' s_var ?hv ?_); (case hv => exact rfl))
    | with_reducible first
      | refine' s_c ?_ | refine' s_op ?_ | refine' s_asg ?_ | refine' s_gname ?_ | refine' s_seq ?_ | refine' s_next ?_ | refine' s_ret ?_ | refine' s_ifS ?_ | refine' s_drop ?_ | refine' s_retN ?_ | refine' s_test ?_ | refine' s_B ?_ | refine' q_test ?_ | refine' s_int ?_ | refine' s_cons ?_ | refine' s_nil ?_ | refine' s_call ?_ | refine' s_CB ?_ | refine' s_andT ?_ | refine' s_orT ?_ | refine' s_notT ?_ | refine' s_andV ?_ | refine' s_orV ?_ | refine' s_notV ?_ | refine' s_ifV ?_ | refine' s_chain ?_ | refine' s_sl ?_ | refine' s_noPart ?_ | refine' s_part ?_ | refine' s_gsub ?_ | refine' s_BM ?_ | refine' s_tup ?_ | refine' s_lst ?_ | refine' q_add ?_ | refine' q_sub ?_ | refine' q_lt ?_ | refine' q_le ?_ | refine' q_gt ?_ | refine' q_ge ?_ | refine' s_ifT ?_ | refine' s_ifF ?_ | refine' s_yes ?_ | refine' s_iStr ?_ | refine' s_M0 ?_ | refine' s_for ?_ | refine' s_rng1 ?_ | refine' s_par ?_ | refine' s_gcons ?_ | refine' s_gnil ?_ | refine' s_iList ?_ | refine' s_iEnum ?_ | refine' s_raise1 ?_
      | (refine' q_mod ?hm ?_; (case hm => first | omega | decide))
    | dsimp only
  k_with "r_C16b" => repeat (k_extra "s_C16b")
  trivial
/-! ### is_change, is_possible, carry_out -/
theorem s_iTup {K : PySem.W.Frag} {te : TE} {σ : L2.St} {H : Hp} {R : It → Hp → Prop} (h : te σ H fun x H1 => ∃ a, x = .ref a ∧ (∃ xs, SqT K H1 a xs) ∧ R (Itt K a) H1) : iTup K te σ H R := h
theorem q_slT2 {K : PySem.W.Frag} {H : Hp} {Q : VK} {a : Addr} {x y : V} {ys : List V} (h : SqT K H a (x :: y :: ys)) (q : ∀ p H', H p = none → Same H H' → H' p = some (.tup ys) → Q (.ref p) H') : rSlT K (.ref a) (some 2) none H Q := by
  refine ⟨a, _, rfl, h, fun ⟨e, _⟩ => ?_, fun p n => ?_⟩
  · rw [show (2 : Int) = ((2 : Nat) : Int) from rfl, HT.sIx_nat, List.length_cons, List.length_cons] at e
    omega
  · rw [show (some 2 : Option Int) = some ((2 : Nat) : Int) from rfl, cutV_drop]
    exact q p _ n (Same.new n) upd_same
theorem s_dnotin {ty td : TE} {σ : L2.St} {H : Hp} {Q : VK} (h : ty σ H fun y H1 => td σ H1 fun x H2 => ∃ a o, x = .ref a ∧ DGet H2 a y o ∧ Q (.bl (!o.isSome)) H2) : tDNotIn ty td σ H Q := h
theorem s_dput {td ty tv : TE} {D : Ends} {σ : L2.St} {H : Hp} (h : tv σ H fun v H1 => td σ H1 fun x H2 => ty σ H2 fun y H3 => ∃ a H4, x = .ref a ∧ DPut H3 a y v H4 ∧ D.nx σ H4) : sDPut td ty tv D σ H := h
section
variable {P : Program} {w : World} {K : PySem.W.Frag} {mg : Str → Option Value} {base : Heap}
def spIsChange : Sp := fun vs H Q _ => ∃ x z, vs = [x] ∧ ChAt H x z ∧ 0 ≤ z.1 ∧ (∀ p ∈ z.2.pcs, NmP p) ∧ ∀ H', Same H H' → Q (.bl true) H'
theorem ok_is_change (T : Txt K mg) (N : TxtN K mg) (I : TxtI K mg) (C : TxtC16 K mg) : Cal P w K mg base 3 "is_change" spIsChange := by
  refine C.d_ic.cal sc_is_change (fun vs H Q E h => ?_) (fun f cdv A outer s H vs Q E hr h => ?_)
  · obtain ⟨x, z, rfl, _⟩ := h
    rfl
  · obtain ⟨x, z, rfl, ⟨t, ys, rfl, ht, hy⟩, g0, nm, k⟩ := h
    have hu := hr.units
    refine ⟨_, (pss_cons (ps_if (pt_not (PW.pt (pw_and (pt_val (pe_callB call_isi (by rfl) T.n_isinstance (by decide +kernel) (pa_cons (pv 0) (pa_cons (pe_bltn (v := .ty "tuple") (by rfl) T.n_tuple (by decide +kernel) rfl) pa_nil)))) (pw_and (pt_cmpR op_geI (pe_callB call_lenQ (by rfl) N.n_len (by decide +kernel) (pa_cons (pv 0) pa_nil)) pe_int (by rfl)) (pw_and (pt_val (pe_c (ok_is_whole T) hr (by decide) rfl (pa_cons (pe_ix ix_seq (pv 0) pe_int (fun _ _ => rfl)) pa_nil))) (pw_and1 (pt_cmpR op_geI (pe_ix ix_seq (pv 0) pe_int (fun _ _ => rfl)) pe_int (by rfl)))))))) (pss_one (ps_ret pe_bl)) pss_nil)
      (pss_cons (ps_if (pt_cmpR op_notIn_seq (pe_ix ix_seq (pv 0) pe_int (fun _ _ => rfl)) (pe_tup (pa_cons pe_str (pa_cons pe_str (pa_cons pe_str pa_nil)))) (by rfl)) (pss_one (ps_ret pe_bl)) pss_nil)
      (C8.pss_cut (ps_set (i := 1) sc_is_change.nd rfl (.inl rfl) (pe_ifExp (pt_cmpR op_eq (pe_ix ix_seq (pv 0) pe_int (fun _ _ => rfl)) pe_str (by rfl)) pe_int pe_int))
      (pss_one (ps_ret (pe_and (pe_cmpR op_eq (pe_callB call_lenQ (by rfl) N.n_len (by decide +kernel) (pa_cons (pv 0) pa_nil)) (pe_op op_addU pe_int (pv 1)) (by rfl)) (pe_one (pe_callB (call_allB rfl) (by rfl) N.n_all (by decide +kernel) (pa_cons (pe_lc (own := [("item", 2)]) (g := gName 2) (tt := tYes) (te := tCall (spPlace K) [] E0 (tCons (tVar 2) tNil)) rfl sc_is_change.nd (pi_tup (pe_slice sl_tup (pv 0) (po_some pe_int) po_none)) (blkOk_by (own := [("item", 2)]) (N := ["value", "many", "item"]) (sc := defScope s_is_change) (by decide +kernel)) (fun _ _ _ _ _ => pg_name (i := 2) sc_is_change.nd rfl (Or.inl rfl)) (fun _ _ _ _ _ => pts_nil) (fun _ _ _ _ _ => by exact (pe_c (ok_is_place T N I) hr (by decide) rfl (pa_cons (pv 2) pa_nil)))) pa_nil))))))))), ?_⟩
    have ly : ys.length = z.2.pcs.length := hy.len
    have l1 : 1 ≤ ys.length ∧ ys.length ≤ 2 := by
      rw [ly]
      cases z.2 <;> simp [Ch.pcs]
    k_extra "r_C16b"
    refine q_isi (Pl.tup ht) .tup ?_
    k_extra "r_C16b"
    refine s_if1 rfl ?_
    k_extra "r_C16b"
    refine q_lenT (SqT.of ht) ?_
    k_extra "r_C16b"
    refine s_ifD (fun _ => ?_) (fun e => absurd (by simp; omega) e)
    k_extra "r_C16b"
    refine q_ixT (SqT.of ht) (at_of (j := 0) rfl rfl) ?_
    k_extra "r_C16b"
    refine ⟨.int z.1, "int", rfl, Pl.int, ?_⟩
    k_extra "r_C16b"
    refine s_if1 rfl ?_
    k_extra "r_C16b"
    refine q_ixT (SqT.of ht) (at_of (j := 0) rfl rfl) ?_
    k_extra "r_C16b"
    refine s_ifND (fun _ => ?_) (fun e => absurd g0 e)
    k_extra "r_C16b"
    refine q_ixT (SqT.of ht) (at_of (j := 1) rfl rfl) ?_
    k_extra "r_C16b"
    refine q_newT (by show 3 ≤ sizeLine; decide) fun t1 H1 n1 S1 h1 => ?_
    refine ⟨t1, (["add", "take", "rename"] : List Str).map V.str, rfl, .inr (SqT.of h1), rfl, flat_strs _, ?_⟩
    rw [inV_strs, decide_eq_true (by cases z.2 <;> simp [Ch.wd])]
    refine q_test (s_if0 rfl ?_)
    k_extra "r_C16b"
    refine q_cut8 (M := fun σ H' => σ = [some (.ref t), some (.int ys.length), none] ∧ Same H H') ?_ ?_
    · k_extra "r_C16b"
      refine q_ixT (SqT.of (S1 _ _ ht)) (at_of (j := 1) rfl rfl) ?_
      k_extra "r_C16b"
      refine ⟨rfl, ?_⟩
      obtain ⟨g, c⟩ := z
      cases c with
      | add p =>
        refine q_test (s_if0 (show decide (V.str "add" = V.str "rename") = false by decide +kernel) ?_)
        k_extra "r_C16b"
        exact ⟨by rw [ly]; rfl, S1⟩
      | take p =>
        refine q_test (s_if0 (show decide (V.str "take" = V.str "rename") = false by decide +kernel) ?_)
        k_extra "r_C16b"
        exact ⟨by rw [ly]; rfl, S1⟩
      | ren p q =>
        refine q_test (s_if1 (show decide (V.str "rename" = V.str "rename") = true by decide) ?_)
        k_extra "r_C16b"
        exact ⟨by rw [ly]; rfl, S1⟩
    clear h1 n1 S1
    rintro σ H1 ⟨rfl, S1⟩
    k_extra "r_C16b"
    refine q_lenT (SqT.of (S1 _ _ ht)) ?_
    k_extra "r_C16b"
    refine ⟨rfl, ?_⟩
    rw [decide_eq_true (by simp; omega)]
    k_extra "r_C16b"
    refine s_lc ?_
    k_extra "r_C16b"
    refine s_iTup ?_
    k_extra "r_C16b"
    refine q_slT2 (SqT.of (S1 _ _ ht)) fun p H2 n2 S2 h2 => ?_
    refine ⟨p, rfl, ⟨_, SqT.of h2⟩, fun D nD => lc_tup (K := K) (a := p) (xs := ys) (fun i H' => Same H2 H' ∧ H' D = some (.lst ((ys.take i).map fun _ => .bl true))) ⟨Same.new nD, upd_same⟩ (fun i H' _ h => SqT.of (h.1 _ _ h2)) ?_ ?_⟩
    · rintro j x H3 hj ⟨S3, h3⟩
      obtain ⟨q, mq, hq⟩ := hy.get hj
      have lt := (List.getElem?_eq_some_iff.mp hj).1
      k_extra "r_C16b"
      refine ⟨rfl, ?_⟩
      k_extra "r_C16b"
      refine q_isPl (hq.mono (S1.trans (S2.trans S3))) (nm q mq) fun H4 S4 => ?_
      refine ⟨_, S4 _ _ h3, ?_, same_mut (S3.trans S4) nD, ?_⟩
      · rw [List.length_map, List.length_take]
        exact szlt (by omega)
      · rw [upd_same, take_map_more hj]
    · rintro H3 ⟨S3, h3⟩
      rw [List.take_of_length_le (Nat.le_refl _)] at h3
      k_extra "r_C16b"
      refine q_allB (bs := ys.map fun _ => true) (SqL.of (by rw [List.map_map]; exact h3)) ?_
      rw [show (ys.map fun _ => true).all id = true by simp]
      exact k H3 (S1.trans (S2.trans S3))
/-! ### what stands, as a dict -/
/-- the dict of the places st -/
def stK (st : List Plc) : List (List Key × V) := st.map fun p => (keyOf p, V.bl true)
theorem valV_stK (st : List Plc) (p : Plc) : (valV (stK st) (keyOf p)).isSome = decide (p ∈ st) := by
  induction st with
  | nil => rfl
  | cons q st ih =>
    show (valV ((keyOf q, V.bl true) :: stK st) (keyOf p)).isSome = _
    by_cases e : q = p
    · rw [valV_pos (congrArg keyOf e), decide_eq_true (by simp [e])]
      rfl
    · rw [valV_neg (fun z => e (keyOf_inj z)), ih]
      exact decide_eq_decide.mpr ⟨fun h => List.mem_cons_of_mem _ h, fun h => (List.mem_cons.mp h).resolve_left fun z => e z.symm⟩
theorem dropK_stK (st : List Plc) (p : Plc) : dropK (stK st) (keyOf p) = stK (st.filter fun q => decide (q ≠ p)) := by
  unfold dropK stK
  rw [List.filter_map]
  congr 1
  refine List.filter_congr fun q _ => ?_
  exact decide_eq_decide.mpr ⟨fun h e => h (congrArg keyOf e), fun h e => h (keyOf_inj e)⟩
theorem putK_stK {st : List Plc} {p : Plc} (n : p ∉ st) : putK (stK st) (keyOf p) (.bl true) = stK (st ++ [p]) := by
  have : valV (stK st) (keyOf p) = none := by
    cases e : valV (stK st) (keyOf p) with
    | none => rfl
    | some v =>
      have := valV_stK st p
      rw [e, decide_eq_false n] at this
      cases this
  rw [putK_new _ this]
  unfold stK
  rw [List.map_append]
  rfl
theorem stK_len (st : List Plc) : (stK st).length = st.length := List.length_map _
/-- a change can be made -/
def Can (st : List Plc) (c : Ch) : Prop := (∀ p, c.gs = some p → p ∈ st) ∧ ∀ q, c.cs = some q → q ∉ st
/-- the change made -/
def mkC (st : List Plc) (c : Ch) : List Plc := (match c.gs with | none => st | some p => st.filter fun q => decide (q ≠ p)) ++ c.cs.toList
def spPoss : Sp := fun vs H Q _ => ∃ x z d st, vs = [x, .ref d] ∧ ChAt H x z ∧ H d = some (.dT (stK st)) ∧ Can st z.2 ∧ Q (.bl true) H
theorem ok_is_possible (C : TxtC16 K mg) : Cal P w K mg base 2 "is_possible" spPoss := by
  refine C.d_poss.cal sc_is_possible (fun vs H Q E h => ?_) (fun f cdv A outer s H vs Q E hr h => ?_)
  · obtain ⟨x, z, d, st, rfl, _⟩ := h
    rfl
  · obtain ⟨x, z, d, st, rfl, hx, hd, can, k⟩ := h
    have hu := hr.units
    refine ⟨_, (pss_cons (ps_par (i := 2) (j := 3) (by rfl) sc_is_possible.nd rfl rfl (by decide) rfl rfl (pa_cons (pe_c (ok_goes C) hr (by decide) rfl (pa_cons (pv 0) pa_nil)) (pa_cons (pe_c (ok_comes C) hr (by decide) rfl (pa_cons (pv 0) pa_nil)) pa_nil)) (by rfl))
      (pss_one (ps_ret (pe_and (pe_or (pe_cmpR op_isNon (pv 2) pe_non (by rfl)) (pe_one (pe_cmp (pc_din (lt1 hu) (pv 2) (pv 1))))) (pe_one (pe_or (pe_cmpR op_isNon (pv 3) pe_non (by rfl)) (pe_one (pe_cmp (pc_dnotin (lt1 hu) (pv 3) (pv 1)))))))))), ?_⟩
    k_extra "r_C16b"
    refine ⟨x, z, rfl, hx, fun y hy => ?_⟩
    k_extra "r_C16b"
    refine ⟨x, z, rfl, hx, fun u hu' => ?_⟩
    k_extra "r_C16b"
    refine ⟨_, _, rfl, ?_⟩
    k_extra "r_C16b"
    have fin : tOrV (tOp rIsN (tVar 3) (tC .non)) (tDNotIn (tVar 3) (tVar 1)) [some x, some (.ref d), some y, some u] H Q := by
      k_extra "r_C16b"
      refine q_isNon ?_
      cases e : z.2.cs with
      | none =>
        rw [e] at hu'
        obtain rfl : u = .non := hu'
        refine ⟨_, rfl, s_if1 (decide_eq_true rfl) ?_⟩
        exact k
      | some q =>
        rw [e] at hu'
        obtain ⟨b, rfl, hb⟩ := hu'
        refine ⟨_, rfl, s_if0 (decide_eq_false fun z => by cases z) ?_⟩
        refine s_dnotin ?_
        k_extra "r_C16b"
        refine ⟨d, _, rfl, DGet.t (k := keyOf q) hd hb, ?_⟩
        rw [valV_stK, decide_eq_false (can.2 q e)]
        exact k
    refine q_isNon ?_
    cases e : z.2.gs with
    | none =>
      rw [e] at hy
      obtain rfl : y = .non := hy
      refine ⟨_, rfl, s_if1 (decide_eq_true rfl) ?_⟩
      exact ⟨_, rfl, s_if1 rfl fin⟩
    | some p =>
      rw [e] at hy
      obtain ⟨b, rfl, hb⟩ := hy
      refine ⟨_, rfl, s_if0 (decide_eq_false fun z => by cases z) ?_⟩
      refine s_din ?_
      k_extra "r_C16b"
      refine ⟨d, _, rfl, DGet.t (k := keyOf p) hd hb, ?_⟩
      rw [valV_stK, decide_eq_true (can.1 p e)]
      exact ⟨_, rfl, s_if1 rfl fin⟩
def spCarry : Sp := fun vs H Q _ => ∃ x z d st, vs = [x, .ref d] ∧ ChAt H x z ∧ H d = some (.dT (stK st)) ∧ st.length < 100 ∧ Can st z.2 ∧ ∀ H', H' d = some (.dT (stK (mkC st z.2))) → But d H H' → Q .non H'
theorem ok_carry_out (C : TxtC16 K mg) : Cal P w K mg base 2 "carry_out" spCarry := by
  refine C.d_carry.cal sc_carry_out (fun vs H Q E h => ?_) (fun f cdv A outer s H vs Q E hr h => ?_)
  · obtain ⟨x, z, d, st, rfl, _⟩ := h
    rfl
  · obtain ⟨x, z, d, st, rfl, hx, hd, hz, can, k⟩ := h
    have hu := hr.units
    refine ⟨_, (pss_cons (ps_par (i := 2) (j := 3) (by rfl) sc_carry_out.nd rfl rfl (by decide) rfl rfl (pa_cons (pe_c (ok_goes C) hr (by decide) rfl (pa_cons (pv 0) pa_nil)) (pa_cons (pe_c (ok_comes C) hr (by decide) rfl (pa_cons (pv 0) pa_nil)) pa_nil)) (by rfl))
      (C8.pss_cut (ps_if (pt_cmpR op_isNotNon (pv 2) pe_non (by rfl)) (pss_one (DT.ps_ddelT (lt1 hu) (pv 1) (pv 2))) pss_nil)
      (pss_one (ps_if (pt_cmpR op_isNotNon (pv 3) pe_non (by rfl)) (pss_one (ps_dput (lt1 hu) (pv 1) (pv 3) pe_bl rfl)) pss_nil)))), ?_⟩
    k_extra "r_C16b"
    refine ⟨x, z, rfl, hx, fun y hy => ?_⟩
    k_extra "r_C16b"
    refine ⟨x, z, rfl, hx, fun u hu' => ?_⟩
    k_extra "r_C16b"
    refine ⟨_, _, rfl, ?_⟩
    k_extra "r_C16b"
    obtain ⟨s1, es1⟩ : ∃ s1 : List Plc, s1 = (match z.2.gs with | none => st | some p => st.filter fun q => decide (q ≠ p)) := ⟨_, rfl⟩
    refine q_cut8 (M := fun σ H' => σ = [some x, some (.ref d), some y, some u] ∧ H' d = some (.dT (stK s1)) ∧ But d H H') ?_ ?_
    · k_extra "r_C16b"
      refine q_isNotNon ?_
      cases e : z.2.gs with
      | none =>
        rw [e] at hy es1
        obtain rfl : y = .non := hy
        refine ⟨_, rfl, s_if0 (by decide) ?_⟩
        k_extra "r_C16b"
        exact ⟨rfl, by rw [es1]; exact hd, fun _ _ _ e => e⟩
      | some p =>
        rw [e] at hy es1
        obtain ⟨b, rfl, hb⟩ := hy
        refine ⟨_, rfl, s_if1 (by simp) ?_⟩
        refine DT.s_ddelT ?_
        k_extra "r_C16b"
        refine ⟨d, b, _, keyOf p, rfl, rfl, hd, hb, by rw [valV_stK]; exact decide_eq_true (can.1 p e), ?_⟩
        exact ⟨rfl, by rw [upd_same, dropK_stK, es1], But.upd⟩
    rintro σ H1 ⟨rfl, h1, b1⟩
    k_extra "r_C16b"
    refine q_isNotNon ?_
    have lz : s1.length ≤ st.length := by
      rw [es1]
      cases z.2.gs with
      | none => exact Nat.le_refl _
      | some p => exact List.length_filter_le _ _
    have sub : ∀ p ∈ s1, p ∈ st := fun p hp => by
      rw [es1] at hp
      cases e : z.2.gs with
      | none => rw [e] at hp; exact hp
      | some q => rw [e] at hp; exact (List.mem_filter.mp hp).1
    cases e : z.2.cs with
    | none =>
      rw [e] at hu'
      obtain rfl : u = .non := hu'
      refine ⟨_, rfl, s_if0 (by decide) ?_⟩
      refine k H1 ?_ b1
      rw [h1]
      unfold mkC
      rw [e, ← es1]
      simp
    | some q =>
      rw [e] at hu'
      obtain ⟨b, rfl, hb⟩ := hu'
      have nb : b ≠ d := fun z => by rw [z, hd] at hb; cases hb
      refine ⟨_, rfl, s_if1 (by simp) ?_⟩
      refine s_dput ?_
      k_extra "r_C16b"
      refine ⟨d, _, rfl, DPut.t (k := keyOf q) h1 (b1 _ _ nb hb) (szlt (by rw [stK_len]; omega)), ?_⟩
      refine k _ ?_ (b1.trans But.upd)
      rw [upd_same, putK_stK fun m => can.2 q e (sub q m)]
      unfold mkC
      rw [e, ← es1]
      rfl
end
end Bt
namespace Bt
open PySem PySem.Spec PyProof.Rows L2 LamX NdefX
open PySem.W (dataLt dataLe alike AllAlike Sortable)
theorem words93_ : True := by
  k_with "s_S16" => first
    | ((with_reducible refine' s_var ?hv ?_); (case hv => exact rfl))
    | with_reducible first
      | refine' s_c ?_ | refine' s_op ?_ | refine' s_asg ?_ | refine' s_gname ?_ | refine' s_seq ?_ | refine' s_next ?_ | refine' s_ret ?_ | refine' s_ifS ?_ | refine' s_drop ?_ | refine' s_retN ?_ | refine' s_test ?_ | refine' s_B ?_ | refine' q_test ?_ | refine' s_int ?_ | refine' s_cons ?_ | refine' s_nil ?_ | refine' s_call ?_ | refine' s_CB ?_ | refine' s_andT ?_ | refine' s_orT ?_ | refine' s_notT ?_ | refine' s_andV ?_ | refine' s_orV ?_ | refine' s_notV ?_ | refine' s_ifV ?_ | refine' s_chain ?_ | refine' s_sl ?_ | refine' s_noPart ?_ | refine' s_part ?_ | refine' s_gsub ?_ | refine' s_BM ?_ | refine' s_tup ?_ | refine' s_lst ?_ | refine' q_add ?_ | refine' q_sub ?_ | refine' q_lt ?_ | refine' q_le ?_ | refine' q_gt ?_ | refine' q_ge ?_ | refine' s_ifT ?_ | refine' s_ifF ?_ | refine' s_yes ?_ | refine' s_iStr ?_ | refine' s_M0 ?_ | refine' s_for ?_ | refine' s_rng1 ?_ | refine' s_par ?_ | refine' s_gcons ?_ | refine' s_gnil ?_ | refine' s_iList ?_ | refine' s_iEnum ?_ | refine' s_raise1 ?_
      | (refine' q_mod ?hm ?_; (case hm => first | omega | decide))
    | dsimp only
  k_with "r_S16" => repeat (k_extra "s_S16")
  trivial
/-! ### changes in a row -/
def Run : List Plc → Int → List GC → Prop
  | _, _, [] => True
  | st, g, z :: zs => g ≤ z.1 ∧ Can st z.2 ∧ (∀ p ∈ z.2.pcs, NmP p) ∧ st.length < 90 ∧ Run (mkC st z.2) z.1 zs
def runC (st : List Plc) (zs : List GC) : List Plc := zs.foldl (fun st z => mkC st z.2) st
def lastG (g : Int) (zs : List GC) : Int := zs.foldl (fun _ z => z.1) g
theorem Run.get : ∀ {zs : List GC} {st : List Plc} {g : Int}, Run st g zs → ∀ {i : Nat} {z : GC}, zs[i]? = some z → g ≤ lastG g (zs.take i) ∧ lastG g (zs.take i) ≤ z.1 ∧ Can (runC st (zs.take i)) z.2 ∧ (∀ p ∈ z.2.pcs, NmP p) ∧ (runC st (zs.take i)).length < 90
  | [], _, _, _, i, z, e => by simp at e
  | y :: zs, st, g, ⟨h1, h2, h3, h4, h5⟩, 0, z, e => by
    cases Option.some.inj e
    exact ⟨Int.le_refl _, h1, h2, h3, h4⟩
  | y :: zs, st, g, ⟨h1, h2, h3, h4, h5⟩, i + 1, z, e => by
    obtain ⟨k1, k2, k3, k4, k5⟩ := Run.get h5 (i := i) (z := z) (by simpa using e)
    exact ⟨Int.le_trans h1 k1, k2, k3, k4, k5⟩
theorem runC_next (st : List Plc) {zs : List GC} {i : Nat} {z : GC} (e : zs[i]? = some z) : runC st (zs.take (i + 1)) = mkC (runC st (zs.take i)) z.2 := by
  unfold runC
  rw [List.take_add_one, e, List.foldl_append]
  rfl
theorem lastG_next (g : Int) {zs : List GC} {i : Nat} {z : GC} (e : zs[i]? = some z) : lastG g (zs.take (i + 1)) = z.1 := by
  unfold lastG
  rw [List.take_add_one, e, List.foldl_append]
  rfl
structure TxtS16 (K : PySem.W.Frag) (mg : Str → Option Value) : Prop where
  d_may : Df K mg "may_come" s_may_come ["change", "gap", "standing"]
  d_sb : Df K mg "_standing_behind" s__standing_behind ["first", "changes"]
  d_ci : Df K mg "check_index" s_check_index ["value", "many"]
  d_cl : Df K mg "check_least" s_check_least ["value", "least"]
section
variable {P : Program} {w : World} {K : PySem.W.Frag} {mg : Str → Option Value} {base : Heap}
def spMay : Sp := fun vs H Q _ => ∃ x z g d st, vs = [x, .int g, .ref d] ∧ ChAt H x z ∧ 0 ≤ z.1 ∧ g ≤ z.1 ∧ (∀ p ∈ z.2.pcs, NmP p) ∧ H d = some (.dT (stK st)) ∧ Can st z.2 ∧ ∀ H', Same H H' → Q (.bl true) H'
theorem ok_may_come (T : Txt K mg) (N : TxtN K mg) (I : TxtI K mg) (C : TxtC16 K mg) (S : TxtS16 K mg) : Cal P w K mg base 4 "may_come" spMay := by
  refine S.d_may.cal sc_may_come (fun vs H Q E h => ?_) (fun f cdv A outer s H vs Q E hr h => ?_)
  · obtain ⟨x, z, g, d, st, rfl, _⟩ := h
    rfl
  · obtain ⟨x, z, g, d, st, rfl, hx, g0, gz, nm, hd, can, k⟩ := h
    refine ⟨_, (pss_one (ps_ret (pe_and (pe_c (ok_is_change T N I C) hr (by decide) rfl (pa_cons (pv 0) pa_nil)) (pe_and (pe_cmpR op_geI (pe_ix ix_seq (pv 0) pe_int (fun _ _ => rfl)) (pv 1) (by rfl)) (pe_one (pe_c (ok_is_possible C) hr (by decide) rfl (pa_cons (pv 0) (pa_cons (pv 2) pa_nil)))))))), ?_⟩
    k_extra "r_S16"
    refine ⟨x, z, rfl, hx, g0, nm, fun H1 S1 => ?_⟩
    k_extra "r_S16"
    have hx1 := hx.mono S1
    obtain ⟨t, ys, rfl, ht, hy⟩ := id hx1
    refine q_ixT (SqT.of ht) (at_of (j := 0) rfl rfl) ?_
    k_extra "r_S16"
    rw [decide_eq_true gz]
    k_extra "r_S16"
    refine ⟨_, z, d, st, rfl, hx1, S1 _ _ hd, can, ?_⟩
    exact k H1 S1
def spSB : Sp := fun vs H Q _ => ∃ f xs ps c ts zs, vs = [.ref f, .ref c] ∧ H f = some (.lst xs) ∧ Pls H xs ps ∧ (∀ p ∈ ps, NmP p) ∧ xs.length < 64 ∧ ps.Nodup ∧ H c = some (.lst ts) ∧ ChsAt H ts zs ∧ Run ps 0 zs ∧ ∀ D H', H D = none → Same H H' → H' D = some (.dT (stK (runC ps zs))) → Q (.ref D) H'
/-- the places of a list as a dict, one more -/
theorem Pls.get2 {H : Hp} {xs : List V} {ps : List Plc} (h : Pls H xs ps) : ∀ {i : Nat} {x : V}, xs[i]? = some x → ∃ q, ps[i]? = some q ∧ PlAt H x q := by
  induction h with
  | nil => intro i x e; simp at e
  | cons h _ ih =>
    intro i x e
    cases i with
    | zero => cases Option.some.inj e; exact ⟨_, rfl, h⟩
    | succ i =>
      obtain ⟨q, m, p⟩ := ih (i := i) (by simpa using e)
      exact ⟨q, by simpa using m, p⟩
theorem nd_next {ps : List Plc} (nd : ps.Nodup) {i : Nat} {q : Plc} (e : ps[i]? = some q) : q ∉ ps.take i := fun m => by
  have lt := List.getElem?_eq_some_iff.mp e
  have hw : ps = ps.take i ++ q :: ps.drop (i + 1) := by rw [← lt.2, ← List.drop_eq_getElem_cons lt.1, List.take_append_drop]
  rw [hw, List.nodup_append] at nd
  exact nd.2.2 q m q List.mem_cons_self rfl
theorem ok__standing_behind (T : Txt K mg) (N : TxtN K mg) (I : TxtI K mg) (C : TxtC16 K mg) (S : TxtS16 K mg) : Cal P w K mg base 5 "_standing_behind" spSB := by
  refine S.d_sb.cal sc__standing_behind (fun vs H Q E h => ?_) (fun fn cdv A outer s H vs Q E hr h => ?_)
  · obtain ⟨f, xs, ps, c, ts, zs, rfl, _⟩ := h
    rfl
  · obtain ⟨f, xs, ps, c, ts, zs, rfl, hf, pl, nm, hz, nd, hc, cs, run, k⟩ := h
    have hu := hr.units
    refine ⟨_, (pss_cons (ps_if (pt_not (PW.pt (pw_and (pt_val (pe_c (ok_is_place_list T N I C) hr (by decide) rfl (pa_cons (pv 0) pa_nil))) (pw_and1 (pt_val (pe_callB call_isi (by rfl) T.n_isinstance (by decide +kernel) (pa_cons (pv 1) (pa_cons (pe_bltn (v := .ty "list") (by rfl) T.n_list (by decide +kernel) rfl) pa_nil)))))))) (pss_one (ps_ret pe_non)) pss_nil)
      (C8.pss_cut (DT.ps_setDcT (i := 2) (own := [("place", 5)]) (g := gName 5) (tt := tYes) (tk := tVar 5) (tv := tC (.bl true)) rfl rfl (DT.swD_true rfl rfl rfl (by decide +kernel)) rfl (lt2 hu) sc__standing_behind.nd (pi_list (pv 0)) (blkOk_by (own := [("place", 5)]) (N := ["first", "changes", "standing", "gap", "change", "place"]) (sc := defScope s__standing_behind) (by decide +kernel)) (fun _ _ _ _ _ => pg_name (i := 5) sc__standing_behind.nd rfl (Or.inl rfl)) (fun _ _ _ _ _ => pts_nil) (fun _ _ _ _ _ => pv 5) (fun _ _ _ _ _ => pe_bl))
      (pss_cons (ps_set (i := 3) sc__standing_behind.nd rfl (.inl rfl) pe_int)
      (pss_cons (ps_for PassesOwn.never rfl (pi_list (pv 1)) (pg_name (i := 4) sc__standing_behind.nd rfl (.inl rfl))
        (pss_cons (ps_if (pt_not (pt_val (pe_c (ok_may_come T N I C S) hr (by decide) rfl (pa_cons (pv 4) (pa_cons (pv 3) (pa_cons (pv 2) pa_nil)))))) (pss_one (ps_ret pe_non)) pss_nil)
          (pss_cons (ps_expr (pe_c (ok_carry_out C) hr (by decide) rfl (pa_cons (pv 4) (pa_cons (pv 2) pa_nil))))
          (pss_one (ps_set (i := 3) sc__standing_behind.nd rfl (.inl rfl) (pe_ix ix_seq (pv 4) pe_int (fun _ _ => rfl)))))))
      (pss_one (ps_ret (pv 2))))))), ?_⟩
    k_extra "r_S16"
    refine ⟨f, xs, ps, rfl, hf, pl, nm, hz, nd, fun H1 S1 => ?_⟩
    k_extra "r_S16"
    refine q_isi (Pl.lst (S1 _ _ hc)) .lst ?_
    k_extra "r_S16"
    refine s_if0 rfl ?_
    k_extra "r_S16"
    refine q_cut8 (M := fun σ H' => ∃ D, σ = [some (.ref f), some (.ref c), some (.ref D), none, none, none] ∧ H1 D = none ∧ Same H1 H' ∧ H' D = some (.dT (stK ps))) ?_ ?_
    · refine DT.s_dcT ?_
      k_extra "r_S16"
      refine ⟨f, rfl, ⟨_, SqL.of (S1 _ _ hf)⟩, fun D nD => DT.dc_listT (K := K) (a := f) (xs := xs) (fun i H' => Same H1 H' ∧ H' D = some (.dT (stK (ps.take i)))) ⟨Same.new nD, upd_same⟩ (fun i H' _ h => SqL.of (h.1 _ _ (S1 _ _ hf))) ?_ ?_⟩
      · rintro j x H2 hj ⟨S2, h2⟩
        obtain ⟨q, eq, b, rfl, hb⟩ := pl.get2 hj
        have lt := (List.getElem?_eq_some_iff.mp hj).1
        k_extra "r_S16"
        refine ⟨rfl, ?_⟩
        k_extra "r_S16"
        refine ⟨b, keyOf q, _, rfl, (S1.trans S2) _ _ hb, h2, szlt (by rw [stK_len, List.length_take]; omega), same_mut S2 nD, ?_⟩
        rw [upd_same, putK_stK (nd_next nd eq), List.take_add_one, eq]
        rfl
      · rintro H2 ⟨S2, h2⟩
        rw [List.take_of_length_le (Nat.le_of_eq pl.len.symm)] at h2
        k_extra "r_S16"
        exact ⟨D, rfl, nD, S2, h2⟩
    rintro σ H2 ⟨D, rfl, nD, S2, hD⟩
    k_extra "r_S16"
    have hc2 := (S1.trans S2) _ _ hc
    refine ⟨c, rfl, ⟨_, SqL.of hc2⟩, q_forL (K := K) (a := c) (xs := ts) (fun i σ H' => ∃ v4, σ = [some (.ref f), some (.ref c), some (.ref D), some (.int (lastG 0 (zs.take i))), v4, none] ∧ Same H1 H' ∧ H' D = some (.dT (stK (runC ps (zs.take i))))) ⟨_, rfl, S2, hD⟩ (fun i σ H' _ ⟨_, _, S, _⟩ => SqL.of (S _ _ (S1 _ _ hc))) ?_ ?_⟩
    · rintro i x σ H3 hx ⟨v4, rfl, S3, h3⟩
      obtain ⟨z, ez, hz'⟩ := Paired.get cs hx
      obtain ⟨g1, g2, can, nmz, l9⟩ := run.get ez
      have hx3 := (hz'.mono S1).mono S3
      k_extra "r_S16"
      refine ⟨x, z, _, D, _, rfl, hx3, by omega, g2, nmz, h3, can, fun H4 S4 => ?_⟩
      k_extra "r_S16"
      refine s_if0 rfl ?_
      k_extra "r_S16"
      refine ⟨x, z, D, _, rfl, hx3.mono S4, S4 _ _ h3, by omega, can, fun H5 h5 b5 => ?_⟩
      obtain ⟨t, ys, rfl, ht, _⟩ := hx3.mono S4
      have tD : t ≠ D := fun e => by rw [e, S4 _ _ h3] at ht; cases ht
      k_extra "r_S16"
      refine q_ixT (SqT.of (b5 _ _ tD ht)) (at_of (j := 0) rfl rfl) ?_
      k_extra "r_S16"
      exact ⟨_, by rw [lastG_next 0 ez]; rfl, same_but (S3.trans S4) nD b5, by rw [runC_next ps ez]; exact h5⟩
    · rintro σ H3 ⟨v4, rfl, S3, h3⟩
      have lt : ts.length = zs.length := Paired.length cs
      rw [lt, List.take_of_length_le (Nat.le_refl _)] at h3
      k_extra "r_S16"
      exact k D H3 (S1.free nD) (S1.trans S3) h3
end
end Bt
namespace Bt
open PySem PySem.Spec PyProof.Rows L2 LamX NdefX
open PySem.W (dataLt dataLe alike AllAlike Sortable)
theorem words94_ : True := by
  k_with "s_T16" => first
    | ((with_reducible refine' s_var ?hv ?_); (case hv => exact rfl))
    | with_reducible first
      | refine' s_c ?_ | refine' s_op ?_ | refine' s_asg ?_ | refine' s_gname ?_ | refine' s_seq ?_ | refine' s_next ?_ | refine' s_ret ?_ | refine' s_ifS ?_ | refine' s_drop ?_ | refine' s_retN ?_ | refine' s_test ?_ | refine' s_B ?_ | refine' q_test ?_ | refine' s_int ?_ | refine' s_cons ?_ | refine' s_nil ?_ | refine' s_call ?_ | refine' s_CB ?_ | refine' s_andT ?_ | refine' s_orT ?_ | refine' s_notT ?_ | refine' s_andV ?_ | refine' s_orV ?_ | refine' s_notV ?_ | refine' s_ifV ?_ | refine' s_chain ?_ | refine' s_sl ?_ | refine' s_noPart ?_ | refine' s_part ?_ | refine' s_gsub ?_ | refine' s_BM ?_ | refine' s_tup ?_ | refine' s_lst ?_ | refine' q_add ?_ | refine' q_sub ?_ | refine' q_lt ?_ | refine' q_le ?_ | refine' q_gt ?_ | refine' q_ge ?_ | refine' s_ifT ?_ | refine' s_ifF ?_ | refine' s_yes ?_ | refine' s_iStr ?_ | refine' s_M0 ?_ | refine' s_for ?_ | refine' s_rng1 ?_ | refine' s_par ?_ | refine' s_gcons ?_ | refine' s_gnil ?_ | refine' s_iList ?_ | refine' s_iEnum ?_ | refine' s_raise1 ?_
      | (refine' q_mod ?hm ?_; (case hm => first | omega | decide))
    | dsimp only
  k_with "r_T16" => repeat (k_extra "s_T16")
  trivial
/-! ### stories -/
/-- the tuples are kept -/
def TupK (H H' : Hp) : Prop := ∀ b ys, H b = some (.tup ys) → H' b = some (.tup ys)
theorem TupK.of {H H' : Hp} (S : Same H H') : TupK H H' := fun _ _ e => S _ _ e
theorem TupK.nl {H H' : Hp} (N : NL H H') : TupK H H' := fun _ _ e => N _ _ e (fun _ z => by cases z)
theorem TupK.but {H H' : Hp} {p : Addr} {u : HO} (h : H p = some u) (n : ∀ ys, u ≠ .tup ys) (B : But p H H') : TupK H H' := fun b ys e => B b _ (fun z => by rw [z, h] at e; exact n _ (Option.some.inj e)) e
theorem TupK.trans {H H' H2 : Hp} (a : TupK H H') (b : TupK H' H2) : TupK H H2 := fun _ _ e => b _ _ (a _ _ e)
theorem PlAt.tk {H H' : Hp} {x : V} {q : Plc} (N : TupK H H') : PlAt H x q → PlAt H' x q := fun ⟨a, e, h⟩ => ⟨a, e, N _ _ h⟩
theorem Pls.tk {H H' : Hp} {xs : List V} {ps : List Plc} (N : TupK H H') (h : Pls H xs ps) : Pls H' xs ps := by
  induction h with
  | nil => exact .nil
  | cons h _ ih => exact .cons (h.tk N) ih
theorem ChAt.tk {H H' : Hp} {x : V} {z : GC} (N : TupK H H') : ChAt H x z → ChAt H' x z := fun ⟨t, ys, e, h, p⟩ => ⟨t, ys, e, N _ _ h, p.tk N⟩
theorem ChsAt.tk {H H' : Hp} {xs : List V} {zs : List GC} (N : TupK H H') (h : ChsAt H xs zs) : ChsAt H' xs zs := Paired.mapP h fun _ _ z => z.tk N
theorem eqvAll_pls : ∀ (xs ys : List Plc), PyData.eqvAll (xs.map dPl) (ys.map dPl) = decide (xs = ys)
  | [], [] => by simp [PyData.eqvAll]
  | [], y :: ys => by simp [PyData.eqvAll]
  | x :: xs, [] => by simp [PyData.eqvAll]
  | x :: xs, y :: ys => by
    simp only [List.map_cons, PyData.eqvAll, eqvAll_pls xs ys, eqv_pl, List.cons.injEq]
    rw [Bool.decide_and]
theorem eqv_pls (xs ys : List Plc) : PyData.eqv (dPs xs) (dPs ys) = decide (xs = ys) := by
  unfold dPs
  rw [PyData.eqv]
  exact eqvAll_pls xs ys
/-- a change as data -/
def dCh (z : GC) : PyData := .tuple (.int z.1 :: .str z.2.wd :: z.2.pcs.map dPl)
def dChs (zs : List GC) : PyData := .list (zs.map dCh)
theorem ChAt.dp {K : PySem.W.Frag} {H : Hp} {x : V} {z : GC} : ChAt H x z → Dp K H x (dCh z) := fun ⟨t, ys, e, h, p⟩ => by
  subst e
  exact .tup (SqT.of h) (.cons (.int _) (.cons (.str _) p.dps))
theorem ChsAt.dps {K : PySem.W.Frag} {H : Hp} {xs : List V} {zs : List GC} (h : ChsAt H xs zs) : DpAll K H xs (zs.map dCh) := by
  induction h with
  | nil => exact .nil
  | cons h _ ih => exact .cons h.dp ih
def NmC (zs : List GC) : Prop := ∀ z ∈ zs, ∀ p ∈ z.2.pcs, NmP p
theorem canLay_ch {z : GC} (h : ∀ p ∈ z.2.pcs, NmP p) : PyData.canLay0 (dCh z) = true := by
  have h1 := canLay_pls (ps := z.2.pcs) fun q hq => h q hq
  have h2 : PyData.strOk z.2.wd = true := by
    cases z.2 with
    | add p => exact (by decide +kernel : PyData.strOk "add" = true)
    | take p => exact (by decide +kernel : PyData.strOk "take" = true)
    | ren p q => exact (by decide +kernel : PyData.strOk "rename" = true)
  simp only [dCh, PyData.canLay0, PyData.canLayAll0, h1, h2, Bool.and_true]
theorem canLay_chs : ∀ {zs : List GC}, NmC zs → PyData.canLayAll0 (zs.map dCh) = true
  | [], _ => by simp [PyData.canLayAll0]
  | z :: zs, h => by
    simp only [List.map_cons, PyData.canLayAll0, canLay_ch (h z List.mem_cons_self), canLay_chs fun y hy => h y (List.mem_cons_of_mem _ hy), Bool.and_true]
theorem depth_chs : ∀ (zs : List GC), PyData.depthAll (zs.map dCh) ≤ 8
  | [] => by simp [PyData.depthAll]
  | z :: zs => by
    have h1 := depth_chs zs
    have h2 := depth_pls z.2.pcs
    simp only [List.map_cons, PyData.depthAll, dCh, PyData.depth]
    omega
theorem sh_chs {zs : List GC} (h : NmC zs) : SeqAt.shaped (dChs zs) = true := by
  unfold SeqAt.shaped dChs
  rw [Bool.and_eq_true, decide_eq_true_eq]
  have := depth_chs zs
  refine ⟨by simp only [PyData.canLay0]; exact canLay_chs h, ?_⟩
  simp only [PyData.depth]
  omega
theorem eqvAll_len : ∀ (xs ys : List PyData), xs.length ≠ ys.length → PyData.eqvAll xs ys = false
  | [], [], h => absurd rfl h
  | [], y :: ys, _ => by simp [PyData.eqvAll]
  | x :: xs, [], _ => by simp [PyData.eqvAll]
  | x :: xs, y :: ys, h => by
    rw [PyData.eqvAll, eqvAll_len xs ys (by simpa using h), Bool.and_false]
def stF (f c d : Addr) : List (Str × V) := putF "_last" (.ref d) (putF "_changes" (.ref c) (putF "_first" (.ref f) []))
structure StoryC (K : PySem.W.Frag) (mg : Str → Option Value) (CS : Addr) : Prop where
  cl : Cls K CS
  n1 : NoAttr K CS "_first"
  n2 : NoAttr K CS "_changes"
  n3 : NoAttr K CS "_last"
  g : mg "Story" = some (.ref CS)
  makes : PySem.W.makesIn K CS = true
  kp : PySem.W.keepIn K (.ref CS) = true
  init : ∃ (f : Addr) (fd : FuncData), PySem.W.findIn K (.ref CS) "__init__" = some (some (.ref f)) ∧ PySem.W.isFn K (.ref f) = true ∧ FunD K "__init__" "Story.__init__" (defArgs s_Story___init__) (defBody s_Story___init__) (defScope s_Story___init__) [.non] [] f fd ∧ Binds K fd ["self", "first", "changes"] []
  i1 : PySem.W.findIn K (.ref CS) "__class__" = some (some (.builtin "object.__class__"))
  i2 : PySem.W.specialIn K (.builtin "object.__class__") "__get__" = some (some (.builtin "getset_descriptor.__get__"))
  i3 : PySem.W.takesIn K (.builtin "object.__class__") = some true
  i4 : PySem.W.mroIn K CS (.type "object") = some true
/-- a story that stands -/
structure StoAt (CS : Addr) (H : Hp) (x f c d : Addr) (ps : List Plc) (zs : List GC) (st : List Plc) : Prop where
  hx : ∃ dx, H x = some (.ins CS dx (stF f c d))
  hf : ∃ xs, H f = some (.lst xs) ∧ Pls H xs ps
  hc : ∃ ts, H c = some (.lst ts) ∧ ChsAt H ts zs
  hd : H d = some (.dT (stK st))
  ne : f ≠ c
theorem StoAt.mono {CS : Addr} {H H' : Hp} {x f c d : Addr} {ps : List Plc} {zs : List GC} {st : List Plc} (S : Same H H') (h : StoAt CS H x f c d ps zs st) : StoAt CS H' x f c d ps zs st :=
  ⟨let ⟨dx, e⟩ := h.hx; ⟨dx, S _ _ e⟩, let ⟨xs, e, p⟩ := h.hf; ⟨xs, S _ _ e, p.mono S⟩, let ⟨ts, e, p⟩ := h.hc; ⟨ts, S _ _ e, p.mono S⟩, S _ _ h.hd, h.ne⟩
theorem lk_first (f c d : Addr) : (stF f c d).lookup ("_first" : Str) = some (.ref f) := by
  unfold stF
  rw [lookup_putF, if_neg (by decide +kernel), lookup_putF, if_neg (by decide +kernel), lookup_putF, if_pos rfl]
theorem lk_changes (f c d : Addr) : (stF f c d).lookup ("_changes" : Str) = some (.ref c) := by
  unfold stF
  rw [lookup_putF, if_neg (by decide +kernel), lookup_putF, if_pos rfl]
theorem lk_last (f c d : Addr) : (stF f c d).lookup ("_last" : Str) = some (.ref d) := by
  unfold stF
  rw [lookup_putF, if_pos rfl]
section
variable {P : Program} {w : World} {K : PySem.W.Frag} {mg : Str → Option Value} {base : Heap} {CS CI : Addr}
def spInit (CS : Addr) : Sp := fun vs H Q _ => ∃ p dx f xs ps c ts zs, vs = [.ref p, .ref f, .ref c] ∧ H p = some (.ins CS dx []) ∧ H f = some (.lst xs) ∧ Pls H xs ps ∧ (∀ p ∈ ps, NmP p) ∧ xs.length < 64 ∧ ps.Nodup ∧ H c = some (.lst ts) ∧ ChsAt H ts zs ∧ Run ps 0 zs ∧
  ∀ H' f' c' d', StoAt CS H' p f' c' d' (ps.mergeSort pLe) zs (runC ps zs) → H f' = none → H c' = none → H d' = none → But p H H' → Q .non H'
theorem ok_story_init {f : Addr} {fd : FuncData} (T : Txt K mg) (N : TxtN K mg) (I : TxtI K mg) (C : TxtC16 K mg) (S : TxtS16 K mg) (SC : StoryC K mg CS)
    (F : FunD K "__init__" "Story.__init__" (defArgs s_Story___init__) (defBody s_Story___init__) (defScope s_Story___init__) [.non] [] f fd) : FnOk P w K mg base (L2.CX P w) 6 f fd ["self", "first", "changes"] (spInit CS) := by
  refine F.ok sc_Story___init__ (fun vs H Q E h => ?_) (fun cdv A outer s H vs Q E hr h => ?_)
  · obtain ⟨p, dx, f, xs, ps, c, ts, zs, rfl, _⟩ := h
    rfl
  · obtain ⟨p, dx, f, xs, ps, c, ts, zs, rfl, hp, hf, pl, nm, hz, nd, hc, cs, run, k⟩ := h
    have hu := hr.units
    refine ⟨_, (pss_cons (ps_set (i := 3) sc_Story___init__.nd rfl (.inl rfl) (pe_ifExp (pt_cmpR op_isNon (pv 2) pe_non (by rfl)) (pe_lst pa_nil) (pv 2)))
      (pss_cons (ps_set (i := 4) sc_Story___init__.nd rfl (.inl rfl) (pe_c (ok__standing_behind T N I C S) hr (by decide) rfl (pa_cons (pv 1) (pa_cons (pv 3) pa_nil))))
      (pss_cons (ps_if (pt_cmpR op_isNon (pv 4) pe_non (by rfl)) pss_deadA pss_nil)
      (pss_cons (ps_fld (pv 0) (pe_callB (cr_sortD hu) (by rfl) T.n_sorted (by decide +kernel) (pa_cons (pv 1) pa_nil)) rfl)
      (pss_cons (ps_fld (pv 0) (pe_callTy call_listOf (by rfl) T.n_list (by decide +kernel) (pa_cons (pv 3) pa_nil)) rfl)
      (pss_one (ps_fld (pv 0) (pv 4) rfl))))))), ?_⟩
    k_extra "r_T16"
    refine q_isNon (q_test (s_if0 (decide_eq_false fun z => by cases z) ?_))
    k_extra "r_T16"
    refine ⟨f, xs, ps, c, ts, zs, rfl, hf, pl, nm, hz, nd, hc, cs, run, fun D H1 nD S1 hD => ?_⟩
    k_extra "r_T16"
    refine q_isNon (q_test (s_if0 (decide_eq_false fun z => by cases z) ?_))
    k_extra "r_T16"
    refine s_sFld ?_
    k_extra "r_T16"
    refine q_sortP (SqL.of (S1 _ _ hf)) (pl.mono S1) fun f' H2 ys n2 S2 h2 pl2 => ?_
    k_extra "r_T16"
    have S12 := S1.trans S2
    have cp : c ≠ p := fun z => by rw [z, hp] at hc; cases hc
    have fp : f' ≠ p := fun z => by rw [z, S1 _ _ hp] at n2; cases n2
    have Dp : D ≠ p := fun z => by rw [z, hp] at nD; cases nD
    have nf : H f' = none := S1.free n2
    refine ⟨p, CS, dx, [], rfl, S12 _ _ hp, SC.cl, SC.n1, (by show 0 < 1000; decide), ?_⟩
    have B2 : But p H (upd H2 p (.ins CS dx (putF "_first" (.ref f') []))) := fun b o nb e => by rw [upd_ne nb]; exact S12 _ _ e
    have g2 : (upd H2 p (.ins CS dx (putF "_first" (.ref f') []))) p = some (.ins CS dx (putF "_first" (.ref f') [])) := upd_same
    have d2 : (upd H2 p (.ins CS dx (putF "_first" (.ref f') []))) D = some (.dT (stK (runC ps zs))) := by rw [upd_ne Dp]; exact S2 _ _ hD
    have f2 : (upd H2 p (.ins CS dx (putF "_first" (.ref f') []))) f' = some (.lst ys) := by rw [upd_ne fp]; exact h2
    have p2 : Pls (upd H2 p (.ins CS dx (putF "_first" (.ref f') []))) ys (ps.mergeSort pLe) := pl2.tk (TupK.but (S12 _ _ hp) (fun _ z => by cases z) But.upd)
    show tSeq _ _ _ _ (upd H2 p (.ins CS dx (putF "_first" (.ref f') [])))
    generalize (upd H2 p (.ins CS dx (putF "_first" (.ref f') []))) = H3 at B2 g2 d2 f2 p2 ⊢
    refine s_seq (s_sFld ?_)
    k_extra "r_T16"
    refine q_listL (SqL.of (B2 _ _ cp hc)) fun c' H4 n4 S4 h4 => ?_
    have cp' : c' ≠ p := fun z => by rw [z, g2] at n4; cases n4
    have cD' : c' ≠ D := fun z => by rw [z, d2] at n4; cases n4
    have fc' : f' ≠ c' := fun z => by rw [← z, f2] at n4; cases n4
    k_extra "r_T16"
    refine ⟨p, CS, dx, _, rfl, S4 _ _ g2, SC.cl, SC.n2, (by show 1 < 1000; decide), ?_⟩
    refine s_sFld ?_
    k_extra "r_T16"
    refine ⟨p, CS, dx, _, rfl, upd_same, SC.cl, SC.n3, (by show 2 < 1000; decide), ?_⟩
    refine k _ f' c' D ⟨⟨dx, upd_same⟩, ⟨ys, by rw [upd_ne fp, upd_ne fp]; exact S4 _ _ f2, ?_⟩, ⟨ts, by rw [upd_ne cp', upd_ne cp']; exact h4, ?_⟩, by rw [upd_ne Dp, upd_ne Dp]; exact S4 _ _ d2, fc'⟩ nf (B2.free cp' n4) nD fun b o nb e => by rw [upd_ne nb, upd_ne nb]; exact S4 _ _ (B2 _ _ nb e)
    · exact p2.tk ((TupK.of S4).trans ((TupK.but (S4 _ _ g2) (fun _ z => by cases z) But.upd).trans (TupK.but upd_same (fun _ z => by cases z) But.upd)))
    · exact cs.tk ((TupK.but hp (fun _ z => by cases z) B2).trans ((TupK.of S4).trans ((TupK.but (S4 _ _ g2) (fun _ z => by cases z) But.upd).trans (TupK.but upd_same (fun _ z => by cases z) But.upd))))
end
end Bt
namespace Bt
open PySem PySem.Spec PyProof.Rows L2 LamX NdefX
open PySem.W (dataLt dataLe alike AllAlike Sortable)
theorem words95_ : True := by
  k_with "s_T16b" => first
    | ((with_reducible refine' s_var ?hv ?_); (case hv => exact rfl))
    | with_reducible first
      | refine' s_c ?_ | refine' s_op ?_ | refine' s_asg ?_ | refine' s_gname ?_ | refine' s_seq ?_ | refine' s_next ?_ | refine' s_ret ?_ | refine' s_ifS ?_ | refine' s_drop ?_ | refine' s_retN ?_ | refine' s_test ?_ | refine' s_B ?_ | refine' q_test ?_ | refine' s_int ?_ | refine' s_cons ?_ | refine' s_nil ?_ | refine' s_call ?_ | refine' s_CB ?_ | refine' s_andT ?_ | refine' s_orT ?_ | refine' s_notT ?_ | refine' s_andV ?_ | refine' s_orV ?_ | refine' s_notV ?_ | refine' s_ifV ?_ | refine' s_chain ?_ | refine' s_sl ?_ | refine' s_noPart ?_ | refine' s_part ?_ | refine' s_gsub ?_ | refine' s_BM ?_ | refine' s_tup ?_ | refine' s_lst ?_ | refine' q_add ?_ | refine' q_sub ?_ | refine' q_lt ?_ | refine' q_le ?_ | refine' q_gt ?_ | refine' q_ge ?_ | refine' s_ifT ?_ | refine' s_ifF ?_ | refine' s_yes ?_ | refine' s_iStr ?_ | refine' s_M0 ?_ | refine' s_for ?_ | refine' s_rng1 ?_ | refine' s_par ?_ | refine' s_gcons ?_ | refine' s_gnil ?_ | refine' s_iList ?_ | refine' s_iEnum ?_ | refine' s_raise1 ?_
      | (refine' q_mod ?hm ?_; (case hm => first | omega | decide))
    | dsimp only
  k_with "r_T16b" => repeat (k_extra "s_T16b")
  trivial
theorem s_make {C : Addr} {sp : Sp} {dvs : List V} {E : XK} {t : TA} {σ : L2.St} {H : Hp} {Q : VK} (h : t σ H fun vs H1 => ∀ x dx, H1 x = none → H1 dx = none → dx ≠ x → sp (.ref x :: (vs ++ dvs)) (upd (upd H1 dx (.own x)) x (.ins C dx [])) (fun v H2 => v = .non ∧ Q (.ref x) H2) E) : tMake C sp dvs E t σ H Q := h
theorem s_makeS {C : Addr} {sp : Sp} {dvs : List V} {E : L2.St → XK} {t : TA} {σ : L2.St} {H : Hp} {Q : VK} (h : t σ H fun vs H1 => ∀ x dx, H1 x = none → H1 dx = none → dx ≠ x → sp (.ref x :: (vs ++ dvs)) (upd (upd H1 dx (.own x)) x (.ins C dx [])) (fun v H2 => v = .non ∧ Q (.ref x) H2) (E σ)) : tMakeS C sp dvs E t σ H Q := h
theorem same_made {H : Hp} {x dx C : Addr} (nx : H x = none) (nd : H dx = none) : Same H (upd (upd H dx (.own x)) x (.ins C dx [])) := fun b o e => by
  rw [upd_ne (ne_of_none e nx), upd_ne (ne_of_none e nd)]; exact e
/-! ### Story(..), its parts -/
structure StoryM (K : PySem.W.Frag) (CS : Addr) : Prop where
  first : ∃ (p f : Addr) (fd : FuncData), PropOf K CS "first" p f ∧ Fun K "first" "Story.first" s_Story_first f fd ∧ Binds K fd ["self"] []
  len : ∃ (f : Addr) (fd : FuncData), PySem.W.findIn K (.ref CS) "__len__" = some (some (.ref f)) ∧ PySem.W.isFn K (.ref f) = true ∧ Fun K "__len__" "Story.__len__" s_Story___len__ f fd ∧ Binds K fd ["self"] []
  get : ∃ (f : Addr) (fd : FuncData), PySem.W.findIn K (.ref CS) "__getitem__" = some (some (.ref f)) ∧ PySem.W.isFn K (.ref f) = true ∧ PySem.W.fnIn K f = true ∧ Fun K "__getitem__" "Story.__getitem__" s_Story___getitem__ f fd ∧ Binds K fd ["self", "at"] []
  iadd : ∃ (f : Addr) (fd : FuncData), PySem.W.selfFirst K CS = true ∧ PySem.W.findIn K (.ref CS) "__iadd__" = some (some (.ref f)) ∧ PySem.W.isFn K (.ref f) = true ∧ Fun K "__iadd__" "Story.__iadd__" s_Story___iadd__ f fd ∧ Binds K fd ["self", "other"] []
  eq : ∃ (f : Addr) (fd : FuncData), PySem.W.findIn K (.ref CS) "__eq__" = some (some (.ref f)) ∧ PySem.W.isFn K (.ref f) = true ∧ Fun K "__eq__" "Story.__eq__" s_Story___eq__ f fd ∧ Binds K fd ["self", "other"] []
  at_ : ∃ (f : Addr) (fd : FuncData), Meth K CS "at" f ∧ Fun K "at" "Story.at" s_Story_at f fd ∧ Binds K fd ["self", "k"] []
  tu_ : ∃ (f : Addr) (fd : FuncData), Meth K CS "turned" f ∧ Fun K "turned" "Story.turned" s_Story_turned f fd ∧ Binds K fd ["self", "moments"] []
  kY : PySem.W.kitOne K (.ref CS) (.ref CS) = some true
  nY : PySem.W.notFirst K CS (.ref CS) = true
section
variable {X : Cx} {CS : Addr} {k : Nat} {p pos : Pos} {e e2 : Expr} {ta tb : TE}
theorem pe_story (T : Txt X.K X.mg) (N : TxtN X.K X.mg) (I : TxtI X.K X.mg) (C : TxtC16 X.K X.mg) (S : TxtS16 X.K X.mg) (SC : StoryC X.K X.mg CS) (hr : Room k X.A) (hk : 7 ≤ k) (h1 : PE X e ta) (h2 : PE X e2 tb) (hg : Gl X "Story" := by rfl)
    (s1 : starEach (e :: [e2]) X.env = (false, eval e X.env) :: starEach [e2] X.env := by rfl) (s2 : starEach (e2 :: []) X.env = (false, eval e2 X.env) :: starEach [] X.env := by rfl) (s3 : (backTo pos (starEach [e2] X.env)).any (·.1) = false := by rfl) :
    PE X (.Call (.Name "Story" p) [e, e2] [] pos) (tMake CS (spInit CS) [] E0 (tCons ta (tCons tb tNil))) := by
  obtain ⟨f, fd, i1, i2, F, b⟩ := SC.init
  exact pe_make ⟨SC.makes, i1, i2, SC.kp⟩ (ok_story_init T N I C S SC F) (hr.mono hk) hg SC.g b .nil passL (pa_cons h1 (pa_cons h2 pa_nil s2) s1) (by decide) s1 s3
end
section
variable {P : Program} {w : World} {K : PySem.W.Frag} {mg : Str → Option Value} {base : Heap} {CS CI : Addr}
theorem q_story {H : Hp} {Q : Addr → Hp → Prop} {E : XK} {f c : Addr} {xs ts : List V} {ps : List Plc} {zs : List GC} (hf : H f = some (.lst xs)) (pl : Pls H xs ps) (nm : ∀ p ∈ ps, NmP p) (hz : xs.length < 64) (nd : ps.Nodup) (hc : H c = some (.lst ts)) (cs : ChsAt H ts zs) (run : Run ps 0 zs)
    (k : ∀ x H' f' c' d', H x = none → H f' = none → H c' = none → H d' = none → Same H H' → StoAt CS H' x f' c' d' (ps.mergeSort pLe) zs (runC ps zs) → Q x H') :
    ∀ x dx, H x = none → H dx = none → dx ≠ x → spInit CS [.ref x, .ref f, .ref c] (upd (upd H dx (.own x)) x (.ins CS dx [])) (fun v H2 => v = .non ∧ Q x H2) E := fun x dx nx nD ne => by
  have S := same_made (C := CS) nx nD
  exact ⟨x, dx, f, xs, ps, c, ts, zs, rfl, upd_same, S _ _ hf, pl.mono S, nm, hz, nd, S _ _ hc, cs.mono S, run, fun H' f' c' d' st n1 n2 n3 B => ⟨rfl, k x H' f' c' d' nx (S.free n1) (S.free n2) (S.free n3) (fun b o e => B b o (ne_of_none e nx) (S _ _ e)) st⟩⟩
def spFirst (CS : Addr) : Sp := fun vs H Q _ => ∃ x f c d ps zs st, vs = [.ref x] ∧ StoAt CS H x f c d ps zs st ∧ ∀ D H' ys, H D = none → Same H H' → H' D = some (.lst ys) → Pls H' ys ps → Q (.ref D) H'
theorem ok_story_first {f : Addr} {fd : FuncData} (T : Txt K mg) (SC : StoryC K mg CS) (F : Fun K "first" "Story.first" s_Story_first f fd) : FnOk P w K mg base CX0 1 f fd ["self"] (spFirst CS) := by
  refine F.ok sc_Story_first (fun vs H Q E h => ?_) (fun cdv A outer s H vs Q E hr h => ?_)
  · obtain ⟨x, f, c, d, ps, zs, st, rfl, _⟩ := h
    rfl
  · obtain ⟨x, f, c, d, ps, zs, st, rfl, hs, k⟩ := h
    refine ⟨_, (pss_one (ps_ret (pe_callTy call_listOf (by rfl) T.n_list (by decide +kernel) (pa_cons (pe_fld (pv 0) rfl) pa_nil)))), ?_⟩
    k_extra "r_T16b"
    refine s_fld ?_
    k_extra "r_T16b"
    obtain ⟨dx, hx⟩ := hs.hx
    obtain ⟨xs, hf, pl⟩ := hs.hf
    refine ⟨x, CS, dx, _, .ref f, rfl, hx, SC.cl, SC.n1, lk_first _ _ _, ?_⟩
    k_extra "r_T16b"
    refine q_listL (SqL.of hf) fun D H1 nD S1 hD => ?_
    exact k D H1 xs nD S1 hD (pl.mono S1)
def spLen (CS : Addr) : Sp := fun vs H Q _ => ∃ x f c d ps zs st, vs = [.ref x] ∧ StoAt CS H x f c d ps zs st ∧ Q (.int zs.length) H
theorem ok_story_len {f : Addr} {fd : FuncData} (N : TxtN K mg) (SC : StoryC K mg CS) (F : Fun K "__len__" "Story.__len__" s_Story___len__ f fd) : FnOk P w K mg base CX0 1 f fd ["self"] (spLen CS) := by
  refine F.ok sc_Story___len__ (fun vs H Q E h => ?_) (fun cdv A outer s H vs Q E hr h => ?_)
  · obtain ⟨x, f, c, d, ps, zs, st, rfl, _⟩ := h
    rfl
  · obtain ⟨x, f, c, d, ps, zs, st, rfl, hs, k⟩ := h
    refine ⟨_, (pss_one (ps_ret (pe_callB call_lenQ (by rfl) N.n_len (by decide +kernel) (pa_cons (pe_fld (pv 0) rfl) pa_nil)))), ?_⟩
    k_extra "r_T16b"
    refine s_fld ?_
    k_extra "r_T16b"
    obtain ⟨dx, hx⟩ := hs.hx
    obtain ⟨ts, hc, cs⟩ := hs.hc
    refine ⟨x, CS, dx, _, .ref c, rfl, hx, SC.cl, SC.n2, lk_changes _ _ _, ?_⟩
    k_extra "r_T16b"
    refine q_lenL (SqL.of hc) ?_
    rw [show ts.length = zs.length from Paired.length cs]
    exact k
def spCI : Sp := fun vs H Q _ => ∃ i n : Int, vs = [.int i, .int n] ∧ 0 ≤ i ∧ i < n ∧ Q .non H
theorem ok_check_index (T : Txt K mg) (S : TxtS16 K mg) : Cal P w K mg base 2 "check_index" spCI := by
  refine S.d_ci.cal sc_check_index (fun vs H Q E h => ?_) (fun f cdv A outer s H vs Q E hr h => ?_)
  · obtain ⟨i, n, rfl, _⟩ := h
    rfl
  · obtain ⟨i, n, rfl, h0, h1, k⟩ := h
    refine ⟨_, (pss_one (ps_if (pt_not (PW.pt (pw_and (pt_val (pe_c (ok_is_whole T) hr (by decide) rfl (pa_cons (pv 0) pa_nil))) (pw_and1 (pt_chain op_leI op_ltI pe_int (pv 0) (pv 1)))))) pss_deadA pss_nil)), ?_⟩
    k_extra "r_T16b"
    refine ⟨_, "int", rfl, Pl.int, ?_⟩
    k_extra "r_T16b"
    refine s_if1 rfl ?_
    k_extra "r_T16b"
    refine s_ifD (fun _ => ?_) (fun e => absurd h0 e)
    k_extra "r_T16b"
    refine s_ifND (fun _ => ?_) (fun e => absurd h1 e)
    exact k
def spGet (CS : Addr) : Sp := fun vs H Q _ => ∃ x f c d ps zs st j z, vs = [.ref x, .int j] ∧ StoAt CS H x f c d ps zs st ∧ 0 ≤ j ∧ zs[j.toNat]? = some z ∧ ∀ y, ChAt H y z → Q y H
theorem ok_story_get {f : Addr} {fd : FuncData} (T : Txt K mg) (N : TxtN K mg) (S : TxtS16 K mg) (SC : StoryC K mg CS) (F : Fun K "__getitem__" "Story.__getitem__" s_Story___getitem__ f fd) : FnOk P w K mg base CX0 3 f fd ["self", "at"] (spGet CS) := by
  refine F.ok sc_Story___getitem__ (fun vs H Q E h => ?_) (fun cdv A outer s H vs Q E hr h => ?_)
  · obtain ⟨x, f, c, d, ps, zs, st, j, z, rfl, _⟩ := h
    rfl
  · obtain ⟨x, f, c, d, ps, zs, st, j, z, rfl, hs, j0, ez, k⟩ := h
    refine ⟨_, (pss_cons (ps_expr (pe_c (ok_check_index T S) hr (by decide) rfl (pa_cons (pv 1) (pa_cons (pe_callB call_lenQ (by rfl) N.n_len (by decide +kernel) (pa_cons (pe_fld (pv 0) rfl) pa_nil)) pa_nil))))
      (pss_one (ps_ret (pe_ix ix_seq (pe_fld (pv 0) rfl) (pv 1) (fun _ _ => rfl))))), ?_⟩
    obtain ⟨dx, hx⟩ := hs.hx
    obtain ⟨ts, hc, cs⟩ := hs.hc
    have lt : ts.length = zs.length := Paired.length cs
    have lj := (List.getElem?_eq_some_iff.mp ez).1
    have etj : ts[j.toNat]? = some ts[j.toNat] := List.getElem?_eq_getElem (by omega)
    obtain ⟨z', ez', hz'⟩ := Paired.get cs etj
    rw [ez] at ez'
    cases ez'
    obtain ⟨n, rfl⟩ : ∃ n : Nat, j = n := ⟨j.toNat, by omega⟩
    k_extra "r_T16b"
    refine s_fld ?_
    k_extra "r_T16b"
    refine ⟨x, CS, dx, _, .ref c, rfl, hx, SC.cl, SC.n2, lk_changes _ _ _, ?_⟩
    k_extra "r_T16b"
    refine q_lenL (SqL.of hc) ?_
    k_extra "r_T16b"
    refine ⟨_, _, rfl, j0, by omega, ?_⟩
    k_extra "r_T16b"
    refine s_fld ?_
    k_extra "r_T16b"
    refine ⟨x, CS, dx, _, .ref c, rfl, hx, SC.cl, SC.n2, lk_changes _ _ _, ?_⟩
    k_extra "r_T16b"
    refine q_ixL (SqL.of hc) (atI_nat etj) ?_
    exact k _ hz'
def spSEq (CS : Addr) : Sp := fun vs H Q _ => ∃ x f c d ps zs st x' f' c' d' ps' zs' st', vs = [.ref x, .ref x'] ∧ StoAt CS H x f c d ps zs st ∧ StoAt CS H x' f' c' d' ps' zs' st' ∧ (∀ p ∈ ps, NmP p) ∧ (∀ p ∈ ps', NmP p) ∧ NmC zs ∧ NmC zs' ∧ Q (.bl (decide (ps = ps') && PyData.eqv (dChs zs) (dChs zs'))) H
theorem ok_story_eq {f : Addr} {fd : FuncData} (T : Txt K mg) (SC : StoryC K mg CS) (SM : StoryM K CS) (F : Fun K "__eq__" "Story.__eq__" s_Story___eq__ f fd) : FnOk P w K mg base CX0 1 f fd ["self", "other"] (spSEq CS) := by
  refine F.ok sc_Story___eq__ (fun vs H Q E h => ?_) (fun cdv A outer s H vs Q E hr h => ?_)
  · obtain ⟨x, f, c, d, ps, zs, st, x', f', c', d', ps', zs', st', rfl, _⟩ := h
    rfl
  · obtain ⟨x, f, c, d, ps, zs, st, x', f', c', d', ps', zs', st', rfl, hs, hs', n1, n2, n3, n4, k⟩ := h
    have hu := hr.units
    refine ⟨_, (pss_one (ps_ret (pe_and (pe_callB call_isi (by rfl) T.n_isinstance (by decide +kernel) (pa_cons (pv 1) (pa_cons (pe_glob (v := .ref CS) (by rfl) SC.g rfl) pa_nil))) (pe_and (pe_cmpR (op_eqU hu) (pe_fld (pv 0) rfl) (pe_fld (pv 1) rfl) (by rfl)) (pe_one (pe_cmpR (op_eqU hu) (pe_fld (pv 0) rfl) (pe_fld (pv 1) rfl) (by rfl))))))), ?_⟩
    obtain ⟨dx, hx⟩ := hs.hx
    obtain ⟨dx', hx'⟩ := hs'.hx
    obtain ⟨xs, hf, pl⟩ := hs.hf
    obtain ⟨xs', hf', pl'⟩ := hs'.hf
    obtain ⟨ts, hc, cs⟩ := hs.hc
    obtain ⟨ts', hc', cs'⟩ := hs'.hc
    k_extra "r_T16b"
    refine ⟨.ref x', .ref CS, .ref CS, .ref CS, true, rfl, .own CS, .base (.ins hx' SC.cl SC.i1 SC.i2 SC.i3 SC.i4), SM.kY, ?_⟩
    k_extra "r_T16b"
    refine s_fld ?_
    k_extra "r_T16b"
    refine ⟨x, CS, dx, _, .ref f, rfl, hx, SC.cl, SC.n1, lk_first _ _ _, ?_⟩
    refine s_fld ?_
    k_extra "r_T16b"
    refine ⟨x', CS, dx', _, .ref f', rfl, hx', SC.cl, SC.n1, lk_first _ _ _, ?_⟩
    refine q_eqD (.lst (SqL.of hf) pl.dps) (.lst (SqL.of hf') pl'.dps) (sh_pls n1) (sh_pls n2) ?_
    rw [show PyData.eqv (.list (ps.map dPl)) (.list (ps'.map dPl)) = decide (ps = ps') from eqv_pls ps ps']
    by_cases e : ps = ps'
    · rw [decide_eq_true e] at k ⊢
      rw [Bool.true_and] at k
      refine ⟨_, rfl, s_if1 rfl ?_⟩
      k_extra "r_T16b"
      refine s_fld ?_
      k_extra "r_T16b"
      refine ⟨x, CS, dx, _, .ref c, rfl, hx, SC.cl, SC.n2, lk_changes _ _ _, ?_⟩
      refine s_fld ?_
      k_extra "r_T16b"
      refine ⟨x', CS, dx', _, .ref c', rfl, hx', SC.cl, SC.n2, lk_changes _ _ _, ?_⟩
      refine q_eqD (.lst (SqL.of hc) cs.dps) (.lst (SqL.of hc') cs'.dps) (sh_chs n3) (sh_chs n4) ?_
      exact k
    · rw [decide_eq_false e] at k ⊢
      rw [Bool.false_and] at k
      exact ⟨_, rfl, s_if0 rfl k⟩
/-- check_least: a whole number from least on, or InvalidNumber -/
def spCL (K : PySem.W.Frag) (CI : Addr) : Sp := fun vs H Q E => ∃ v T m, vs = [v, .int m] ∧ Pl K H v T ∧ ((∃ i, v = .int i ∧ m ≤ i ∧ ∀ H', Same H H' → Q .non H') ∨ ((∀ i, v = .int i → ¬ m ≤ i) ∧ ∀ H' d, Same H H' → H d = none → H' d = some (.xd [("value", v)]) → E (.ref CI) (some d) H'))
theorem ok_check_least (T : Txt K mg) (S : TxtS16 K mg) (XN : ExcF K mg "InvalidNumber" "value" CI) : CalX P w K mg base 3 "check_least" (spCL K CI) := by
  refine S.d_cl.calX sc_check_least (fun vs H Q E h => ?_) (fun f cdv A outer s H vs Q E hr h => ?_)
  · obtain ⟨v, T, m, rfl, _⟩ := h
    rfl
  · obtain ⟨v, ty, m, rfl, hv, kk⟩ := h
    refine ⟨_, (pss_one (ps_if (pt_not (PW.pt (pw_and (pt_val (pe_c (ok_is_whole T) hr (by decide) rfl (pa_cons (pv 0) pa_nil))) (pw_and1 (pt_cmpR op_geI (pv 0) (pv 1) (by rfl)))))) (pss_one (ps_raise1 rfl XN hr (by decide) (takes_of rfl rfl rfl rfl) (pv 0))) pss_nil)), ?_⟩
    k_extra "r_T16b"
    refine ⟨v, ty, rfl, hv, ?_⟩
    k_extra "r_T16b"
    rcases kk with ⟨i, rfl, hm, k⟩ | ⟨no, k⟩
    · rw [hv.is_int]
      refine s_if1 rfl ?_
      k_extra "r_T16b"
      refine s_ifND (fun _ => ?_) (fun e => absurd hm e)
      exact k H (Same.refl H)
    · by_cases e : ty = "int"
      · obtain ⟨i, rfl⟩ := hv.of_int e
        subst e
        refine s_if1 rfl ?_
        k_extra "r_T16b"
        refine s_ifND (fun e => absurd e (no i rfl)) (fun _ => ?_)
        refine s_raise1 ?_
        k_extra "r_T16b"
        exact fun d H3 nd S3 hd => k H3 d S3 nd hd
      · refine s_if0 (beq_eq_false_iff_ne.mpr e) ?_
        refine s_if1 rfl ?_
        refine s_raise1 ?_
        k_extra "r_T16b"
        exact fun d H3 nd S3 hd => k H3 d S3 nd hd
end
end Bt
namespace Bt
open PySem PySem.Spec PyProof.Rows L2 LamX NdefX
open PySem.W (dataLt dataLe alike AllAlike Sortable)
theorem words96_ : True := by
  k_with "s_T16c" => first
    | ((with_reducible refine' s_var ?hv ?_); (case hv => exact rfl))
    | with_reducible first
      | refine' s_c ?_ | refine' s_op ?_ | refine' s_asg ?_ | refine' s_gname ?_ | refine' s_seq ?_ | refine' s_next ?_ | refine' s_ret ?_ | refine' s_ifS ?_ | refine' s_drop ?_ | refine' s_retN ?_ | refine' s_test ?_ | refine' s_B ?_ | refine' q_test ?_ | refine' s_int ?_ | refine' s_cons ?_ | refine' s_nil ?_ | refine' s_call ?_ | refine' s_CB ?_ | refine' s_andT ?_ | refine' s_orT ?_ | refine' s_notT ?_ | refine' s_andV ?_ | refine' s_orV ?_ | refine' s_notV ?_ | refine' s_ifV ?_ | refine' s_chain ?_ | refine' s_sl ?_ | refine' s_noPart ?_ | refine' s_part ?_ | refine' s_gsub ?_ | refine' s_BM ?_ | refine' s_tup ?_ | refine' s_lst ?_ | refine' q_add ?_ | refine' q_sub ?_ | refine' q_lt ?_ | refine' q_le ?_ | refine' q_gt ?_ | refine' q_ge ?_ | refine' s_ifT ?_ | refine' s_ifF ?_ | refine' s_yes ?_ | refine' s_iStr ?_ | refine' s_M0 ?_ | refine' s_for ?_ | refine' s_rng1 ?_ | refine' s_par ?_ | refine' s_gcons ?_ | refine' s_gnil ?_ | refine' s_iList ?_ | refine' s_iEnum ?_ | refine' s_raise1 ?_
      | (refine' q_mod ?hm ?_; (case hm => first | omega | decide))
    | dsimp only
  k_with "r_T16c" => repeat (k_extra "s_T16c")
  trivial
/-! ### story += change, story.at(k) -/
theorem s_tru {K : PySem.W.Frag} {ta : TE} {σ : L2.St} {H : Hp} {Q : Bool → Hp → Prop} (h : ta σ H fun x H' => ∃ k, TruV K x H' k ∧ Q k H') : (fun σ H Q => ta σ H fun x H' => ∃ k, TruV K x H' k ∧ Q k H') σ H Q := h
section
variable {P : Program} {w : World} {K : PySem.W.Frag} {mg : Str → Option Value} {base : Heap} {CS CI : Addr}
def spIadd (CS : Addr) : Sp := fun vs H Q _ => ∃ x f c d ps zs st y z, vs = [.ref x, y] ∧ StoAt CS H x f c d ps zs st ∧ ChAt H y z ∧ lastG 0 zs ≤ z.1 ∧ 0 ≤ z.1 ∧ (∀ p ∈ z.2.pcs, NmP p) ∧ Can st z.2 ∧ st.length < 90 ∧ zs.length < 1000 ∧
  ∀ H', StoAt CS H' x f c d ps (zs ++ [z]) (mkC st z.2) → (∀ b o, b ≠ c → b ≠ d → H b = some o → H' b = some o) → Q (.ref x) H'
theorem ok_story_iadd {f : Addr} {fd : FuncData} (T : Txt K mg) (N : TxtN K mg) (I : TxtI K mg) (C : TxtC16 K mg) (S : TxtS16 K mg) (SC : StoryC K mg CS) (F : Fun K "__iadd__" "Story.__iadd__" s_Story___iadd__ f fd) : FnOk P w K mg base CX0 5 f fd ["self", "other"] (spIadd CS) := by
  refine F.ok sc_Story___iadd__ (fun vs H Q E h => ?_) (fun cdv A outer s H vs Q E hr h => ?_)
  · obtain ⟨x, f, c, d, ps, zs, st, y, z, rfl, _⟩ := h
    rfl
  · obtain ⟨x, f, c, d, ps, zs, st, y, z, rfl, hs, hy, hg, g0, nm, can, l9, lz, k⟩ := h
    refine ⟨_, (C8.pss_cut (ps_set (i := 2) sc_Story___iadd__.nd rfl (.inl rfl) (pe_ifExp (pt_truth (pe_fld (pv 0) rfl) (fun _ => rfl)) (pe_ix ix_seq (pe_ix ix_seq (pe_fld (pv 0) rfl) (pe_un un_neg pe_int) (fun _ _ => rfl)) pe_int (fun _ _ => rfl)) pe_int))
      (pss_cons (ps_if (pt_not (pt_val (pe_c (ok_may_come T N I C S) hr (by decide) rfl (pa_cons (pv 1) (pa_cons (pv 2) (pa_cons (pe_fld (pv 0) rfl) pa_nil)))))) pss_deadA pss_nil)
      (pss_cons (ps_expr (pe_c (ok_carry_out C) hr (by decide) rfl (pa_cons (pv 1) (pa_cons (pe_fld (pv 0) rfl) pa_nil))))
      (pss_cons (ps_expr (pe_bm PySem.F.plainAttrs_list PySem.F.slot_list_append PySem.F.type_list_append mt_append (pe_fld (pv 0) rfl) (pa_cons (pv 1) pa_nil)))
      (pss_one (ps_ret (pv 0))))))), ?_⟩
    obtain ⟨dx, hx⟩ := id hs.hx
    obtain ⟨xs, hf, pl⟩ := id hs.hf
    obtain ⟨ts, hc, cs⟩ := id hs.hc
    have hd := hs.hd
    have lt : ts.length = zs.length := Paired.length cs
    have fld1 : ∀ {σ : L2.St} {H : Hp} {Q : VK}, σ[0]? = some (some (V.ref x)) → H x = some (.ins CS dx (stF f c d)) → Q (.ref c) H → tFld K (tVar 0) "_changes" σ H Q := fun e h q => s_fld (s_var e ⟨x, CS, dx, _, .ref c, rfl, h, SC.cl, SC.n2, lk_changes _ _ _, q⟩)
    have fld2 : ∀ {σ : L2.St} {H : Hp} {Q : VK}, σ[0]? = some (some (V.ref x)) → H x = some (.ins CS dx (stF f c d)) → Q (.ref d) H → tFld K (tVar 0) "_last" σ H Q := fun e h q => s_fld (s_var e ⟨x, CS, dx, _, .ref d, rfl, h, SC.cl, SC.n3, lk_last _ _ _, q⟩)
    refine q_cut8 (M := fun σ H' => σ = [some (.ref x), some y, some (.int (lastG 0 zs))] ∧ Same H H') ?_ ?_
    · k_extra "r_T16c"
      refine fld1 rfl hx ?_
      refine ⟨!ts.isEmpty, .inl ⟨ts, SqL.of hc, rfl⟩, ?_⟩
      by_cases e : zs = []
      · subst e
        cases cs
        refine s_if0 rfl ?_
        k_extra "r_T16c"
        exact ⟨rfl, Same.refl H⟩
      · have et : ts ≠ [] := fun z => e (List.length_eq_zero_iff.mp (by rw [← lt, z]; rfl))
        refine s_if1 (by cases ts with | nil => exact absurd rfl et | cons _ _ => rfl) ?_
        k_extra "r_T16c"
        refine fld1 rfl hx ?_
        k_extra "r_T16c"
        refine ⟨_, rfl, ?_⟩
        obtain ⟨t0, t, rfl⟩ : ∃ t0 t, ts = t0 ++ [t] := ⟨ts.dropLast, ts.getLast et, (List.dropLast_concat_getLast et).symm⟩
        refine q_ixL (SqL.of hc) (atI_last _ _) ?_
        obtain ⟨z', ez', hz'⟩ := Paired.get cs (i := t0.length) (x := t) (by simp)
        obtain ⟨b, us, rfl, hb, _⟩ := hz'
        k_extra "r_T16c"
        refine q_ixT (SqT.of hb) (at_of (j := 0) rfl rfl) ?_
        k_extra "r_T16c"
        refine ⟨?_, Same.refl H⟩
        have : lastG 0 zs = z'.1 := by
          have := lastG_next 0 ez'
          rwa [List.take_of_length_le (by rw [← lt]; simp)] at this
        rw [this]
        rfl
    rintro σ H1 ⟨rfl, S1⟩
    k_extra "r_T16c"
    refine fld2 rfl (S1 _ _ hx) ?_
    k_extra "r_T16c"
    refine ⟨y, z, _, d, st, rfl, hy.mono S1, g0, hg, nm, S1 _ _ hd, can, fun H2 S2 => ?_⟩
    have T2 := S1.trans S2
    k_extra "r_T16c"
    refine s_if0 rfl ?_
    k_extra "r_T16c"
    refine fld2 rfl (T2 _ _ hx) ?_
    k_extra "r_T16c"
    refine ⟨y, z, d, st, rfl, hy.mono T2, T2 _ _ hd, by omega, can, fun H3 h3 b3 => ?_⟩
    have xd : x ≠ d := fun e => by rw [e, hd] at hx; cases hx
    have cd : c ≠ d := fun e => by rw [e, hd] at hc; cases hc
    have fd' : f ≠ d := fun e => by rw [e, hd] at hf; cases hf
    have xc : x ≠ c := fun e => by rw [e, hc] at hx; cases hx
    have hx3 := b3 _ _ xd (T2 _ _ hx)
    have hc3 := b3 _ _ cd (T2 _ _ hc)
    k_extra "r_T16c"
    refine fld1 rfl hx3 ?_
    k_extra "r_T16c"
    refine ⟨.inl ⟨rfl, _, SqL.of hc3⟩, ?_⟩
    k_extra "r_T16c"
    refine q_append hc3 (szlt (by omega)) fun H4 b4 h4 => ?_
    k_extra "r_T16c"
    have T03 : TupK H H3 := (TupK.of T2).trans (TupK.but (T2 _ _ hd) (fun _ z => by cases z) b3)
    have T04 : TupK H H4 := T03.trans (TupK.but hc3 (fun _ z => by cases z) b4)
    refine k H4 ⟨⟨dx, b4 _ _ xc hx3⟩, ⟨xs, b4 _ _ hs.ne (b3 _ _ fd' (T2 _ _ hf)), pl.tk T04⟩, ⟨_, h4, (cs.tk T04).snoc (hy.tk T04)⟩, b4 _ _ cd.symm h3, hs.ne⟩ fun b o n1 n2 e => b4 _ _ n1 (b3 _ _ n2 (T2 _ _ e))
end
end Bt
namespace Bt
open PySem PySem.Spec PyProof.Rows L2 LamX NdefX
open PySem.W (dataLt dataLe alike AllAlike Sortable)
theorem words97_ : True := by
  k_with "s_T16d" => first
    | ((with_reducible refine' s_var ?hv ?_); (case hv => exact rfl))
    | with_reducible first
      | refine' s_c ?_ | refine' s_op ?_ | refine' s_asg ?_ | refine' s_gname ?_ | refine' s_seq ?_ | refine' s_next ?_ | refine' s_ret ?_ | refine' s_ifS ?_ | refine' s_drop ?_ | refine' s_retN ?_ | refine' s_test ?_ | refine' s_B ?_ | refine' q_test ?_ | refine' s_int ?_ | refine' s_cons ?_ | refine' s_nil ?_ | refine' s_call ?_ | refine' s_CB ?_ | refine' s_andT ?_ | refine' s_orT ?_ | refine' s_notT ?_ | refine' s_andV ?_ | refine' s_orV ?_ | refine' s_notV ?_ | refine' s_ifV ?_ | refine' s_chain ?_ | refine' s_sl ?_ | refine' s_noPart ?_ | refine' s_part ?_ | refine' s_gsub ?_ | refine' s_BM ?_ | refine' s_tup ?_ | refine' s_lst ?_ | refine' q_add ?_ | refine' q_sub ?_ | refine' q_lt ?_ | refine' q_le ?_ | refine' q_gt ?_ | refine' q_ge ?_ | refine' s_ifT ?_ | refine' s_ifF ?_ | refine' s_yes ?_ | refine' s_iStr ?_ | refine' s_M0 ?_ | refine' s_for ?_ | refine' s_rng1 ?_ | refine' s_par ?_ | refine' s_gcons ?_ | refine' s_gnil ?_ | refine' s_iList ?_ | refine' s_iEnum ?_ | refine' s_raise1 ?_
      | (refine' q_mod ?hm ?_; (case hm => first | omega | decide))
    | dsimp only
  k_with "r_T16d" => repeat (k_extra "s_T16d")
  trivial
/-! ### story.at(k) -/
theorem Can.perm {ps qs : List Plc} (h : ps.Perm qs) {c : Ch} (k : Can ps c) : Can qs c := ⟨fun p e => h.mem_iff.mp (k.1 p e), fun q e m => k.2 q e (h.mem_iff.mpr m)⟩
theorem mkC_perm {ps qs : List Plc} (h : ps.Perm qs) (c : Ch) : (mkC ps c).Perm (mkC qs c) := by
  unfold mkC
  refine List.Perm.append_right _ ?_
  cases c.gs with
  | none => exact h
  | some p => exact h.filter _
theorem Run.perm : ∀ {zs : List GC} {ps qs : List Plc} {g : Int}, ps.Perm qs → Run ps g zs → Run qs g zs
  | [], _, _, _, _, _ => trivial
  | z :: zs, ps, qs, g, h, ⟨h1, h2, h3, h4, h5⟩ => ⟨h1, h2.perm h, h3, by rw [← h.length_eq]; exact h4, Run.perm (mkC_perm h z.2) h5⟩
theorem runC_perm : ∀ (zs : List GC) {ps qs : List Plc}, ps.Perm qs → (runC ps zs).Perm (runC qs zs)
  | [], _, _, h => h
  | z :: zs, _, _, h => runC_perm zs (mkC_perm h z.2)
theorem Run.low : ∀ {zs : List GC} {st : List Plc} {g : Int}, Run st g zs → ∀ z ∈ zs, g ≤ z.1
  | y :: zs, st, g, ⟨h1, h2, h3, h4, h5⟩, z, m => by
    rcases List.mem_cons.mp m with rfl | m
    · exact h1
    · exact Int.le_trans h1 (Run.low h5 z m)
theorem Run.le : ∀ {zs : List GC} {st : List Plc} {g : Int}, Run st g zs → ∀ {i : Nat} {z : GC}, zs[i]? = some z → ∀ y ∈ zs.take i, y.1 ≤ z.1
  | [], _, _, _, i, z, e, _, _ => by simp at e
  | y :: zs, st, g, ⟨h1, h2, h3, h4, h5⟩, 0, z, e, u, m => by simp at m
  | y :: zs, st, g, ⟨h1, h2, h3, h4, h5⟩, i + 1, z, e, u, m => by
    rw [List.take_succ_cons] at m
    have e' : zs[i]? = some z := by simpa using e
    rcases List.mem_cons.mp m with rfl | m
    · exact Run.low h5 z (List.mem_of_getElem? e')
    · exact Run.le h5 e' u m
/-- the changes in gaps less than k -/
def before (k : Int) (zs : List GC) : List GC := zs.filter fun z => decide (z.1 < k)
theorem before_take {zs : List GC} {st : List Plc} {g k : Int} (h : Run st g zs) {i : Nat} {z : GC} (e : zs[i]? = some z) (lt : z.1 < k) : before k (zs.take i) = zs.take i :=
  List.filter_eq_self.mpr fun y m => decide_eq_true (Int.lt_of_le_of_lt (h.le e y m) lt)
theorem before_next (k : Int) {zs : List GC} {i : Nat} {z : GC} (e : zs[i]? = some z) : before k (zs.take (i + 1)) = before k (zs.take i) ++ (if z.1 < k then [z] else []) := by
  unfold before
  rw [List.take_add_one, e, List.filter_append]
  by_cases h : z.1 < k
  · simp [h]
  · simp [h]
theorem q_sortPK {K : PySem.W.Frag} {H : Hp} {Q : VK} {a : Addr} {st : List Plc} (ha : H a = some (.dT (stK st))) (q : ∀ p H' ys, H p = none → Same H H' → H' p = some (.lst ys) → Pls H' ys (st.mergeSort pLe) → Q (.ref p) H') : DT.rSortKT K [.ref a] H Q := by
  have e0 : (stK st).map (fun p => DT.keyD p.1) = st.map dPl := by
    unfold stK
    rw [List.map_map]
    rfl
  refine DT.q_sortKT ha (fun p hp => ?_) ?_ ?_ fun zs p H' e1 e2 np S hp => ?_
  · obtain ⟨y, _, rfl⟩ := List.mem_map.mp hp
    show (dPl y).depth ≤ 60
    simp [dPl, PyData.depth, PyData.depthAll]
  · rw [e0]
    exact AllAlike.of fun b b' => by simp [dPl, alike, PySem.W.alikeAll]
  · rw [e0]
    exact Sortable.tuples fun b => ⟨_, _, rfl⟩
  · have e3 : zs.map (·.2) = st.map keyOf := by
      rw [e1]
      unfold stK
      rw [List.map_map]
      rfl
    obtain ⟨prs, rfl, e4⟩ : ∃ prs : List (Addr × Plc), zs = prs.map (fun z => (z.1, keyOf z.2)) ∧ prs.map (·.2) = st := by
      clear hp e1 e0 q ha e2
      induction zs generalizing st with
      | nil =>
        cases st with
        | nil => exact ⟨[], rfl, rfl⟩
        | cons _ _ => cases e3
      | cons z zs ih =>
        cases st with
        | nil => cases e3
        | cons p st =>
          injection e3 with h1 h2
          obtain ⟨prs, rfl, rfl⟩ := ih h2
          exact ⟨(z.1, p) :: prs, by rw [List.map_cons, ← h1], rfl⟩
    have m1 : (prs.map fun z => ((z.1, keyOf z.2) : DT.KA)).mergeSort DT.kaLe = (prs.mergeSort (dataLe false fun z : Addr × Plc => dPl z.2)).map fun z => (z.1, keyOf z.2) :=
      (List.map_mergeSort (f := fun z : Addr × Plc => ((z.1, keyOf z.2) : DT.KA)) (r := dataLe false fun z : Addr × Plc => dPl z.2) (s := DT.kaLe) fun _ _ _ _ => rfl).symm
    have m2 : (prs.mergeSort (dataLe false fun z : Addr × Plc => dPl z.2)).map (·.2) = (prs.map (·.2)).mergeSort pLe :=
      List.map_mergeSort (f := fun z : Addr × Plc => z.2) (r := dataLe false fun z : Addr × Plc => dPl z.2) (s := pLe) fun _ _ _ _ => rfl
    rw [m1, List.map_map] at hp
    refine q p H' _ np S hp ?_
    rw [← e4, ← m2]
    generalize hL : prs.mergeSort (dataLe false fun z : Addr × Plc => dPl z.2) = L
    have mem : ∀ z ∈ L, H' z.1 = some (.tup [.str z.2.1, .str z.2.2]) := fun z mz => S _ _ (e2 (z.1, keyOf z.2) (List.mem_map.mpr ⟨z, by rw [← hL] at mz; exact List.mem_mergeSort.mp mz, rfl⟩))
    clear hL m1 m2 hp
    induction L with
    | nil => exact .nil
    | cons z L ih => exact .cons ⟨z.1, rfl, mem z List.mem_cons_self⟩ (ih fun y my => mem y (List.mem_cons_of_mem _ my))
section
variable {P : Program} {w : World} {K : PySem.W.Frag} {mg : Str → Option Value} {base : Heap} {CS CI : Addr}
def spCL0 : Sp := fun vs H Q _ => ∃ i m : Int, vs = [.int i, .int m] ∧ m ≤ i ∧ Q .non H
theorem ok_check_least0 (T : Txt K mg) (S : TxtS16 K mg) : Cal P w K mg base 2 "check_least" spCL0 := by
  refine S.d_cl.cal sc_check_least (fun vs H Q E h => ?_) (fun f cdv A outer s H vs Q E hr h => ?_)
  · obtain ⟨i, m, rfl, _⟩ := h
    rfl
  · obtain ⟨i, m, rfl, hm, k⟩ := h
    refine ⟨_, (pss_one (ps_if (pt_not (PW.pt (pw_and (pt_val (pe_c (ok_is_whole T) hr (by decide) rfl (pa_cons (pv 0) pa_nil))) (pw_and1 (pt_cmpR op_geI (pv 0) (pv 1) (by rfl)))))) pss_deadA pss_nil)), ?_⟩
    k_extra "r_T16d"
    refine ⟨.int i, "int", rfl, Pl.int, ?_⟩
    k_extra "r_T16d"
    refine s_if1 rfl ?_
    k_extra "r_T16d"
    refine s_ifND (fun _ => ?_) (fun e => absurd hm e)
    exact k
/-- at of no moment: InvalidNumber -/
def spAtX (K : PySem.W.Frag) (CI : Addr) : Sp := fun vs H Q E => ∃ x v T, vs = [.ref x, v] ∧ Pl K H v T ∧ (∀ i, v = .int i → ¬ 0 ≤ i) ∧ ∀ H' d, Same H H' → H d = none → H' d = some (.xd [("value", v)]) → E (.ref CI) (some d) H'
theorem ok_story_atX {f : Addr} {fd : FuncData} (T : Txt K mg) (S : TxtS16 K mg) (XN : ExcF K mg "InvalidNumber" "value" CI) (F : Fun K "at" "Story.at" s_Story_at f fd) : FnOk P w K mg base (L2.CX P w) 4 f fd ["self", "k"] (spAtX K CI) := by
  refine F.okX sc_Story_at (fun vs H Q E h => ?_) (fun cdv A outer s H vs Q E hr h => ?_)
  · obtain ⟨x, v, T, rfl, _⟩ := h
    rfl
  · obtain ⟨x, v, ty, rfl, hv, no, kk⟩ := h
    refine ⟨_, (pss_cons (ps_expr (pe_cxS (ok_check_least T S XN) hr (by decide) (takes_of rfl rfl rfl rfl) rfl (pa_cons (pv 1) (pa_cons pe_int pa_nil)))) pss_deadA), ?_⟩
    k_extra "r_T16d"
    refine s_callSD ?_
    k_extra "r_T16d"
    refine ⟨v, ty, 0, rfl, hv, .inr ⟨no, fun H1 d1 S1 n1 h1 => ?_⟩⟩
    k_extra "r_T16d"
    exact kk H1 d1 S1 n1 h1
def spAt (CS : Addr) : Sp := fun vs H Q _ => ∃ x f c d ps zs st k, vs = [.ref x, .int k] ∧ StoAt CS H x f c d ps zs st ∧ 0 ≤ k ∧ ps.Nodup ∧ ps.length < 64 ∧ Run ps 0 zs ∧ ∀ D H' ys, H D = none → Same H H' → H' D = some (.lst ys) → Pls H' ys ((runC ps (before k zs)).mergeSort pLe) → Q (.ref D) H'
theorem ok_story_at {f : Addr} {fd : FuncData} (T : Txt K mg) (N : TxtN K mg) (I : TxtI K mg) (C : TxtC16 K mg) (S : TxtS16 K mg) (SC : StoryC K mg CS) (F : Fun K "at" "Story.at" s_Story_at f fd) : FnOk P w K mg base CX0 3 f fd ["self", "k"] (spAt CS) := by
  refine F.ok sc_Story_at (fun vs H Q E h => ?_) (fun cdv A outer s H vs Q E hr h => ?_)
  · obtain ⟨x, f, c, d, ps, zs, st, k, rfl, _⟩ := h
    rfl
  · obtain ⟨x, f, c, d, ps, zs, st, k, rfl, hs, k0, nd, lp, run, kk⟩ := h
    have hu := hr.units
    refine ⟨_, (pss_cons (ps_expr (pe_c (ok_check_least0 T S) hr (by decide) rfl (pa_cons (pv 1) (pa_cons pe_int pa_nil))))
      (C8.pss_cut (DT.ps_setDcT (i := 2) (own := [("place", 4)]) (g := gName 4) (tt := tYes) (tk := tVar 4) (tv := tC (.bl true)) rfl rfl (DT.swD_true rfl rfl rfl (by decide +kernel)) rfl (lt2 hu) sc_Story_at.nd (pi_list (pe_fld (pv 0) rfl)) (blkOk_by (own := [("place", 4)]) (N := ["self", "k", "standing", "change", "place"]) (sc := defScope s_Story_at) (by decide +kernel)) (fun _ _ _ _ _ => pg_name (i := 4) sc_Story_at.nd rfl (Or.inl rfl)) (fun _ _ _ _ _ => pts_nil) (fun _ _ _ _ _ => pv 4) (fun _ _ _ _ _ => pe_bl))
      (pss_cons (ps_for PassesOwn.never rfl (pi_list (pe_fld (pv 0) rfl)) (pg_name (i := 3) sc_Story_at.nd rfl (.inl rfl))
        (pss_one (ps_if (pt_cmpR op_ltI (pe_ix ix_seq (pv 3) pe_int (fun _ _ => rfl)) (pv 1) (by rfl)) (pss_one (ps_expr (pe_c (ok_carry_out C) hr (by decide) rfl (pa_cons (pv 3) (pa_cons (pv 2) pa_nil))))) pss_nil)))
      (pss_one (ps_ret (pe_callB (DT.cr_sortKT rfl hu) (by rfl) T.n_sorted (by decide +kernel) (pa_cons (pv 2) pa_nil))))))), ?_⟩
    obtain ⟨dx, hx⟩ := id hs.hx
    obtain ⟨xs, hf, pl⟩ := id hs.hf
    obtain ⟨ts, hc, cs⟩ := id hs.hc
    have lx : xs.length = ps.length := pl.len
    k_extra "r_T16d"
    refine ⟨k, 0, rfl, k0, ?_⟩
    have S1 := Same.refl H
    k_extra "r_T16d"
    refine q_cut8 (M := fun σ H' => ∃ D, σ = [some (.ref x), some (.int k), some (.ref D), none, none] ∧ H D = none ∧ Same H H' ∧ H' D = some (.dT (stK ps))) ?_ ?_
    · refine DT.s_dcT ?_
      k_extra "r_T16d"
      refine s_fld ?_
      k_extra "r_T16d"
      refine ⟨x, CS, dx, _, .ref f, rfl, S1 _ _ hx, SC.cl, SC.n1, lk_first _ _ _, ?_⟩
      refine ⟨f, rfl, ⟨_, SqL.of (S1 _ _ hf)⟩, fun D nD => DT.dc_listT (K := K) (a := f) (xs := xs) (fun i H' => Same H H' ∧ H' D = some (.dT (stK (ps.take i)))) ⟨Same.new nD, upd_same⟩ (fun i H' _ h => SqL.of (h.1 _ _ (S1 _ _ hf))) ?_ ?_⟩
      · rintro j y H2 hj ⟨S2, h2⟩
        obtain ⟨q, eq, b, rfl, hb⟩ := pl.get2 hj
        have lt := (List.getElem?_eq_some_iff.mp hj).1
        k_extra "r_T16d"
        refine ⟨rfl, ?_⟩
        k_extra "r_T16d"
        refine ⟨b, keyOf q, _, rfl, (S1.trans S2) _ _ hb, h2, szlt (by rw [stK_len, List.length_take]; omega), same_mut S2 nD, ?_⟩
        rw [upd_same, putK_stK (nd_next nd eq), List.take_add_one, eq]
        rfl
      · rintro H2 ⟨S2, h2⟩
        rw [List.take_of_length_le (Nat.le_of_eq pl.len.symm)] at h2
        k_extra "r_T16d"
        exact ⟨D, rfl, nD, S2, h2⟩
    rintro σ H2 ⟨D, rfl, nD, S2, hD⟩
    k_extra "r_T16d"
    refine s_fld ?_
    k_extra "r_T16d"
    have T2 := S1.trans S2
    refine ⟨x, CS, dx, _, .ref c, rfl, T2 _ _ hx, SC.cl, SC.n2, lk_changes _ _ _, ?_⟩
    refine ⟨c, rfl, ⟨_, SqL.of (T2 _ _ hc)⟩, q_forL (K := K) (a := c) (xs := ts) (fun i σ H' => ∃ v3, σ = [some (.ref x), some (.int k), some (.ref D), v3, none] ∧ Same H H' ∧ H' D = some (.dT (stK (runC ps (before k (zs.take i)))))) ⟨_, rfl, S2, hD⟩ (fun i σ H' _ ⟨_, _, S, _⟩ => SqL.of (S _ _ (S1 _ _ hc))) ?_ ?_⟩
    · rintro i y σ H3 hy ⟨v3, rfl, S3, h3⟩
      obtain ⟨z, ez, hz'⟩ := Paired.get cs hy
      obtain ⟨g1, g2, can, nmz, l9⟩ := run.get ez
      have hy3 := (hz'.mono S1).mono S3
      obtain ⟨t, ys, rfl, ht, _⟩ := id hy3
      k_extra "r_T16d"
      refine q_ixT (SqT.of ht) (at_of (j := 0) rfl rfl) ?_
      k_extra "r_T16d"
      by_cases lt : z.1 < k
      · rw [before_take run ez lt] at h3
        refine s_if1 (decide_eq_true lt) ?_
        k_extra "r_T16d"
        refine ⟨_, z, D, _, rfl, hy3, h3, by omega, can, fun H4 h4 b4 => ?_⟩
        k_extra "r_T16d"
        refine ⟨_, rfl, same_but S3 nD b4, ?_⟩
        rw [before_next k ez, if_pos lt, before_take run ez lt]
        unfold runC
        rw [List.foldl_append]
        exact h4
      · refine s_if0 (decide_eq_false lt) ?_
        k_extra "r_T16d"
        refine ⟨_, rfl, S3, ?_⟩
        rw [before_next k ez, if_neg lt, List.append_nil]
        exact h3
    · rintro σ H3 ⟨v3, rfl, S3, h3⟩
      have lt : ts.length = zs.length := Paired.length cs
      rw [lt, List.take_of_length_le (Nat.le_refl _)] at h3
      k_extra "r_T16d"
      refine q_sortPK h3 fun p H4 ys np S4 hp pl4 => ?_
      exact kk p H4 ys ((S1.trans S3).free np) (S1.trans (S3.trans S4)) hp pl4
end
end Bt
namespace Bt
open PySem PySem.Spec PyProof.Rows L2 LamX NdefX
open PySem.W (dataLt dataLe alike AllAlike Sortable)
theorem words98_ : True := by
  k_with "s_L16a" => first
    | ((with_reducible refine' s_var ?hv ?_); (case hv => exact rfl))
    | with_reducible first
      | refine' s_c ?_ | refine' s_op ?_ | refine' s_asg ?_ | refine' s_gname ?_ | refine' s_seq ?_ | refine' s_next ?_ | refine' s_ret ?_ | refine' s_ifS ?_ | refine' s_drop ?_ | refine' s_retN ?_ | refine' s_test ?_ | refine' s_B ?_ | refine' q_test ?_ | refine' s_int ?_ | refine' s_cons ?_ | refine' s_nil ?_ | refine' s_call ?_ | refine' s_CB ?_ | refine' s_andT ?_ | refine' s_orT ?_ | refine' s_notT ?_ | refine' s_andV ?_ | refine' s_orV ?_ | refine' s_notV ?_ | refine' s_ifV ?_ | refine' s_chain ?_ | refine' s_sl ?_ | refine' s_noPart ?_ | refine' s_part ?_ | refine' s_gsub ?_ | refine' s_BM ?_ | refine' s_tup ?_ | refine' s_lst ?_ | refine' q_add ?_ | refine' q_sub ?_ | refine' q_lt ?_ | refine' q_le ?_ | refine' q_gt ?_ | refine' q_ge ?_ | refine' s_ifT ?_ | refine' s_ifF ?_ | refine' s_yes ?_ | refine' s_iStr ?_ | refine' s_M0 ?_ | refine' s_for ?_ | refine' s_rng1 ?_ | refine' s_par ?_ | refine' s_gcons ?_ | refine' s_gnil ?_ | refine' s_iList ?_ | refine' s_iEnum ?_ | refine' s_raise1 ?_
      | (refine' q_mod ?hm ?_; (case hm => first | omega | decide))
    | dsimp only
  k_with "r_L16a" => repeat (k_extra "s_L16a")
  trivial
/-! ### the law's helpers: step, change -/
theorem room65 {k : Nat} {A : Around} (r : Room k A) : A.units + 65 < cLine := by have := r.un; omega
theorem any_pl (st : List Plc) (p : Plc) : (st.map dPl).any (fun z => PyData.eqv z (dPl p)) = decide (p ∈ st) := by
  rw [List.any_map, Bool.eq_iff_iff, List.any_eq_true, decide_eq_true_iff]
  constructor
  · rintro ⟨y, hy, e⟩
    have e2 : PyData.eqv (dPl y) (dPl p) = true := e
    rw [eqv_pl, decide_eq_true_iff] at e2
    exact e2 ▸ hy
  · intro h
    refine ⟨p, h, ?_⟩
    show PyData.eqv (dPl p) (dPl p) = true
    rw [eqv_pl]
    exact decide_eq_true rfl
theorem q_inPl {K : PySem.W.Frag} {H : Hp} {Q : VK} {x : V} {p : Plc} {l : Addr} {xs : List V} {st : List Plc} (hx : PlAt H x p) (np : NmP p) (hl : H l = some (.lst xs)) (pl : Pls H xs st) (nm : ∀ p ∈ st, NmP p) (q : Q (.bl (decide (p ∈ st))) H) : rInD K x (.ref l) H Q :=
  ⟨dPl p, st.map dPl, hx.dp, .lst (SqL.of hl) pl.dps, sh_pl np.1 np.2, sh_pls nm, by rw [any_pl]; exact q⟩
theorem q_ninPl {K : PySem.W.Frag} {H : Hp} {Q : VK} {x : V} {p : Plc} {l : Addr} {xs : List V} {st : List Plc} (hx : PlAt H x p) (np : NmP p) (hl : H l = some (.lst xs)) (pl : Pls H xs st) (nm : ∀ p ∈ st, NmP p) (q : Q (.bl (!decide (p ∈ st))) H) : rNotInD K x (.ref l) H Q :=
  ⟨dPl p, st.map dPl, hx.dp, .lst (SqL.of hl) pl.dps, sh_pl np.1 np.2, sh_pls nm, by rw [any_pl]; exact q⟩
structure TxtL16 (K : PySem.W.Frag) (mg : Str → Option Value) : Prop where
  d_step : Df K mg "_law_step" s__law_step ["_law_there", "_law_change_here"]
  d_change : Df K mg "_law_change" s__law_change ["_law_purse_here", "_law_places", "_law_there", "_law_gap"]
  d_course : Df K mg "_law_course" s__law_course ["_law_purse_here", "_law_places", "_law_there"]
  d_changes : Df K mg "_law_changes" s__law_changes ["_law_story"]
  d_back : Df K mg "_law_back" s__law_back ["_law_change_here", "_law_gap"]
  d_raised : Df K mg "_law_raised" s__law_raised ["_law_story", "_law_value"]
  d_right : Df K mg "_law_right" s__law_right ["_law_story", "_law_first", "_law_changes_here", "_law_moments"]
section
variable {P : Program} {w : World} {K : PySem.W.Frag} {mg : Str → Option Value} {base : Heap}
def spStep : Sp := fun vs H Q _ => ∃ q xs st y z, vs = [.ref q, y] ∧ H q = some (.lst xs) ∧ Pls H xs st ∧ (∀ p ∈ st, NmP p) ∧ ChAt H y z ∧ (∀ p ∈ z.2.pcs, NmP p) ∧ Can st z.2 ∧ xs.length < 1000 ∧
  ∀ D H' ys, H D = none → Same H H' → H' D = some (.lst ys) → Pls H' ys (mkC st z.2) → Q (.ref D) H'
theorem ok__law_step (L : TxtL16 K mg) : Cal P w K mg base 1 "_law_step" spStep := by
  refine L.d_step.cal sc__law_step (fun vs H Q E h => ?_) (fun f cdv A outer s H vs Q E hr h => ?_)
  · obtain ⟨q, xs, st, y, z, rfl, _⟩ := h
    rfl
  · obtain ⟨q, xs, st, y, z, rfl, hq, pl, nm, ⟨t, ys, rfl, ht, hy⟩, nz, can, hz, k⟩ := h
    have hu := hr.units
    refine ⟨_, (pss_cons (ps_if (pt_cmpR op_eq (pe_ix ix_seq (pv 1) pe_int (fun _ _ => rfl)) pe_str (by rfl)) (pss_cons (ps_if (pt_cmpR (op_inD (room65 hr)) (pe_ix ix_seq (pv 1) pe_int (fun _ _ => rfl)) (pv 0) (by rfl)) (pss_one (ps_ret pe_non)) pss_nil)
        (pss_one (ps_ret (pe_op op_addU (pv 0) (pe_lst (pa_cons (pe_ix ix_seq (pv 1) pe_int (fun _ _ => rfl)) pa_nil)))))) pss_nil)
      (pss_cons (ps_if (pt_cmpR (op_notInD (room65 hr)) (pe_ix ix_seq (pv 1) pe_int (fun _ _ => rfl)) (pv 0) (by rfl)) (pss_one (ps_ret pe_non)) pss_nil)
      (C8.pss_cut (ps_setLc (i := 2) (own := [("_law_place", 3)]) (g := gName 3) (tt := tTest (tOp (rNeU K) (tVar 3) (tOp (rIx K) (tVar 1) (tC (.int 2))))) (te := tVar 3) rfl sc__law_step.nd rfl rfl (sw_true rfl rfl rfl (by decide +kernel)) (pi_list (pv 0)) (blkOk_by (own := [("_law_place", 3)]) (N := ["_law_there", "_law_change_here", "_law_rest", "_law_place"]) (sc := defScope s__law_step) (by decide +kernel)) (fun _ _ _ _ _ => pg_name (i := 3) sc__law_step.nd rfl (Or.inl rfl)) (fun _ _ _ _ _ => by exact pts_one (pt_cmpR (op_neU hu) (pv 3) (pe_ix ix_seq (pv 1) pe_int (fun _ _ => rfl)) (by rfl))) (fun _ _ _ _ _ => (pv 3)))
      (pss_cons (ps_if (pt_cmpR op_eq (pe_ix ix_seq (pv 1) pe_int (fun _ _ => rfl)) pe_str (by rfl)) (pss_one (ps_ret (pv 2))) pss_nil)
      (pss_cons (ps_if (pt_cmpR (op_inD (room65 hr)) (pe_ix ix_seq (pv 1) pe_int (fun _ _ => rfl)) (pv 0) (by rfl)) (pss_one (ps_ret pe_non)) pss_nil)
      (pss_one (ps_ret (pe_op op_addU (pv 2) (pe_lst (pa_cons (pe_ix ix_seq (pv 1) pe_int (fun _ _ => rfl)) pa_nil)))))))))), ?_⟩
    k_extra "r_L16a"
    refine q_ixT (SqT.of ht) (at_of (j := 1) rfl rfl) ?_
    k_extra "r_L16a"
    obtain ⟨g, c⟩ := z
    by_cases ea : ∃ p, c = .add p
    · obtain ⟨p, rfl⟩ := ea
      refine ⟨rfl, q_test (s_if1 (show decide (V.str "add" = V.str "add") = true by decide) ?_)⟩
      cases hy with
      | cons h hn =>
        k_extra "r_L16a"
        refine q_ixT (SqT.of ht) (at_of (j := 2) rfl rfl) ?_
        k_extra "r_L16a"
        refine q_inPl h (nz p (by simp [Ch.pcs])) hq pl nm ?_
        rw [decide_eq_false (can.2 p rfl)]
        refine q_test (s_if0 rfl ?_)
        k_extra "r_L16a"
        refine q_ixT (SqT.of ht) (at_of (j := 2) rfl rfl) ?_
        k_extra "r_L16a"
        refine q_newL (by show 1 ≤ sizeLine; decide) fun l1 H1 n1 S1 h1 => ?_
        refine q_cat (S1 _ _ hq) h1 (sz (by simp; omega)) fun l2 H2 n2 S2 h2 => ?_
        have S12 := S1.trans S2
        exact k l2 H2 _ (S1.free n2) S12 h2 ((pl.mono S12).app (.cons (h.mono S12) .nil))
    obtain ⟨p, y0, yr, rfl, hp, np, eg, ew⟩ : ∃ p y0 yr, ys = y0 :: yr ∧ PlAt H y0 p ∧ NmP p ∧ c.gs = some p ∧ decide (V.str c.wd = V.str "add") = false := by
      cases c with
      | add p => exact absurd ⟨p, rfl⟩ ea
      | take p =>
        cases hy with
        | cons h hn => exact ⟨p, _, _, rfl, h, nz p (by simp [Ch.pcs]), rfl, show decide (V.str "take" = V.str "add") = false by decide +kernel⟩
      | ren p r =>
        cases hy with
        | cons h hn => exact ⟨p, _, _, rfl, h, nz p (by simp [Ch.pcs]), rfl, show decide (V.str "rename" = V.str "add") = false by decide +kernel⟩
    refine ⟨rfl, q_test (s_if0 ew ?_)⟩
    k_extra "r_L16a"
    refine q_ixT (SqT.of ht) (at_of (j := 2) rfl rfl) ?_
    k_extra "r_L16a"
    refine q_ninPl hp np hq pl nm ?_
    rw [decide_eq_true (can.1 p eg)]
    refine q_test (s_if0 rfl ?_)
    k_extra "r_L16a"
    refine q_cut8 (M := fun σ H' => ∃ D us, σ = [some (.ref q), some (.ref t), some (.ref D), none] ∧ H D = none ∧ Same H H' ∧ H' D = some (.lst us) ∧ Pls H' us (st.filter fun r => decide (r ≠ p)) ∧ us.length ≤ xs.length) ?_ ?_
    · k_extra "r_L16a"
      refine s_lc ?_
      k_extra "r_L16a"
      refine ⟨q, rfl, ⟨_, SqL.of hq⟩, fun D nD => lc_list (K := K) (a := q) (xs := xs) (fun i H' => Same H H' ∧ ∃ us, H' D = some (.lst us) ∧ Pls H' us ((st.take i).filter fun r => decide (r ≠ p)) ∧ us.length ≤ i) ⟨Same.new nD, [], upd_same, .nil, Nat.le_refl _⟩ (fun i H' _ h => SqL.of (h.1 _ _ hq)) ?_ ?_⟩
      · rintro i x H1 hx ⟨S1, us, h1, pu, lu⟩
        obtain ⟨r, er, hr'⟩ := pl.get2 hx
        have lt := (List.getElem?_eq_some_iff.mp hx).1
        have mr := List.mem_of_getElem? er
        k_extra "r_L16a"
        refine ⟨rfl, ?_⟩
        k_extra "r_L16a"
        refine q_ixT (SqT.of (S1 _ _ ht)) (at_of (j := 2) rfl rfl) ?_
        refine q_neD (hr'.mono S1).dp (hp.mono S1).dp (sh_pl (nm r mr).1 (nm r mr).2) (sh_pl np.1 np.2) ?_
        rw [eqv_pl, List.take_add_one, er, List.filter_append]
        by_cases e : r = p
        · rw [decide_eq_true e]
          refine ⟨_, rfl, ?_⟩
          refine ⟨S1, us, h1, ?_, by omega⟩
          simpa [e] using pu
        · rw [decide_eq_false e]
          refine ⟨_, rfl, s_if1 rfl ?_⟩
          k_extra "r_L16a"
          have N : TupK H1 (upd H1 D (.lst (us ++ [x]))) := TupK.but h1 (fun _ z => by cases z) But.upd
          refine ⟨us, h1, szlt (by omega), same_mut S1 nD, _, upd_same, ?_, by simp; omega⟩
          have : List.filter (fun r => decide (r ≠ p)) (some r).toList = [r] := by simp [e]
          rw [this]
          exact (pu.tk N).app (.cons ((hr'.mono S1).tk N) .nil)
      · rintro H1 ⟨S1, us, h1, pu, lu⟩
        rw [List.take_of_length_le (Nat.le_of_eq pl.len.symm)] at pu
        k_extra "r_L16a"
        exact ⟨D, us, rfl, nD, S1, h1, pu, lu⟩
    rintro σ H1 ⟨D, us, rfl, nD, S1, hD, pu, lu⟩
    k_extra "r_L16a"
    refine q_ixT (SqT.of (S1 _ _ ht)) (at_of (j := 1) rfl rfl) ?_
    k_extra "r_L16a"
    cases c with
    | add p => exact absurd ⟨p, rfl⟩ ea
    | take p' =>
      cases eg
      refine ⟨rfl, q_test (s_if1 (show decide (V.str "take" = V.str "take") = true by decide) ?_)⟩
      k_extra "r_L16a"
      refine k D H1 us nD S1 hD ?_
      show Pls H1 us ((st.filter fun q => decide (q ≠ p)) ++ [])
      rw [List.append_nil]
      exact pu
    | ren p' r =>
      cases eg
      refine ⟨rfl, q_test (s_if0 (show decide (V.str "rename" = V.str "take") = false by decide +kernel) ?_)⟩
      cases hy with
      | cons _ hn =>
      cases hn with
      | cons hr2 hn2 =>
      cases hn2
      have hr3 := hr2.mono S1
      k_extra "r_L16a"
      refine q_ixT (SqT.of (S1 _ _ ht)) (at_of (j := 3) rfl rfl) ?_
      k_extra "r_L16a"
      refine q_inPl hr3 (nz r (by simp [Ch.pcs])) (S1 _ _ hq) (pl.mono S1) nm ?_
      rw [decide_eq_false (can.2 r rfl)]
      refine q_test (s_if0 rfl ?_)
      k_extra "r_L16a"
      refine q_ixT (SqT.of (S1 _ _ ht)) (at_of (j := 3) rfl rfl) ?_
      k_extra "r_L16a"
      refine q_newL (by show 1 ≤ sizeLine; decide) fun l1 H2 n2 S2 h2 => ?_
      refine q_cat (S2 _ _ hD) h2 (sz (by simp; omega)) fun l2 H3 n3 S3 h3 => ?_
      have S23 := S2.trans S3
      exact k l2 H3 _ ((S1.trans S2).free n3) (S1.trans S23) h3 ((pu.mono S23).app (.cons (hr3.mono S23) .nil))
end
end Bt
namespace Bt
open PySem PySem.Spec PyProof.Rows L2 LamX NdefX
open PySem.W (dataLt dataLe alike AllAlike Sortable)
theorem words99_ : True := by
  k_with "s_L16b" => first
    | ((with_reducible refine' s_var ?hv ?_); (case hv => exact rfl))
    | with_reducible first
      | refine' s_c ?_ | refine' s_op ?_ | refine' s_asg ?_ | refine' s_gname ?_ | refine' s_seq ?_ | refine' s_next ?_ | refine' s_ret ?_ | refine' s_ifS ?_ | refine' s_drop ?_ | refine' s_retN ?_ | refine' s_test ?_ | refine' s_B ?_ | refine' q_test ?_ | refine' s_int ?_ | refine' s_cons ?_ | refine' s_nil ?_ | refine' s_call ?_ | refine' s_CB ?_ | refine' s_andT ?_ | refine' s_orT ?_ | refine' s_notT ?_ | refine' s_andV ?_ | refine' s_orV ?_ | refine' s_notV ?_ | refine' s_ifV ?_ | refine' s_chain ?_ | refine' s_sl ?_ | refine' s_noPart ?_ | refine' s_part ?_ | refine' s_gsub ?_ | refine' s_BM ?_ | refine' s_tup ?_ | refine' s_lst ?_ | refine' q_add ?_ | refine' q_sub ?_ | refine' q_lt ?_ | refine' q_le ?_ | refine' q_gt ?_ | refine' q_ge ?_ | refine' s_ifT ?_ | refine' s_ifF ?_ | refine' s_yes ?_ | refine' s_iStr ?_ | refine' s_M0 ?_ | refine' s_for ?_ | refine' s_rng1 ?_ | refine' s_par ?_ | refine' s_gcons ?_ | refine' s_gnil ?_ | refine' s_iList ?_ | refine' s_iEnum ?_ | refine' s_raise1 ?_
      | (refine' q_mod ?hm ?_; (case hm => first | omega | decide))
    | dsimp only
  k_with "r_L16b" => repeat (k_extra "s_L16b")
  trivial
/-! ### the law's helpers: change, course, due, raised -/
section
variable {P : Program} {w : World} {K : PySem.W.Frag} {mg : Str → Option Value} {base : Heap} {CS CI : Addr}
def spChange : Sp := fun vs H Q _ => ∃ pu lp xs ps q ys st g, vs = [.ref pu, .ref lp, .ref q, .int g] ∧ Purse H pu ∧ H lp = some (.lst xs) ∧ lp ≠ pu ∧ Pls H xs ps ∧ xs ≠ [] ∧ xs.length ≤ 100 ∧ (∀ p ∈ ps, NmP p) ∧ H q = some (.lst ys) ∧ q ≠ pu ∧ Pls H ys st ∧ (∀ p ∈ st, NmP p) ∧
  ∀ y H' z, ChAt H' y z → z.1 = g → Can st z.2 → (∀ p ∈ z.2.pcs, p ∈ ps) → Purse H' pu → But pu H H' → Q y H'
theorem ok__law_change (L : TxtL K mg) (N : TxtN K mg) (L4 : TxtL16 K mg) : Cal P w K mg base 2 "_law_change" spChange := by
  refine L4.d_change.cal sc__law_change (fun vs H Q E h => ?_) (fun f cdv A outer s H vs Q E hr h => ?_)
  · obtain ⟨pu, lp, xs, ps, q, ys, st, g, rfl, _⟩ := h
    rfl
  · obtain ⟨pu, lp, xs, ps, q, ys, st, g, rfl, hp, hl, lpu, pl, ne, lx, nm, hq, qpu, pq, nq, k⟩ := h
    have hu := hr.units
    refine ⟨_, (pss_cons (ps_par (i := 4) (j := 5) (by rfl) sc__law_change.nd rfl rfl (by decide) rfl rfl (pa_cons (pe_ix ix_seq (pv 1) (pe_c (ok__law_draw L) hr (by decide) rfl (pa_cons (pv 0) (pa_cons (pe_callB call_lenQ (by rfl) N.n_len (by decide +kernel) (pa_cons (pv 1) pa_nil)) pa_nil))) (fun _ _ => rfl)) (pa_cons (pe_ix ix_seq (pv 1) (pe_c (ok__law_draw L) hr (by decide) rfl (pa_cons (pv 0) (pa_cons (pe_callB call_lenQ (by rfl) N.n_len (by decide +kernel) (pa_cons (pv 1) pa_nil)) pa_nil))) (fun _ _ => rfl)) pa_nil)) (by rfl))
      (C8.pss_cut (ps_if (PW.pt (pw_and (pt_cmpR (op_inD (room65 hr)) (pv 4) (pv 2) (by rfl)) (pw_and (pt_cmpR (op_notInD (room65 hr)) (pv 5) (pv 2) (by rfl)) (pw_and1 (pt_cmpR op_gtI (pe_c (ok__law_draw L) hr (by decide) rfl (pa_cons (pv 0) (pa_cons pe_int pa_nil))) pe_int (by rfl)))))) (pss_one (ps_ret (pe_tup (pa_cons (pv 3) (pa_cons pe_str (pa_cons (pv 4) (pa_cons (pv 5) pa_nil))))))) pss_nil)
      (pss_one (ps_ret (pe_tup (pa_cons (pv 3) (pa_cons (pe_ifExp (pt_cmpR (op_inD (room65 hr)) (pv 4) (pv 2) (by rfl)) pe_str pe_str) (pa_cons (pv 4) pa_nil)))))))), ?_⟩
    have l0 : 0 < xs.length := List.length_pos_iff.mpr ne
    have pick : ∀ n : Int, 0 ≤ n → n < xs.length → ∃ x p, atI xs n = some x ∧ p ∈ ps ∧ PlAt H x p := fun n n0 n1 => by
      obtain ⟨j, rfl⟩ : ∃ j : Nat, n = j := ⟨n.toNat, by omega⟩
      have e : xs[j]? = some xs[j] := List.getElem?_eq_getElem (by omega)
      obtain ⟨p, mp, hp⟩ := pl.get e
      exact ⟨_, p, atI_nat e, mp, hp⟩
    k_extra "r_L16b"
    refine q_lenL (SqL.of hl) ?_
    k_extra "r_L16b"
    refine ⟨pu, _, rfl, hp, by omega, by omega, fun n H1 n0 n1 p1 b1 => ?_⟩
    obtain ⟨x, p, ex, mp, hx⟩ := pick n n0 n1
    have hl1 := b1 _ _ lpu hl
    refine q_ixL (SqL.of hl1) ex ?_
    k_extra "r_L16b"
    refine q_lenL (SqL.of hl1) ?_
    k_extra "r_L16b"
    refine ⟨pu, _, rfl, p1, by omega, by omega, fun m H2 m0 m1 p2 b2 => ?_⟩
    obtain ⟨y, r, ey, mr, hy⟩ := pick m m0 m1
    have b12 := b1.trans b2
    refine q_ixL (SqL.of (b2 _ _ lpu hl1)) ey ?_
    k_extra "r_L16b"
    refine ⟨_, _, rfl, ?_⟩
    k_extra "r_L16b"
    have hx2 := hx.nl (NL.pu hp b12)
    have hy2 := hy.nl (NL.pu hp b12)
    have hq2 := b12 _ _ qpu hq
    have pq2 := pq.nl (NL.pu hp b12)
    refine q_cut8 (M := fun σ H' => σ = [some (.ref pu), some (.ref lp), some (.ref q), some (.int g), some x, some y] ∧ Purse H' pu ∧ But pu H H') ?_ ?_
    · k_extra "r_L16b"
      refine q_inPl hx2 (nm p mp) hq2 pq2 nq ?_
      by_cases e1 : p ∈ st
      · rw [decide_eq_true e1]
        refine q_test (s_if1 rfl ?_)
        k_extra "r_L16b"
        refine q_ninPl hy2 (nm r mr) hq2 pq2 nq ?_
        by_cases e2 : r ∈ st
        · rw [decide_eq_true e2]
          refine q_test (s_if0 rfl ?_)
          k_extra "r_L16b"
          exact ⟨rfl, p2, b12⟩
        · rw [decide_eq_false e2]
          refine q_test (s_if1 rfl ?_)
          k_extra "r_L16b"
          refine ⟨pu, 3, rfl, p2, by decide, by decide, fun a H3 a0 a1 p3 b3 => ?_⟩
          k_extra "r_L16b"
          refine s_ifD (fun _ => ?_) (fun _ => ?_)
          · k_extra "r_L16b"
            have N3 := NL.pu p2 b3
            refine q_newT (by show 4 ≤ sizeLine; decide) fun t H4 n4 S4 h4 => ?_
            exact k _ H4 (g, .ren p r) ⟨t, [x, y], rfl, h4, .cons ((hx2.nl N3).mono S4) (.cons ((hy2.nl N3).mono S4) .nil)⟩ rfl ⟨fun p' e => by cases e; exact e1, fun q' e => by cases e; exact e2⟩ (fun p' m' => by
              simp only [Ch.pcs, List.mem_cons, List.not_mem_nil, or_false] at m'
              rcases m' with rfl | rfl <;> assumption) (p3.mono S4) (b12.trans (b3.trans (But.of S4)))
          · k_extra "r_L16b"
            exact ⟨rfl, p3, b12.trans b3⟩
      · rw [decide_eq_false e1]
        refine q_test (s_if0 rfl ?_)
        k_extra "r_L16b"
        exact ⟨rfl, p2, b12⟩
    clear p1 b1 hl1 p2 b2 b12 hx2 hy2 hq2 pq2
    rintro σ H3 ⟨rfl, p3, b3⟩
    have N3 := NL.pu hp b3
    k_extra "r_L16b"
    refine q_inPl (hx.nl N3) (nm p mp) (b3 _ _ qpu hq) (pq.nl N3) nq ?_
    by_cases e1 : p ∈ st
    · rw [decide_eq_true e1]
      refine q_test (s_if1 rfl ?_)
      k_extra "r_L16b"
      refine q_newT (by show 3 ≤ sizeLine; decide) fun t H4 n4 S4 h4 => ?_
      exact k _ H4 (g, .take p) ⟨t, [x], rfl, h4, .cons ((hx.nl N3).mono S4) .nil⟩ rfl ⟨fun p' e => by cases e; exact e1, fun q' e => by cases e⟩ (fun p' m' => by
        simp only [Ch.pcs, List.mem_cons, List.not_mem_nil, or_false] at m'
        rcases m' with rfl
        assumption) (p3.mono S4) (b3.trans (But.of S4))
    · rw [decide_eq_false e1]
      refine q_test (s_if0 rfl ?_)
      k_extra "r_L16b"
      refine q_newT (by show 3 ≤ sizeLine; decide) fun t H4 n4 S4 h4 => ?_
      exact k _ H4 (g, .add p) ⟨t, [x], rfl, h4, .cons ((hx.nl N3).mono S4) .nil⟩ rfl ⟨fun p' e => (by cases e), fun q' e => by cases e; exact e1⟩ (fun p' m' => by
        simp only [Ch.pcs, List.mem_cons, List.not_mem_nil, or_false] at m'
        rcases m' with rfl
        assumption) (p3.mono S4) (b3.trans (But.of S4))
end
end Bt
namespace Bt
open PySem PySem.Spec PyProof.Rows L2 LamX NdefX
open PySem.W (dataLt dataLe alike AllAlike Sortable)
theorem words100_ : True := by
  k_with "s_L16c" => first
    | ((with_reducible refine' s_var ?hv ?_); (case hv => exact rfl))
    | with_reducible first
      | refine' s_c ?_ | refine' s_op ?_ | refine' s_asg ?_ | refine' s_gname ?_ | refine' s_seq ?_ | refine' s_next ?_ | refine' s_ret ?_ | refine' s_ifS ?_ | refine' s_drop ?_ | refine' s_retN ?_ | refine' s_test ?_ | refine' s_B ?_ | refine' q_test ?_ | refine' s_int ?_ | refine' s_cons ?_ | refine' s_nil ?_ | refine' s_call ?_ | refine' s_CB ?_ | refine' s_andT ?_ | refine' s_orT ?_ | refine' s_notT ?_ | refine' s_andV ?_ | refine' s_orV ?_ | refine' s_notV ?_ | refine' s_ifV ?_ | refine' s_chain ?_ | refine' s_sl ?_ | refine' s_noPart ?_ | refine' s_part ?_ | refine' s_gsub ?_ | refine' s_BM ?_ | refine' s_tup ?_ | refine' s_lst ?_ | refine' q_add ?_ | refine' q_sub ?_ | refine' q_lt ?_ | refine' q_le ?_ | refine' q_gt ?_ | refine' q_ge ?_ | refine' s_ifT ?_ | refine' s_ifF ?_ | refine' s_yes ?_ | refine' s_iStr ?_ | refine' s_M0 ?_ | refine' s_for ?_ | refine' s_rng1 ?_ | refine' s_par ?_ | refine' s_gcons ?_ | refine' s_gnil ?_ | refine' s_iList ?_ | refine' s_iEnum ?_ | refine' s_raise1 ?_
      | (refine' q_mod ?hm ?_; (case hm => first | omega | decide))
    | dsimp only
  k_with "r_L16c" => repeat (k_extra "s_L16c")
  trivial
/-! ### course, due, raised -/
theorem mkC_mem {st : List Plc} {c : Ch} {p : Plc} (h : p ∈ mkC st c) : p ∈ st ∨ p ∈ c.pcs := by
  unfold mkC at h
  rcases List.mem_append.mp h with h | h
  · left
    cases e : c.gs with
    | none => rw [e] at h; exact h
    | some q => rw [e] at h; exact (List.mem_filter.mp h).1
  · right
    cases c <;> simp_all [Ch.cs, Ch.pcs]
theorem mkC_len (st : List Plc) (c : Ch) : (mkC st c).length ≤ st.length + 1 := by
  cases c with
  | add p =>
    show (st ++ [p]).length ≤ _
    simp
  | take p =>
    show (st.filter (fun q => decide (q ≠ p)) ++ []).length ≤ _
    rw [List.append_nil]
    exact Nat.le_succ_of_le (List.length_filter_le _ _)
  | ren p q =>
    show (st.filter (fun q => decide (q ≠ p)) ++ [q]).length ≤ _
    rw [List.length_append]
    exact Nat.add_le_add_right (List.length_filter_le _ _) 1
theorem pick5 {e : Int} (he : 0 ≤ e) {m : Int} (m0 : 0 ≤ m) (m1 : m < 5) : ∃ g : Int, atI [V.int 0, V.int 0, V.int 1, V.int 2, V.int e] m = some (.int g) ∧ 0 ≤ g := by
  obtain ⟨j, rfl⟩ : ∃ j : Nat, m = j := ⟨m.toNat, by omega⟩
  match j, m1 with
  | 0, _ => exact ⟨0, atI_nat (j := 0) rfl, by decide⟩
  | 1, _ => exact ⟨0, atI_nat (j := 1) rfl, by decide⟩
  | 2, _ => exact ⟨1, atI_nat (j := 2) rfl, by decide⟩
  | 3, _ => exact ⟨2, atI_nat (j := 3) rfl, by decide⟩
  | 4, _ => exact ⟨e, atI_nat (j := 4) rfl, he⟩
  | j + 5, h => omega
theorem runC_snoc (st : List Plc) (zs : List GC) (z : GC) : runC st (zs ++ [z]) = mkC (runC st zs) z.2 := by
  unfold runC
  rw [List.foldl_append]
  rfl
theorem lastG_snoc (g : Int) (zs : List GC) (z : GC) : lastG g (zs ++ [z]) = z.1 := by
  unfold lastG
  rw [List.foldl_append]
  rfl
theorem Run.snoc : ∀ {zs : List GC} {st : List Plc} {g : Int} {z : GC}, Run st g zs → lastG g zs ≤ z.1 → Can (runC st zs) z.2 → (∀ p ∈ z.2.pcs, NmP p) → (runC st zs).length < 90 → Run st g (zs ++ [z])
  | [], _, _, _, _, h1, h2, h3, h4 => ⟨h1, h2, h3, h4, trivial⟩
  | _ :: _, _, _, _, ⟨k1, k2, k3, k4, k5⟩, h1, h2, h3, h4 => ⟨k1, k2, k3, k4, Run.snoc k5 h1 h2 h3 h4⟩
section
variable {P : Program} {w : World} {K : PySem.W.Frag} {mg : Str → Option Value} {base : Heap} {CS CI : Addr}
def spCourse : Sp := fun vs H Q _ => ∃ pu lp xs ps q ys st, vs = [.ref pu, .ref lp, .ref q] ∧ Purse H pu ∧ H lp = some (.lst xs) ∧ lp ≠ pu ∧ Pls H xs ps ∧ xs ≠ [] ∧ xs.length ≤ 100 ∧ (∀ p ∈ ps, NmP p) ∧ H q = some (.lst ys) ∧ q ≠ pu ∧ Pls H ys st ∧ (∀ p ∈ st, NmP p) ∧ st.length ≤ 20 ∧
  ∀ D H' ts zs, H D = none → H' D = some (.lst ts) → ChsAt H' ts zs → Run st 0 zs → zs.length ≤ 9 → (∀ z ∈ zs, ∀ p ∈ z.2.pcs, p ∈ ps) → Purse H' pu → But pu H H' → Q (.ref D) H'
theorem ok__law_course (L : TxtL K mg) (N : TxtN K mg) (L4 : TxtL16 K mg) : Cal P w K mg base 3 "_law_course" spCourse := by
  refine L4.d_course.cal sc__law_course (fun vs H Q E h => ?_) (fun f cdv A outer s H vs Q E hr h => ?_)
  · obtain ⟨pu, lp, xs, ps, q, ys, st, rfl, _⟩ := h
    rfl
  · obtain ⟨pu, lp, xs, ps, q, ys, st, rfl, hp, hl, lpu, pl, ne, lx, nm, hq, qpu, pq, nq, ls, k⟩ := h
    have hu := hr.units
    refine ⟨_, (pss_cons (ps_par (i := 3) (j := 4) (by rfl) sc__law_course.nd rfl rfl (by decide) rfl rfl (pa_cons (pe_lst pa_nil) (pa_cons pe_int pa_nil)) (by rfl))
      (pss_cons (ps_for PassesOwn.never rfl (pi_range1 rfl L.n_range (pa_cons (pe_c (ok__law_draw L) hr (by decide) rfl (pa_cons (pv 0) (pa_cons pe_int pa_nil))) pa_nil)) (pg_name (i := 5) sc__law_course.nd rfl (.inl rfl))
        (pss_cons (ps_set (i := 4) sc__law_course.nd rfl (.inl rfl) (pe_op op_addU (pv 4) (pe_ix ix_seq (pe_lst (pa_cons pe_int (pa_cons pe_int (pa_cons pe_int (pa_cons pe_int (pa_cons (pe_op op_powW pe_int pe_int) pa_nil)))))) (pe_c (ok__law_draw L) hr (by decide) rfl (pa_cons (pv 0) (pa_cons pe_int pa_nil))) (fun _ _ => rfl))))
          (pss_cons (ps_set (i := 6) sc__law_course.nd rfl (.inl rfl) (pe_c (ok__law_change L N L4) hr (by decide) rfl (pa_cons (pv 0) (pa_cons (pv 1) (pa_cons (pv 2) (pa_cons (pv 4) pa_nil))))))
          (pss_cons (ps_set (i := 2) sc__law_course.nd rfl (.inl rfl) (pe_c (ok__law_step L4) hr (by decide) rfl (pa_cons (pv 2) (pa_cons (pv 6) pa_nil))))
          (pss_one (ps_expr (pe_bm PySem.F.plainAttrs_list PySem.F.slot_list_append PySem.F.type_list_append mt_append (pv 3) (pa_cons (pv 6) pa_nil))))))))
      (pss_one (ps_ret (pv 3))))), ?_⟩
    k_extra "r_L16c"
    refine q_newL (by show 0 ≤ sizeLine; decide) fun D H1 nD S1 hD => ?_
    k_extra "r_L16c"
    refine ⟨_, _, rfl, ?_⟩
    k_extra "r_L16c"
    have Dpu : D ≠ pu := fun z => by obtain ⟨_, _, _, e, _⟩ := hp; rw [z, e] at nD; cases nD
    have lD : lp ≠ D := fun z => by rw [z, nD] at hl; cases hl
    have qD : q ≠ D := fun z => by rw [z, nD] at hq; cases hq
    refine ⟨pu, 10, rfl, hp.mono S1, by decide, by decide, fun n H2 n0 n1 p2 b2 => ?_⟩
    k_extra "r_L16c"
    refine ⟨_, rfl, by omega, by omega, q_forR (fun i σ H' => ∃ q' ys' ts zs v5 v6, σ = [some (.ref pu), some (.ref lp), some (.ref q'), some (.ref D), some (.int (lastG 0 zs)), v5, v6] ∧ H' D = some (.lst ts) ∧ ChsAt H' ts zs ∧ Run st 0 zs ∧ zs.length = i ∧ (∀ z ∈ zs, ∀ p ∈ z.2.pcs, p ∈ ps) ∧
      H' q' = some (.lst ys') ∧ q' ≠ pu ∧ q' ≠ D ∧ Pls H' ys' (runC st zs) ∧ (∀ p ∈ runC st zs, NmP p) ∧ (runC st zs).length ≤ 20 + i ∧ Purse H' pu ∧ But pu H H')
      ⟨q, ys, [], [], none, none, rfl, b2 _ _ Dpu hD, .nil, trivial, rfl, (fun _ h => by cases h), b2 _ _ qpu (S1 _ _ hq), qpu, qD, (pq.mono S1).nl (NL.pu (hp.mono S1) b2), nq, by simpa [runC] using ls, p2, (But.of S1).trans b2⟩ ?_ ?_⟩
    · rintro i σ H3 hi ⟨q', ys', ts, zs, v5, v6, rfl, h3, cs, run, lz, mz, hq', nq1, nq2, pq', nmr, lr, p3, b3⟩
      have ltz : ts.length = zs.length := Paired.length cs
      k_extra "r_L16c"
      refine ⟨_, _, rfl, rfl, ⟨by decide, by decide +kernel⟩, ?_⟩
      k_extra "r_L16c"
      refine q_newL (by show 5 ≤ sizeLine; decide) fun l4 H4 n4 S4 h4 => ?_
      have l4pu : l4 ≠ pu := fun z => by obtain ⟨_, _, _, e, _⟩ := p3; rw [z, e] at n4; cases n4
      k_extra "r_L16c"
      refine ⟨pu, 5, rfl, p3.mono S4, by decide, by decide, fun m H5 m0 m1 p5 b5 => ?_⟩
      obtain ⟨e, ee, e0⟩ := pick5 (e := 10 ^ (30 : Int).toNat) (by decide) m0 m1
      refine q_ixL (SqL.of (b5 _ _ l4pu h4)) ee ?_
      k_extra "r_L16c"
      have T35 : But pu H3 H5 := (But.of S4).trans b5
      have N35 := NL.pu p3 T35
      have lpc : ∀ {H' : Hp}, But pu H H' → H' lp = some (.lst xs) := fun b => b _ _ lpu hl
      have plc : ∀ {H' : Hp}, But pu H H' → Pls H' xs ps := fun b => pl.nl (NL.pu hp b)
      have B5 := b3.trans T35
      refine ⟨pu, lp, xs, ps, q', ys', runC st zs, _, rfl, p5, lpc B5, lpu, plc B5, ne, lx, nm, T35 _ _ nq1 hq', nq1, pq'.nl N35, nmr, fun y H6 z hy gz can mz' p6 b6 => ?_⟩
      have T36 := T35.trans b6
      have N36 := NL.pu p3 T36
      have nz : ∀ p ∈ z.2.pcs, NmP p := fun p hp => nm p (mz' p hp)
      have lq : ys'.length = (runC st zs).length := pq'.len
      k_extra "r_L16c"
      refine ⟨_, ys', _, y, z, rfl, T36 _ _ nq1 hq', pq'.nl N36, nmr, hy, nz, can, by omega, fun q2 H7 ys2 n7 S7 h7 pl7 => ?_⟩
      have h7D : H7 D = some (.lst ts) := S7 _ _ (T36 _ _ Dpu h3)
      have q2D : q2 ≠ D := fun e => by rw [e, T36 _ _ Dpu h3] at n7; cases n7
      have q2pu : q2 ≠ pu := fun e => by obtain ⟨_, _, _, e2, _⟩ := p6; rw [e, e2] at n7; cases n7
      k_extra "r_L16c"
      refine ⟨.inl ⟨rfl, _, SqL.of h7D⟩, ?_⟩
      k_extra "r_L16c"
      refine q_append h7D (szlt (by omega)) fun H8 b8 h8 => ?_
      have N8 : TupK H7 H8 := TupK.but h7D (fun _ z => by cases z) b8
      k_extra "r_L16c"
      refine ⟨q2, ys2, _, zs ++ [z], _, _, by rw [lastG_snoc, gz]; rfl, h8, ((cs.tk (TupK.nl N36)).mono S7 |>.tk N8).snoc ((hy.mono S7).tk N8), run.snoc (by rw [gz]; omega) can nz (by omega), by simp; omega, fun y' my => ?_, b8 _ _ q2D h7, q2pu, q2D, by rw [runC_snoc]; exact pl7.tk N8, ?_, ?_, ?_, fun b o nb eo => ?_⟩
      · rcases List.mem_append.mp my with my | my
        · exact mz y' my
        · rw [List.mem_singleton.mp my]
          exact mz'
      · rw [runC_snoc]
        intro p hp
        exact (mkC_mem hp).elim (nmr p) (nz p)
      · rw [runC_snoc]
        have := mkC_len (runC st zs) z.2
        omega
      · obtain ⟨_, _, _, e2, hh⟩ := p6.mono S7
        exact ⟨_, _, _, b8 _ _ Dpu.symm e2, hh⟩
      · exact b8 _ _ (fun z => by rw [z, nD] at eo; cases eo) (S7 _ _ (T36 _ _ nb (b3 _ _ nb eo)))
    · rintro σ H3 ⟨q', ys', ts, zs, v5, v6, rfl, h3, cs, run, lz, mz, hq', nq1, nq2, pq', nmr, lr, p3, b3⟩
      k_extra "r_L16c"
      exact k D H3 ts zs nD h3 cs run (by omega) mz p3 b3
end
end Bt
namespace PySem.W
open Lean Elab Tactic Meta PySem PySem.Calls PyProof.Rows
/-! ### an own operator, the other operand of a built-in kind -/
section
variable {prog : Program} {w : World} {A : Around} {E : Value → Shared → Prop} {s : Shared} {K : Frag} {x C f g : Addr} {ox : Obj} {od : Option Obj} {T : String} {op : Operator} {r : Bool}
theorem own_left {b : Value} {ro rc : Option Value} {Q : Value → Shared → Prop} (KX : K.In s.heap) (I : InstAt s.heap x ox C od) (hb : Looks (model prog w) s.heap (typeOf b) (.type T)) (hc : selfFirst K C = true)
    (hs : findIn K (.ref C) (PySem.dunder op.info.2) = some (some (.ref f))) (hf : isFn K (.ref f) = true) (hr : findIn K (.ref C) (dunderR op.info.2) = some rc) (hp : rc = none ∨ ∃ g : Addr, rc = some (.ref g))
    (fills : fillsNumberSlot (.type T) op.info.2 = pure r) (look : typeLookup (.type T) (dunderR op.info.2) = pure ro) (hsub : subIn K (.type T) (.ref C) = some false)
    (h : wpAny (model prog w) A (call (.ref f) [.ref x, b]) (CmpBack Q) E s) : wpAny (model prog w) A (binaryOp op (.ref x) b) Q E s := by
  obtain ⟨cd, rest, hcd, hm⟩ := ksp_first hc
  rcases hi : op.info with ⟨sym, nm'⟩
  rw [hi] at hs hr fills look
  dsimp only at hs hr fills look
  have one := ksp_try KX I hs hf h
  obtain ⟨hh, g, d, tt, os⟩ := s
  have L1 : Looks (model prog w) hh (typeOf (.ref x)) (.ref C) := I.type
  have L2 : Looks (model prog w) hh (typeOf b) (.type T) := hb
  have L3 : Looks (model prog w) hh (fillsNumberSlot (.ref C) nm') true := fills_K KX hcd hm hs
  have L4 : Looks (model prog w) hh (fillsNumberSlot (.type T) nm') r := Looks.of_pure fills
  have L5 : Looks (model prog w) hh (isSubtype (.type T) (.ref C)) false := looks_subIn KX hsub
  have L6 : Looks (model prog w) hh (numberSlotInPython (.ref C) nm') true := ksp_inPy KX hs hr hp
  have L7 : Looks (model prog w) hh (numberSlotInPython (.type T) nm') false := Looks.of_pure rfl
  have L8 : Looks (model prog w) hh (typeLookup (.type T) (dunderR nm')) ro := Looks.of_pure look
  have ne : (Value.ref C == Value.type T) = false := Bool.eq_false_iff.mpr fun q => by cases beq_iff_eq.mp q
  simp only [binaryOp, hi]
  refine wpAny_holding (wpAny_bind ?_)
  unfold binaryOp1
  refine wpAny_bind (L1.at (wpAny_bind (L2.at (wpAny_bind (L3.at ?_)))))
  simp only [ne, Bool.false_eq_true, if_false]
  cases r <;>
  · ksp_lk
    refine wpAny_mono one (fun r s' hr' => ?_) fun _ _ e => e
    obtain ⟨v, rfl, hq⟩ := hr'
    ksp_lk
    exact hq
theorem own_right {a : Value} {Q : Value → Shared → Prop} (KX : K.In s.heap) (I : InstAt s.heap x ox C od) (ha : Looks (model prog w) s.heap (typeOf a) (.type T)) (hc : selfFirst K C = true)
    (hs : findIn K (.ref C) (PySem.dunder op.info.2) = some (some (.ref g))) (hr : findIn K (.ref C) (dunderR op.info.2) = some (some (.ref f))) (hf : isFn K (.ref f) = true)
    (fills : fillsNumberSlot (.type T) op.info.2 = pure false)
    (h : wpAny (model prog w) A (call (.ref f) [.ref x, a]) (CmpBack Q) E s) : wpAny (model prog w) A (binaryOp op a (.ref x)) Q E s := by
  obtain ⟨cd, rest, hcd, hm⟩ := ksp_first hc
  rcases hi : op.info with ⟨sym, nm'⟩
  rw [hi] at hs hr fills
  dsimp only at hs hr fills
  have one := ksp_try KX I hr hf h
  obtain ⟨hh, gg, d, tt, os⟩ := s
  have L1 : Looks (model prog w) hh (typeOf (.ref x)) (.ref C) := I.type
  have L2 : Looks (model prog w) hh (typeOf a) (.type T) := ha
  have L3 : Looks (model prog w) hh (fillsNumberSlot (.ref C) nm') true := fills_K KX hcd hm hs
  have L4 : Looks (model prog w) hh (fillsNumberSlot (.type T) nm') false := Looks.of_pure fills
  have ne : (Value.type T == Value.ref C) = false := Bool.eq_false_iff.mpr fun q => by cases beq_iff_eq.mp q
  simp only [binaryOp, hi]
  refine wpAny_holding (wpAny_bind ?_)
  unfold binaryOp1
  refine wpAny_bind (L2.at (wpAny_bind (L1.at (wpAny_bind (L4.at ?_)))))
  simp only [ne, Bool.false_eq_true, if_false]
  ksp_lk
  refine wpAny_mono one (fun r s' hr' => ?_) fun _ _ e => e
  obtain ⟨v, rfl, hq⟩ := hr'
  ksp_lk
  exact hq
/-- the left operand's slot declines first -/
theorem own_right2 {a : Value} {Q : Value → Shared → Prop} (KX : K.In s.heap) (I : InstAt s.heap x ox C od) (ha : Looks (model prog w) s.heap (typeOf a) (.type T)) (hc : selfFirst K C = true)
    (hs : findIn K (.ref C) (PySem.dunder op.info.2) = some (some (.ref g))) (hr : findIn K (.ref C) (dunderR op.info.2) = some (some (.ref f))) (hf : isFn K (.ref f) = true)
    (fills : fillsNumberSlot (.type T) op.info.2 = pure true) (hsub : subIn K (.ref C) (.type T) = some false)
    (dec : ∀ Q' : Option Value → Shared → Prop, Q' none s → wpAny (model prog w) A (tryMethod a (PySem.dunder op.info.2) (.ref x)) Q' E s)
    (h : wpAny (model prog w) A (call (.ref f) [.ref x, a]) (CmpBack Q) E s) : wpAny (model prog w) A (binaryOp op a (.ref x)) Q E s := by
  obtain ⟨cd, rest, hcd, hm⟩ := ksp_first hc
  rcases hi : op.info with ⟨sym, nm'⟩
  rw [hi] at hs hr fills dec
  dsimp only at hs hr fills dec
  have one := ksp_try KX I hr hf h
  obtain ⟨hh, gg, d, tt, os⟩ := s
  have L1 : Looks (model prog w) hh (typeOf (.ref x)) (.ref C) := I.type
  have L2 : Looks (model prog w) hh (typeOf a) (.type T) := ha
  have L3 : Looks (model prog w) hh (fillsNumberSlot (.ref C) nm') true := fills_K KX hcd hm hs
  have L4 : Looks (model prog w) hh (fillsNumberSlot (.type T) nm') true := Looks.of_pure fills
  have L5 : Looks (model prog w) hh (isSubtype (.ref C) (.type T)) false := looks_subIn KX hsub
  have L7 : Looks (model prog w) hh (numberSlotInPython (.type T) nm') false := Looks.of_pure rfl
  have ne : (Value.type T == Value.ref C) = false := Bool.eq_false_iff.mpr fun q => by cases beq_iff_eq.mp q
  simp only [binaryOp, hi]
  refine wpAny_holding (wpAny_bind ?_)
  unfold binaryOp1
  refine wpAny_bind (L2.at (wpAny_bind (L1.at (wpAny_bind (L4.at ?_)))))
  simp only [ne, Bool.false_eq_true, if_false]
  ksp_lk
  refine dec _ ?_
  ksp_lk
  refine wpAny_mono one (fun r s' hr' => ?_) fun _ _ e => e
  obtain ⟨v, rfl, hq⟩ := hr'
  ksp_lk
  exact hq
end
end PySem.W
namespace Bt
open PySem PySem.Spec PyProof.Rows L2
/-! ### what the end wants of the classes -/
theorem ve_own {CB : Addr} : PySem.HandSPX.refsVE [.ref CB, .type "ValueError", .type "Exception", .type "BaseException", .type "object"] = true := show PySem.HandSPX.refsVE [.type "ValueError", .type "Exception", .type "BaseException", .type "object"] = true by decide +kernel
theorem exm_self {K : PySem.W.Frag} {S : Addr} (h1 : PySem.W.subIn K (.ref S) (.type "BaseException") = some true) (h2 : PySem.W.isClsIn K S = true) (h3 : PySem.W.typeIn K (.ref S) = some (.type "type")) (h4 : PySem.W.subIn K (.ref S) (.ref S) = some true) :
    PySem.W.exmOne K (.ref S) (.ref S) = some true := by
  have e1 : (PySem.W.subIn K (.ref S) (.type "BaseException") == some true) = true := by rw [h1] <;> rfl
  have e2 : ((PySem.W.clsIn K S).isSome && PySem.W.typeIn K (.ref S) == some (.type "type")) = true := by
    have h2' : (PySem.W.clsIn K S).isSome = true := h2
    rw [h2', h3] <;> rfl
  show (if (PySem.W.subIn K (.ref S) (.type "BaseException") == some true) = true then (if ((PySem.W.clsIn K S).isSome && PySem.W.typeIn K (.ref S) == some (.type "type")) = true then PySem.W.subIn K (.ref S) (.ref S) else none) else none) = some true
  rw [if_pos e1, if_pos e2]
  exact h4
theorem exc_binds {K : PySem.W.Frag} {qual fld : Str} {params : Arguments} {body : List Stmt} {scope : Scope} {f : Addr} {fd : FuncData} (F : FunD K "__init__" qual params body scope [.non] [] f fd)
    (h : ∀ (T : Addr) (kV doc pm : Value) (an : Option Addr) (cdv ct : Value) (us its : List Value), us.length = 2 → its.length = 1 →
      ∃ k, bindArgs (PySem.W.fnOf "__init__" qual params body scope (.ref T) kV doc pm an cdv ct) ⟨us, []⟩ = seqItems? (.ref T) >>= k ∧ k (some its.toArray) = pure ((["self", fld] : List Str).zip (us ++ its.drop 1))) : Binds K fd ["self", fld] [] := by
  obtain ⟨ds, hv, hb⟩ := F.binds1 (ps := ["self", fld]) 2 1 (by simp) rfl h
  cases hv
  exact hb
theorem kit_own {K : PySem.W.Frag} {C : Addr} : PySem.W.kitOne K (.ref C) (.ref C) = some true := by
  unfold PySem.W.kitOne
  rw [if_pos (by simp)]
theorem sub_no {K : PySem.W.Frag} {C : Addr} {T : String} (h : Kd T) : PySem.W.subIn K (.type T) (.ref C) = some false := by
  cases h <;> rfl
theorem kit_no {K : PySem.W.Frag} {C : Addr} {T : String} (h2 : PySem.W.isClsIn K C = true) (h3 : PySem.W.typeIn K (.ref C) = some (.type "type")) (h : Kd T) : PySem.W.kitOne K (.type T) (.ref C) = some false := by
  have e2 : ((PySem.W.clsIn K C).isSome && PySem.W.typeIn K (.ref C) == some (.type "type")) = true := by
    have h2' : (PySem.W.clsIn K C).isSome = true := h2
    rw [h2', h3] <;> rfl
  show (if ((Value.type T) == (Value.ref C)) = true then some true else (if ((PySem.W.clsIn K C).isSome && PySem.W.typeIn K (.ref C) == some (.type "type")) = true then PySem.W.subIn K (.type T) (.ref C) else none)) = some false
  rw [if_neg (by cases h <;> exact fun z => nomatch z), if_pos e2]
  exact sub_no h
theorem nf_kd {K : PySem.W.Frag} {C : Addr} {T : String} (h : Kd T) : PySem.W.notFirst K C (.type T) = true := by
  unfold PySem.W.notFirst
  rw [sub_no h]
  exact Bool.or_true _
theorem nf_own {K : PySem.W.Frag} {C : Addr} : PySem.W.notFirst K C (.ref C) = true := by
  unfold PySem.W.notFirst
  simp
end Bt
namespace Bt
open PySem PySem.Spec PyProof.Rows L2
theorem fills_of {T nm : String} {fo ro : Option Value} (h1 : typeLookup (.type T) (PySem.dunder nm) = pure fo) (h2 : typeLookup (.type T) (dunderR nm) = pure ro) :
    fillsNumberSlot (.type T) nm = pure ((fo.isSome && !isSeqSlot fo) || (ro.isSome && !isSeqSlot ro)) := by
  unfold fillsNumberSlot
  simp [h1, h2]
/-- what a built-in kind says of an operator -/
def OpK (nm T : String) (r : Bool) : Prop := fillsNumberSlot (.type T) nm = pure r ∧ ∃ ro, typeLookup (.type T) (dunderR nm) = pure ro
theorem opK_of {T nm : String} {fo ro : Option Value} {r : Bool} (h1 : typeLookup (.type T) (PySem.dunder nm) = pure fo) (h2 : typeLookup (.type T) (dunderR nm) = pure ro) (e : ((fo.isSome && !isSeqSlot fo) || (ro.isSome && !isSeqSlot ro)) = r) : OpK nm T r :=
  ⟨by rw [← e]; exact fills_of h1 h2, ro, h2⟩
theorem mul_none : OpK "mul" "NoneType" false := opK_of (fo := none) (ro := none) (by rw [typeLookup_type, builtinLookup_eq_fast]; kernel_rfl) (by rw [typeLookup_type, builtinLookup_eq_fast]; kernel_rfl) (by decide +kernel)
theorem mul_bool : OpK "mul" "bool" true := opK_of (fo := (some (.builtin "int.__mul__"))) (ro := (some (.builtin "int.__rmul__"))) (by rw [typeLookup_type, builtinLookup_eq_fast]; kernel_rfl) (by rw [typeLookup_type, builtinLookup_eq_fast]; kernel_rfl) (by decide +kernel)
theorem mul_int : OpK "mul" "int" true := opK_of (fo := (some (.builtin "int.__mul__"))) (ro := (some (.builtin "int.__rmul__"))) (by rw [typeLookup_type, builtinLookup_eq_fast]; kernel_rfl) (by rw [typeLookup_type, builtinLookup_eq_fast]; kernel_rfl) (by decide +kernel)
theorem mul_str : OpK "mul" "str" false := opK_of (fo := (some (.builtin "str.__mul__"))) (ro := (some (.builtin "str.__rmul__"))) (by rw [typeLookup_type, builtinLookup_eq_fast]; kernel_rfl) (by rw [typeLookup_type, builtinLookup_eq_fast]; kernel_rfl) (by decide +kernel)
theorem mul_list : OpK "mul" "list" false := opK_of (fo := (some (.builtin "list.__mul__"))) (ro := (some (.builtin "list.__rmul__"))) (by rw [typeLookup_type, builtinLookup_eq_fast]; kernel_rfl) (by rw [typeLookup_type, builtinLookup_eq_fast]; kernel_rfl) (by decide +kernel)
theorem mul_tuple : OpK "mul" "tuple" false := opK_of (fo := (some (.builtin "tuple.__mul__"))) (ro := (some (.builtin "tuple.__rmul__"))) (by rw [typeLookup_type, builtinLookup_eq_fast]; kernel_rfl) (by rw [typeLookup_type, builtinLookup_eq_fast]; kernel_rfl) (by decide +kernel)
theorem mul_dict : OpK "mul" "dict" false := opK_of (fo := none) (ro := none) (by rw [typeLookup_type, builtinLookup_eq_fast]; kernel_rfl) (by rw [typeLookup_type, builtinLookup_eq_fast]; kernel_rfl) (by decide +kernel)
theorem fdv_none : OpK "floordiv" "NoneType" false := opK_of (fo := none) (ro := none) (by rw [typeLookup_type, builtinLookup_eq_fast]; kernel_rfl) (by rw [typeLookup_type, builtinLookup_eq_fast]; kernel_rfl) (by decide +kernel)
theorem fdv_bool : OpK "floordiv" "bool" true := opK_of (fo := (some (.builtin "int.__floordiv__"))) (ro := (some (.builtin "int.__rfloordiv__"))) (by rw [typeLookup_type, builtinLookup_eq_fast]; kernel_rfl) (by rw [typeLookup_type, builtinLookup_eq_fast]; kernel_rfl) (by decide +kernel)
theorem fdv_int : OpK "floordiv" "int" true := opK_of (fo := (some (.builtin "int.__floordiv__"))) (ro := (some (.builtin "int.__rfloordiv__"))) (by rw [typeLookup_type, builtinLookup_eq_fast]; kernel_rfl) (by rw [typeLookup_type, builtinLookup_eq_fast]; kernel_rfl) (by decide +kernel)
theorem fdv_str : OpK "floordiv" "str" false := opK_of (fo := none) (ro := none) (by rw [typeLookup_type, builtinLookup_eq_fast]; kernel_rfl) (by rw [typeLookup_type, builtinLookup_eq_fast]; kernel_rfl) (by decide +kernel)
theorem fdv_list : OpK "floordiv" "list" false := opK_of (fo := none) (ro := none) (by rw [typeLookup_type, builtinLookup_eq_fast]; kernel_rfl) (by rw [typeLookup_type, builtinLookup_eq_fast]; kernel_rfl) (by decide +kernel)
theorem fdv_tuple : OpK "floordiv" "tuple" false := opK_of (fo := none) (ro := none) (by rw [typeLookup_type, builtinLookup_eq_fast]; kernel_rfl) (by rw [typeLookup_type, builtinLookup_eq_fast]; kernel_rfl) (by decide +kernel)
theorem fdv_dict : OpK "floordiv" "dict" false := opK_of (fo := none) (ro := none) (by rw [typeLookup_type, builtinLookup_eq_fast]; kernel_rfl) (by rw [typeLookup_type, builtinLookup_eq_fast]; kernel_rfl) (by decide +kernel)
theorem opK_mul {T : String} (h : Kd T) : ∃ r, OpK "mul" T r := by
  cases h
  · exact ⟨_, mul_none⟩
  · exact ⟨_, mul_bool⟩
  · exact ⟨_, mul_int⟩
  · exact ⟨_, mul_str⟩
  · exact ⟨_, mul_list⟩
  · exact ⟨_, mul_tuple⟩
  · exact ⟨_, mul_dict⟩
theorem opK_fdv {T : String} (h : Kd T) : ∃ r, OpK "floordiv" T r := by
  cases h
  · exact ⟨_, fdv_none⟩
  · exact ⟨_, fdv_bool⟩
  · exact ⟨_, fdv_int⟩
  · exact ⟨_, fdv_str⟩
  · exact ⟨_, fdv_list⟩
  · exact ⟨_, fdv_tuple⟩
  · exact ⟨_, fdv_dict⟩
theorem int_mul_inst (a : Int) (t : Tok) (x : Addr) : Meets (Builtin.«int.__mul__» ⟨[.int a t, .ref x], []⟩) (fun _ R s => (∃ C dx, s.heap.get? x = some (PySem.W.instObj C dx)) ∧ R (.ok (.ret Value.notImplemented)) s) :=
  .of_wp fun prog w A R s h => by obtain ⟨hp, g, d, tk, os⟩ := s; obtain ⟨⟨C, dx, hl⟩, h⟩ := h; unfold PySem.W.instObj at hl; wp_walk; exact ⟨_, rfl, h⟩
theorem bool_mul_inst (a : Bool) (x : Addr) : Meets (Builtin.«int.__mul__» ⟨[.bool a, .ref x], []⟩) (fun _ R s => (∃ C dx, s.heap.get? x = some (PySem.W.instObj C dx)) ∧ R (.ok (.ret Value.notImplemented)) s) :=
  .of_wp fun prog w A R s h => by obtain ⟨hp, g, d, tk, os⟩ := s; obtain ⟨⟨C, dx, hl⟩, h⟩ := h; unfold PySem.W.instObj at hl; wp_walk; exact ⟨_, rfl, h⟩
theorem relV_back {v : V} {u : Value} {Q : Value → Shared → Prop} {s : Shared} (r : RelV v u) (q : Q u s) : PySem.W.CmpBack Q u s := by
  cases u <;> first | exact q | (cases v <;> first | (obtain ⟨_, e⟩ := r; exact nomatch e) | exact nomatch r)
theorem dec_int {prog : Program} {w : World} {A : Around} {E : Value → Shared → Prop} {s : Shared} {i : Int} {t : Tok} {p : Addr} (hget : ∃ C' dx', s.heap.get? p = some (PySem.W.instObj C' dx')) (Q' : Option Value → Shared → Prop) (q' : Q' none s) :
    wpAny (model prog w) A (tryMethod (.int i t) (PySem.dunder "mul") (.ref p)) Q' E s := by
  have e1 := F.entry_int_mul
  have e2 := F.args_int_mul_2 (.int i t) (.ref p)
  have e3 := int_mul_inst i t p
  have e4 : s.TypeIs (.int i t) "int" := typeIs_int s i t
  have e5 := F.slot_int_mul
  have e6 : wpAny (model prog w) A (call (.builtin "int.__mul__") [.int i t, .ref p]) (fun v s' => v = .notImplemented ∧ Q' none s') E s := call_meets e5 e4 e1 e2 e3 ⟨hget, rfl, q'⟩
  exact @wpAny_tryMethod_declines (model prog w) A E s (.int i t) (.ref p) "int" (PySem.dunder "mul") "int.__mul__" Q' e4 e5 e6
theorem dec_bool {prog : Program} {w : World} {A : Around} {E : Value → Shared → Prop} {s : Shared} {i : Bool} {p : Addr} (hget : ∃ C' dx', s.heap.get? p = some (PySem.W.instObj C' dx')) (Q' : Option Value → Shared → Prop) (q' : Q' none s) :
    wpAny (model prog w) A (tryMethod (.bool i) (PySem.dunder "mul") (.ref p)) Q' E s := by
  have e1 := F.entry_int_mul
  have e2 := F.args_int_mul_2 (.bool i) (.ref p)
  have e3 := bool_mul_inst i p
  have e4 : s.TypeIs (.bool i) "bool" := PySem.typeIs_bool s i
  have e5 := F.slot_bool_mul
  have e6 : wpAny (model prog w) A (call (.builtin "int.__mul__") [.bool i, .ref p]) (fun v s' => v = .notImplemented ∧ Q' none s') E s := call_meets e5 e4 e1 e2 e3 ⟨hget, rfl, q'⟩
  exact @wpAny_tryMethod_declines (model prog w) A E s (.bool i) (.ref p) "bool" (PySem.dunder "mul") "int.__mul__" Q' e4 e5 e6
theorem Pl.of_bl {K : PySem.W.Frag} {H : Hp} {x : V} {T : String} (h : Pl K H x T) (e : T = "bool") : ∃ z, x = .bl z := by
  have key : ∀ t, TyX K H x t → t = .type "bool" → ∃ z, x = .bl z := fun t h e => by
    cases h with
    | base b =>
      cases b with
      | bl z => exact ⟨z, rfl⟩
      | ins _ _ _ _ _ _ => cases e
      | _ => exact ty_ne e (by decide)
    | _ => exact ty_ne e (by decide)
  exact key _ h.1 (by rw [e])
/-! ### o * y, o // y by an own operator that may raise; y * o by the reflected one -/
section
variable {X : Cx} {CX : CXT} {k : Nat} {C g f : Addr} {fd : FuncData} {ps : List Str} {sp : Sp} {E : L2.St → XK} {pos : Pos} {a b : Expr} {ta tb : TE} {op : Operator}
/-- what the class says of the operator -/
structure OwnOp (K : PySem.W.Frag) (C : Addr) (op : Operator) (f : Addr) : Prop where
  sf : PySem.W.selfFirst K C = true
  at_ : PySem.W.findIn K (.ref C) (PySem.dunder op.info.2) = some (some (.ref f))
  fn : PySem.W.isFn K (.ref f) = true
  rc : ∃ rc, PySem.W.findIn K (.ref C) (dunderR op.info.2) = some rc ∧ (rc = none ∨ ∃ g : Addr, rc = some (.ref g))
def tOwnL (K : PySem.W.Frag) (C : Addr) (sp : Sp) (E : L2.St → XK) (ta tb : TE) : TE := fun σ H Q => ta σ H fun x H1 => tb σ H1 fun y H2 => ∃ p dx fs T, x = V.ref p ∧ H2 p = some (.ins C dx fs) ∧ Pl K H2 y T ∧ sp [x, y] H2 Q (E σ)
theorem pe_ownL (kinds : ∀ T, Kd T → ∃ r, OpK op.info.2 T r) (O : OwnOp X.K C op f) (F : FnOk X.prog X.w X.K X.mg X.base CX k f fd ps sp) (hr : Room k X.A) (hb : Binds X.K fd ps []) (hx : ∀ σ, PassesAt CX X σ (E σ)) (ha : PE X a ta) (hbb : PE X b tb) :
    PE X (.BinOp a op b pos) (tOwnL X.K C sp E ta tb) := by
  refine ⟨fun pins s σ H Q I h => ?_⟩
  refine wpAny_BinOp (binT ha hbb I h fun v u s2 x y H2 I2 rx ry q => ?_)
  obtain ⟨p, dx, fs, T, rfl, hp, ty, hs⟩ := q
  obtain rfl : v = Value.ref p := rx
  obtain ⟨mA, J, _⟩ := ins_get I2.hok hp
  obtain ⟨od, J, _⟩ := J.look
  obtain ⟨P, Z, pz, _⟩ := kit_of I2 ry ty.1
  obtain ⟨r, fl, ro, lk⟩ := kinds T ty.2
  obtain ⟨rc, h1, h2⟩ := O.rc
  refine PySem.W.own_left I2.kIn J (Z.ty _ _ I2.kIn pz) O.sf O.at_ O.fn h1 h2 fl lk (sub_no ty.2) ?_
  refine wpAny_mono (run_fnSD (us := [.ref p, u]) (vs := [.ref p, y]) (dvs := []) F hr hb .nil (hx σ) I2 (.cons rfl (.cons ry .nil)) hs) (fun v s' z => ?_) fun _ _ e => e
  obtain ⟨y', H', I', r', q'⟩ := z
  exact relV_back r' ⟨y', H', I', r', q'⟩
structure OwnR (K : PySem.W.Frag) (C : Addr) (op : Operator) (g f : Addr) : Prop where
  sf : PySem.W.selfFirst K C = true
  at_ : PySem.W.findIn K (.ref C) (PySem.dunder op.info.2) = some (some (.ref g))
  rc : PySem.W.findIn K (.ref C) (dunderR op.info.2) = some (some (.ref f))
  fn : PySem.W.isFn K (.ref f) = true
  s1 : PySem.W.subIn K (.ref C) (.type "int") = some false
  s2 : PySem.W.subIn K (.ref C) (.type "bool") = some false
def tOwnR (K : PySem.W.Frag) (C : Addr) (sp : Sp) (E : L2.St → XK) (ta tb : TE) : TE := fun σ H Q => ta σ H fun y H1 => tb σ H1 fun x H2 => ∃ p dx fs T, x = V.ref p ∧ H2 p = some (.ins C dx fs) ∧ Pl K H2 y T ∧ sp [x, y] H2 Q (E σ)
theorem pe_ownR (O : OwnR X.K C .Mult g f) (F : FnOk X.prog X.w X.K X.mg X.base CX k f fd ps sp) (hr : Room k X.A) (hb : Binds X.K fd ps []) (hx : ∀ σ, PassesAt CX X σ (E σ)) (ha : PE X a ta) (hbb : PE X b tb) :
    PE X (.BinOp a .Mult b pos) (tOwnR X.K C sp E ta tb) := by
  refine ⟨fun pins s σ H Q I h => ?_⟩
  refine wpAny_BinOp (binT ha hbb I h fun u v s2 y x H2 I2 ry rx q => ?_)
  obtain ⟨p, dx, fs, T, rfl, hp, ty, hs⟩ := q
  obtain rfl : v = Value.ref p := rx
  obtain ⟨mA, J, _⟩ := ins_get I2.hok hp
  obtain ⟨od, J, _⟩ := J.look
  obtain ⟨P, Z, pz, _⟩ := kit_of I2 ry ty.1
  have hget : ∃ C' dx', s2.heap.get? p = some (PySem.W.instObj C' dx') := by
    obtain ⟨_, _, _, z, _⟩ := I2.hok p _ hp
    exact ⟨_, _, z⟩
  have run : wpAny (model X.prog X.w) X.A (call (.ref f) [.ref p, u]) (PySem.W.CmpBack (EP X pins σ Q)) X.xe s2 := by
    refine wpAny_mono (run_fnSD (us := [.ref p, u]) (vs := [.ref p, y]) (dvs := []) F hr hb .nil (hx σ) I2 (.cons rfl (.cons ry .nil)) hs) (fun v s' z => ?_) fun _ _ e => e
    obtain ⟨y', H', I', r', q'⟩ := z
    exact relV_back r' ⟨y', H', I', r', q'⟩
  have T0 := Z.ty (model X.prog X.w) _ I2.kIn pz
  have low : ∀ {T : String}, OpK "mul" T false → PySem.W.Looks (model X.prog X.w) s2.heap (typeOf u) (.type T) → wpAny (model X.prog X.w) X.A (binaryOp .Mult u (.ref p)) (EP X pins σ Q) X.xe s2 := fun k t =>
    PySem.W.own_right (op := .Mult) I2.kIn J t O.sf O.at_ O.rc O.fn k.1 run
  obtain ⟨tx, kd⟩ := ty
  have hty : TyX X.K H2 y (.type T) := tx
  cases kd with
  | non => exact low mul_none T0
  | str => exact low mul_str T0
  | lst => exact low mul_list T0
  | tup => exact low mul_tuple T0
  | dct => exact low mul_dict T0
  | int =>
    obtain ⟨i, rfl⟩ := Pl.of_int ⟨tx, .int⟩ rfl
    obtain ⟨t, rfl⟩ := ry
    exact PySem.W.own_right2 (op := .Mult) I2.kIn J T0 O.sf O.at_ O.rc O.fn mul_int.1 O.s1 (dec_int hget) run
  | bl =>
    obtain ⟨i, rfl⟩ := Pl.of_bl ⟨tx, .bl⟩ rfl
    obtain rfl : u = Value.bool i := ry
    exact PySem.W.own_right2 (op := .Mult) I2.kIn J T0 O.sf O.at_ O.rc O.fn mul_bool.1 O.s2 (dec_bool hget) run
end
end Bt
namespace Bt
open PySem PySem.Spec PyProof.Rows L2
/-! ### try: .. except A as e: .. except B as e: .. -/
section
variable {X : Cx} {x1 x2 n : Str} {c1 c2 : Value} {i : Nat} {body su1 su2 : List Stmt} {b1 b2 : Stmt} {p1 p2 q1 q2 pos : Pos} {tb : WX → TS} {ts1 ts2 : Addr → Value → Option Addr → TS} {Wout : WX}
abbrev SuiteOk (X : Cx) (b : Stmt) (su : List Stmt) (ts : Addr → Value → Option Addr → TS) : Prop :=
  ∀ (a : Addr) (oe : Obj) (cls : Value) (d : Option Addr) (pn : List (Addr × Obj)), Zc cls d oe → (∃ vs, oe.data = .fields vs) → PSs (X.suite a ((a, oe) :: pn)) (b :: su) (ts a cls d)
theorem ps_try_as2 (hs : X.stack = X.env :: X.outer) (hf : X.env.frame = some X.env.locals) (hN : X.N.Nodup) (hi : X.N[i]? = some n) (hl : X.env.kindOf n = some .local) (nm1 : Names X x1 c1) (nm2 : Names X x2 c2) (tk : Takes X Wout)
    (hb : ∀ (W : WX) (pn : List (Addr × Obj)) (xe : Value → Shared → Prop), Takes (X.tr pn xe) W → PassesOwn (model X.prog X.w) X.A X.env xe → PSs (X.tr pn xe) body (tb W)) (s1 : SuiteOk X b1 su1 ts1) (s2 : SuiteOk X b2 su2 ts2) :
    PS X (.Try body [.ExceptHandler (some (.Name x1 p1)) (some n) (b1 :: su1) q1, .ExceptHandler (some (.Name x2 p2)) (some n) (b2 :: su2) q2] [] [] pos) (fun D σ H => tb (wAs X.K c1 i ts1 (wAs X.K c2 i ts2 Wout D) D) D σ H) := by
  refine ⟨fun pins s σ H D I h => wpAny_Try_except ?_⟩
  have okX := I.ok
  have frames : X.A.frames = some (X.env :: X.outer) := by rw [okX.frames, hs]
  have loc : Loc X.env.scope n := .inl hl
  have run := (hb (wAs X.K c1 i ts1 (wAs X.K c2 i ts2 Wout D) D) (X.pn ++ pins) (fun ev t1 => wpAny (model X.prog X.w) X.A (noteFrame ev X.env) (fun _ t2 => wpAny (model X.prog X.w) X.A (setFlight ev none) (fun _ t3 =>
    wpAny (model X.prog X.w) X.A (handleBy ev X.env [.ExceptHandler (some (.Name x1 p1)) (some n) (b1 :: su1) q1, .ExceptHandler (some (.Name x2 p2)) (some n) (b2 :: su2) q2]) (SP X pins D) X.xe t3) X.xe t2) X.xe t1) (fun u sx xx => ?caught) PassesOwn.looking).run [] s σ H D (I.toTry _) h
  case caught =>
    obtain ⟨ea, Bx, sI, _, σe, He, cls, d, rfl, Je, notb, up0, skyE, fresh, osE, barE, wish⟩ := xx
    have J0 : Inv X pins σe He sI := Je.ofTry okX
    have sky0 : Sky Bx (X.env :: X.outer) ea (Zc cls d) X.env.locals sx.heap := by rw [← hs]; exact skyE
    show wpAny (model X.prog X.w) X.A (noteFrame (.ref ea) X.env) _ _ _
    refine Sky.land Zc.steady frames hf sky0 fun h3 flight up3 => ?_
    have J3 : Inv X pins σe He { sx with heap := h3 } := J0.landed notb flight.1 (up0.trans up3) osE barE
    obtain ⟨o3, v3, at3, z3, d3⟩ := flight.there
    have out : ea ∉ frs (X.env :: X.outer) := fun hm => by
      obtain ⟨_, o', e', nf⟩ := flight.2.2.1.mem hm
      rw [at3] at e'
      cases e'
      exact nf _ d3
    have nLoc : ea ≠ X.env.locals := fun z => out (List.mem_filterMap.mpr ⟨X.env, List.mem_cons_self, by rw [hf, z]⟩)
    have nFs : ea ∉ X.fs := fun hm => by
      obtain ⟨ev, he, q⟩ := List.mem_filterMap.mp hm
      exact out (List.mem_filterMap.mpr ⟨ev, List.mem_cons_of_mem _ he, q⟩)
    have S3 := J3.suite at3 d3 fresh nLoc nFs
    have tyE : PySem.W.Looks (model X.prog X.w) h3 (typeOf (.ref ea)) cls := fun A Q E s kk q => wpAny_typeOf_ref (kk _ _ at3) (by rw [z3.1]; exact q)
    have clause : ∀ {y : Str} {c : Value} {b : Stmt} {su : List Stmt} {np qp : Pos} {ts : Addr → Value → Option Addr → TS} {W2 : WX} {rest : List ExceptHandler}, Names X y c → SuiteOk X b su ts → wAs X.K c i ts W2 D cls d σe He →
        (W2 cls d σe He → wpAny (model X.prog X.w) X.A (handleBy (.ref ea) X.env rest) (SP X pins D) X.xe { sx with heap := h3 }) →
        wpAny (model X.prog X.w) X.A (handleBy (.ref ea) X.env (.ExceptHandler (some (.Name y np)) (some n) (b :: su) qp :: rest)) (SP X pins D) X.xe { sx with heap := h3 } := by
      intro y c b su np qp ts W2 rest nm sOk w next
      obtain ⟨ans, hm, yes, no⟩ := w
      refine wpAny_handleBy_cons (codeAny_handlers_test ?_) (by intro q; cases q)
      have matches_ := PySem.W.exm_one (M := model X.prog X.w) J3.kIn tyE hm
      have name : ∀ {Q E : Value → Shared → Prop}, Q c { sx with heap := h3 } → wpAny (model X.prog X.w) (X.A.mark (some (.ref ea))) (eval (.Name y np) X.env) Q E { sx with heap := h3 } := fun {Q E} q => by
        obtain ⟨g1, g2, g3 | ⟨g3, g4, g5⟩⟩ := nm
        · exact ld_glob (X := X.suite ea ((ea, o3) :: (X.pn ++ pins))) S3 g1 g3 q g2
        · exact ld_blt (X := X.suite ea ((ea, o3) :: (X.pn ++ pins))) S3 g1 g3 g4 q g5 g2
      refine name (matches_.here ?_)
      cases ans with
      | false => exact next (no rfl)
      | true =>
        refine codeAny_handlers_suite_as (HandSPX.lands_againZ flight fun h4 fl4 up4 => ?_)
        have J4 : Inv X pins σe He { sx with heap := h4 } := J0.landed notb fl4.1 ((up0.trans up3).trans up4) osE barE
        obtain ⟨o4, v4, at4, z4, d4⟩ := fl4.there
        have S4 := J4.suite at4 d4 fresh nLoc nFs
        refine store_ok (X := X.suite ea ((ea, o4) :: (X.pn ++ pins))) (v := .ref ea) S4 hN hi loc rfl (fun s5 S5 => ?_) (.inr hl)
        refine wpAny_mono ((sOk ea o4 cls d (X.pn ++ pins) z4 ⟨_, d4⟩).run [] s5 _ He _ S5 (yes rfl ea fresh)) (fun fl s6 sp => ?_) (fun _ _ z => False.elim z)
        have leave : ∀ {σ6 : L2.St} {H6 : Hp} {Q : Shared → Prop}, Inv (X.suite ea ((ea, o4) :: (X.pn ++ pins))) [] σ6 H6 s6 → (∀ s7, Inv X pins (σ6.set i none) H6 s7 → Q s7) →
            wpAny (model X.prog X.w) X.A (do bindName X.env n .none; unbindBehindTheSuite X.env n qp) (fun _ s7 => Q s7) X.xe s6 := fun S6 q => gone_ok (S6.unsuite okX) hN hi hl q
        cases fl with
        | next => obtain ⟨σ6, H6, S6, q6⟩ := sp; exact leave S6 fun _ J7 => ⟨_, _, J7, q6⟩
        | brk => obtain ⟨σ6, H6, S6, q6⟩ := sp; exact leave S6 fun _ J7 => ⟨_, _, J7, q6⟩
        | cont => obtain ⟨σ6, H6, S6, q6⟩ := sp; exact leave S6 fun _ J7 => ⟨_, _, J7, q6⟩
        | ret u => obtain ⟨v6, σ6, H6, S6, r6, q6⟩ := sp; exact leave S6 fun _ J7 => ⟨_, _, _, J7, r6, q6⟩
    refine clause nm1 s1 wish fun wish2 => clause nm2 s2 wish2 fun last => ?_
    refine wpAny_handleBy_nil ?_
    obtain ⟨_, _, _, oz, vz, Tz, _, _, atz, zz, dz, f1, _⟩ := id flight
    unfold PySem.passOn
    refine wpAny_bind (wpAny_field atz dz f1 ?_)
    rw [if_neg (show ¬ ((Value.ref Tz == Value.none) = true) from by simp)]
    have thrown : wpAny (model X.prog X.w) X.A (setFlight (.ref ea) X.env.frame) (fun _ t4 => wpAny (model X.prog X.w) X.A (throw (.ref ea) : Sem Flow) (SP X pins D) X.xe t4) X.xe { sx with heap := h3 } := by
      rw [hf]
      refine HandSPX.setFlight_upZ flight fun h4 in4 up4 => wpAny_throw (tk _ _ ?_)
      exact ⟨ea, Bx, sI, pins, σe, He, cls, d, rfl, J0, notb, (up0.trans up3).trans up4, .inr (.inr (by rw [hs]; exact in4)), fresh, osE, barE, last⟩
    first
      | exact wpAny_bind (wpAny_pure (wpAny_bind thrown))
      | exact wpAny_bind thrown
  refine wpAny_mono run (fun fl s1 sp => ?_) fun _ _ z => z
  cases fl with
  | next => obtain ⟨σ', H', J', q⟩ := sp; exact wpAny_execs_nil ⟨σ', H', J'.ofTry okX, q⟩
  | brk => obtain ⟨σ', H', J', q⟩ := sp; exact ⟨σ', H', J'.ofTry okX, q⟩
  | cont => obtain ⟨σ', H', J', q⟩ := sp; exact ⟨σ', H', J'.ofTry okX, q⟩
  | ret u => obtain ⟨v, σ', H', J', r, q⟩ := sp; exact ⟨v, σ', H', J'.ofTry okX, r, q⟩
end
end Bt
namespace Bt
open PySem PySem.Spec PyProof.Rows L2 LamX NdefX
open PySem.W (dataLt dataLe alike AllAlike Sortable)
theorem words101_ : True := by
  k_with "s_L16d" => first
    | ((with_reducible refine' s_var ?hv ?_); (case hv => exact rfl))
    | with_reducible first
      | refine' s_c ?_ | refine' s_op ?_ | refine' s_asg ?_ | refine' s_gname ?_ | refine' s_seq ?_ | refine' s_next ?_ | refine' s_ret ?_ | refine' s_ifS ?_ | refine' s_drop ?_ | refine' s_retN ?_ | refine' s_test ?_ | refine' s_B ?_ | refine' q_test ?_ | refine' s_int ?_ | refine' s_cons ?_ | refine' s_nil ?_ | refine' s_call ?_ | refine' s_CB ?_ | refine' s_andT ?_ | refine' s_orT ?_ | refine' s_notT ?_ | refine' s_andV ?_ | refine' s_orV ?_ | refine' s_notV ?_ | refine' s_ifV ?_ | refine' s_chain ?_ | refine' s_sl ?_ | refine' s_noPart ?_ | refine' s_part ?_ | refine' s_gsub ?_ | refine' s_BM ?_ | refine' s_tup ?_ | refine' s_lst ?_ | refine' q_add ?_ | refine' q_sub ?_ | refine' q_lt ?_ | refine' q_le ?_ | refine' q_gt ?_ | refine' q_ge ?_ | refine' s_ifT ?_ | refine' s_ifF ?_ | refine' s_yes ?_ | refine' s_iStr ?_ | refine' s_M0 ?_ | refine' s_for ?_ | refine' s_rng1 ?_ | refine' s_par ?_ | refine' s_gcons ?_ | refine' s_gnil ?_ | refine' s_iList ?_ | refine' s_iEnum ?_ | refine' s_raise1 ?_
      | (refine' q_mod ?hm ?_; (case hm => first | omega | decide))
    | dsimp only
  k_with "r_L16d" => repeat (k_extra "s_L16d")
  trivial
/-! ### due, raised -/
theorem Run.nm : ∀ {zs : List GC} {st : List Plc} {g : Int}, Run st g zs → NmC zs
  | [], _, _, _, _, m => by cases m
  | y :: zs, st, g, ⟨h1, h2, h3, h4, h5⟩, z, m => by
    rcases List.mem_cons.mp m with rfl | m
    · exact h3
    · exact Run.nm h5 z m
theorem runC_nm : ∀ {zs : List GC} {ps : List Plc}, (∀ p ∈ ps, NmP p) → NmC zs → ∀ p ∈ runC ps zs, NmP p
  | [], _, h, _ => h
  | z :: zs, ps, h, hz => runC_nm (zs := zs) (ps := mkC ps z.2) (fun p m => (mkC_mem m).elim (h p) (hz z List.mem_cons_self p)) fun y m => hz y (List.mem_cons_of_mem _ m)
section
variable {X : Cx} {k : Nat} {CS CI : Addr} {o e : Expr} {to te : TE} {pos apos : Pos}
theorem pe_at (T : Txt X.K X.mg) (N : TxtN X.K X.mg) (I : TxtI X.K X.mg) (C : TxtC16 X.K X.mg) (S : TxtS16 X.K X.mg) (SC : StoryC X.K X.mg CS) (SM : StoryM X.K CS) (hr : Room k X.A) (hk : 4 ≤ k) (ho : PE X o to) (ha : PE X e te)
    {pl : Sem Bool} (ht : eval (.Call (.Attribute o "at" apos) [e] [] pos) X.env = (do
      let ov ← eval o X.env
      standAt apos.atName
      let (f, first) ← holding [ov] (getMethod ov "at" pl)
      callWith pos f first (backTo pos (starEach [e] X.env)) (backToKw pos (keywordEach [] X.env))) := by rfl)
    (he : starEach [e] X.env = (false, eval e X.env) :: starEach [] X.env := by rfl) (hpl : (backTo pos (starEach [] X.env)).any (·.1) = false := by rfl) :
    PE X (.Call (.Attribute o "at" apos) [e] [] pos) (tMeth CS "at" (spAt CS) [] E0 to (tCons te tNil)) := by
  obtain ⟨f, fd, m, F, b⟩ := SM.at_
  exact pe_meth (pl := pl) ho SC.cl m (ok_story_at T N I C S SC F) (hr.mono (by omega)) b .nil L2.pass0 (pa_cons ha pa_nil he) he hpl ht
end
theorem stF_at {f c d : Addr} : (stF f c d).lookup (Str.ofString "at") = none := by
  unfold stF
  rw [lookup_putF, if_neg (by decide +kernel), lookup_putF, if_neg (by decide +kernel), lookup_putF, if_neg (by decide +kernel)]
  rfl
end Bt
namespace Bt
open PySem PySem.Spec PyProof.Rows L2 LamX NdefX
open PySem.W (dataLt dataLe alike AllAlike Sortable)
theorem words102_ : True := by
  k_with "s_L16e" => first
    | ((with_reducible refine' s_var ?hv ?_); (case hv => exact rfl))
    | with_reducible first
      | refine' s_c ?_ | refine' s_op ?_ | refine' s_asg ?_ | refine' s_gname ?_ | refine' s_seq ?_ | refine' s_next ?_ | refine' s_ret ?_ | refine' s_ifS ?_ | refine' s_drop ?_ | refine' s_retN ?_ | refine' s_test ?_ | refine' s_B ?_ | refine' q_test ?_ | refine' s_int ?_ | refine' s_cons ?_ | refine' s_nil ?_ | refine' s_call ?_ | refine' s_CB ?_ | refine' s_andT ?_ | refine' s_orT ?_ | refine' s_notT ?_ | refine' s_andV ?_ | refine' s_orV ?_ | refine' s_notV ?_ | refine' s_ifV ?_ | refine' s_chain ?_ | refine' s_sl ?_ | refine' s_noPart ?_ | refine' s_part ?_ | refine' s_gsub ?_ | refine' s_BM ?_ | refine' s_tup ?_ | refine' s_lst ?_ | refine' q_add ?_ | refine' q_sub ?_ | refine' q_lt ?_ | refine' q_le ?_ | refine' q_gt ?_ | refine' q_ge ?_ | refine' s_ifT ?_ | refine' s_ifF ?_ | refine' s_yes ?_ | refine' s_iStr ?_ | refine' s_M0 ?_ | refine' s_for ?_ | refine' s_rng1 ?_ | refine' s_par ?_ | refine' s_gcons ?_ | refine' s_gnil ?_ | refine' s_iList ?_ | refine' s_iEnum ?_ | refine' s_raise1 ?_
      | (refine' q_mod ?hm ?_; (case hm => first | omega | decide))
    | dsimp only
  k_with "r_L16e" => repeat (k_extra "s_L16e")
  trivial
/-! ### twice -/
section
variable {X : Cx} {k : Nat} {CS : Addr} {e : Expr} {te : TE} {pos : Pos}
theorem pe_first (T : Txt X.K X.mg) (SC : StoryC X.K X.mg CS) (SM : StoryM X.K CS) (hr : Room k X.A) (hk : 2 ≤ k) (he : PE X e te) (hab : attributeBase e "first" X.env (eval e X.env) = eval e X.env := by rfl) : PE X (.Attribute e "first" pos) (tProp CS (spFirst CS) [] E0 te) := by
  obtain ⟨p, f, fd, hp, F, b⟩ := SM.first
  exact pe_prop he SC.cl hp (ok_story_first T SC F) (hr.mono hk) b .nil L2.pass0 hab
end
theorem s_prop {C : Addr} {sp : Sp} {dvs : List V} {E : XK} {ta : TE} {σ : L2.St} {H : Hp} {Q : VK} (h : ta σ H fun x H1 => ∃ a dx fs, x = .ref a ∧ H1 a = some (.ins C dx fs) ∧ sp (.ref a :: dvs) H1 Q E) : tProp C sp dvs E ta σ H Q := h
theorem s_aug {i : Nat} {te : TE} {ti : TIp} {D : Ends} {σ : L2.St} {H : Hp} (h : ∃ x, σ[i]? = some (some x) ∧ te σ H fun y H1 => ti x y H1 fun z H2 => D.nx (σ.set i (some z)) H2) : tAug i te ti D σ H := h
section
variable {K : PySem.W.Frag} {mg : Str → Option Value} {H : Hp} {Q : VK} {CS x f c d y f' c' d' : Addr} {ps ps' : List Plc} {zs zs' : List GC} {st st' : List Plc}
theorem q_stoLen (hs : StoAt CS H x f c d ps zs st) (lz : zs.length < 100000) (q : Q (.int zs.length) H) : rLenOwn CS (spLen CS) E0 [.ref x] H Q := by
  obtain ⟨dx, hx⟩ := id hs.hx
  exact ⟨x, dx, _, rfl, hx, x, f, c, d, ps, zs, st, rfl, hs, zs.length, rfl, by omega, by omega, q⟩
theorem q_stoEq (SC : StoryC K mg CS) (SM : StoryM K CS) (hs : StoAt CS H x f c d ps zs st) (hs' : StoAt CS H y f' c' d' ps' zs' st') (n1 : ∀ p ∈ ps, NmP p) (n2 : ∀ p ∈ ps', NmP p) (n3 : NmC zs) (n4 : NmC zs')
    (q : Q (.bl (decide (ps = ps') && PyData.eqv (dChs zs) (dChs zs'))) H) : rEqOwn K CS (spSEq CS) E0 (.ref x) (.ref y) H Q := by
  obtain ⟨dx, hx⟩ := id hs.hx
  obtain ⟨dy, hy⟩ := id hs'.hx
  exact ⟨x, dx, _, _, rfl, hx, .base (.ins hy SC.cl SC.i1 SC.i2 SC.i3 SC.i4), SM.nY, x, f, c, d, ps, zs, st, y, f', c', d', ps', zs', st', rfl, hs, hs', n1, n2, n3, n4, ⟨_, rfl, q⟩⟩
theorem eqv_self {zs : List GC} (n : NmC zs) : PyData.eqv (dChs zs) (dChs zs) = true := SeqAt.eqv_refl _ (SeqAt.canLay_of_shaped (sh_chs n))
theorem eqv_len {zs zs' : List GC} (h : zs.length ≠ zs'.length) : PyData.eqv (dChs zs) (dChs zs') = false := by
  unfold dChs
  rw [PyData.eqv]
  exact eqvAll_len _ _ (by rw [List.length_map, List.length_map]; exact h)
end
theorem before_all {zs : List GC} {k : Int} (h : ∀ z ∈ zs, z.1 < k) : before k zs = zs := List.filter_eq_self.mpr fun z m => decide_eq_true (h z m)
theorem Run.top : ∀ {zs : List GC} {st : List Plc} {g : Int}, Run st g zs → ∀ z ∈ zs, z.1 ≤ lastG g zs
  | [], _, _, _, _, m => by cases m
  | y :: zs, st, g, ⟨h1, h2, h3, h4, h5⟩, z, m => by
    have up : ∀ {zs : List GC} {st : List Plc} {g : Int}, Run st g zs → g ≤ lastG g zs := fun {zs} => by
      induction zs with
      | nil => exact fun _ => Int.le_refl _
      | cons u us ih => exact fun ⟨k1, _, _, _, k5⟩ => Int.le_trans k1 (ih k5)
    rcases List.mem_cons.mp m with rfl | m
    · exact up h5
    · exact Run.top h5 z m
theorem Run.up {zs : List GC} : ∀ {st : List Plc} {g : Int}, Run st g zs → g ≤ lastG g zs := by
  induction zs with
  | nil => exact fun _ => Int.le_refl _
  | cons u us ih => exact fun ⟨k1, _, _, _, k5⟩ => Int.le_trans k1 (ih k5)
/-- a story under a change of what is not its own -/
theorem StoAt.but {CS : Addr} {H H' : Hp} {x f c d pu : Addr} {ps : List Plc} {zs : List GC} {st : List Plc} {us : List V} (hp : H pu = some (.lst us)) (fp : f ≠ pu) (cp : c ≠ pu) (B : But pu H H') (h : StoAt CS H x f c d ps zs st) : StoAt CS H' x f c d ps zs st := by
  have N := TupK.but hp (fun _ z => by cases z) B
  have hd := h.hd
  exact ⟨let ⟨dx, e⟩ := h.hx; ⟨dx, B _ _ (fun z => by rw [z, hp] at e; cases e) e⟩, let ⟨xs, e, p⟩ := h.hf; ⟨xs, B _ _ fp e, p.tk N⟩, let ⟨ts, e, p⟩ := h.hc; ⟨ts, B _ _ cp e, p.tk N⟩, B _ _ (fun z => by rw [z, hp] at hd; cases hd) hd, h.ne⟩
end Bt
namespace Bt
open PySem PySem.Spec PyProof.Rows L2 LamX NdefX
open PySem.W (dataLt dataLe alike AllAlike Sortable)
theorem words104_ : True := by
  k_with "s_L16g" => first
    | ((with_reducible refine' s_var ?hv ?_); (case hv => exact rfl))
    | with_reducible first
      | refine' s_c ?_ | refine' s_op ?_ | refine' s_asg ?_ | refine' s_gname ?_ | refine' s_seq ?_ | refine' s_next ?_ | refine' s_ret ?_ | refine' s_ifS ?_ | refine' s_drop ?_ | refine' s_retN ?_ | refine' s_test ?_ | refine' s_B ?_ | refine' q_test ?_ | refine' s_int ?_ | refine' s_cons ?_ | refine' s_nil ?_ | refine' s_call ?_ | refine' s_CB ?_ | refine' s_andT ?_ | refine' s_orT ?_ | refine' s_notT ?_ | refine' s_andV ?_ | refine' s_orV ?_ | refine' s_notV ?_ | refine' s_ifV ?_ | refine' s_chain ?_ | refine' s_sl ?_ | refine' s_noPart ?_ | refine' s_part ?_ | refine' s_gsub ?_ | refine' s_BM ?_ | refine' s_tup ?_ | refine' s_lst ?_ | refine' q_add ?_ | refine' q_sub ?_ | refine' q_lt ?_ | refine' q_le ?_ | refine' q_gt ?_ | refine' q_ge ?_ | refine' s_ifT ?_ | refine' s_ifF ?_ | refine' s_yes ?_ | refine' s_iStr ?_ | refine' s_M0 ?_ | refine' s_for ?_ | refine' s_rng1 ?_ | refine' s_par ?_ | refine' s_gcons ?_ | refine' s_gnil ?_ | refine' s_iList ?_ | refine' s_iEnum ?_ | refine' s_raise1 ?_
      | (refine' q_mod ?hm ?_; (case hm => first | omega | decide))
    | dsimp only
  k_with "r_L16g" => repeat (k_extra "s_L16g")
  trivial
/-! ### the state of the law -/
def SelfV (K : PySem.W.Frag) (H : Hp) (x : V) : Prop := EqV K H 0 x x true
theorem SelfV.ref {K : PySem.W.Frag} {H : Hp} (a : Addr) : SelfV K H (.ref a) := .same a
theorem SelfV.str {K : PySem.W.Frag} {H : Hp} {z : Str} (h : PyData.strOk z = true) : SelfV K H (.str z) := by
  have sh : SeqAt.shaped (.str z) = true := by unfold SeqAt.shaped; simp [PyData.canLay0, PyData.depth, h]
  have := EqV.data (K := K) (H := H) (n := 0) (.str z) (.str z) sh sh
  rw [SeqAt.eqv_refl _ (SeqAt.canLay_of_shaped sh)] at this
  exact this
theorem SelfV.non {K : PySem.W.Frag} {H : Hp} : SelfV K H .non := by
  have sh : SeqAt.shaped .none = true := by decide
  have := EqV.data (K := K) (H := H) (n := 0) .non .non sh sh
  rw [SeqAt.eqv_refl _ (SeqAt.canLay_of_shaped sh)] at this
  exact this
theorem SelfV.bl {K : PySem.W.Frag} {H : Hp} {b : Bool} : SelfV K H (.bl b) := by
  have sh : SeqAt.shaped (.bool b) = true := by cases b <;> decide
  have := EqV.data (K := K) (H := H) (n := 0) (.bl b) (.bl b) sh sh
  rw [SeqAt.eqv_refl _ (SeqAt.canLay_of_shaped sh)] at this
  exact this
theorem SelfV.int {K : PySem.W.Frag} {H : Hp} {i : Int} : SelfV K H (.int i) := by
  have sh : SeqAt.shaped (.int i) = true := by unfold SeqAt.shaped; simp [PyData.canLay0, PyData.depth]
  have := EqV.data (K := K) (H := H) (n := 0) (.int i) (.int i) sh sh
  rw [SeqAt.eqv_refl _ (SeqAt.canLay_of_shaped sh)] at this
  exact this
mutual
theorem EqV.up {K : PySem.W.Frag} {H H' : Hp} (S : Same H H') : ∀ (n : Nat) (x y : V) (b : Bool), EqV K H n x y b → ∀ m, n ≤ m → EqV K H' m x y b
  | _, _, _, _, .same a, _, _ => .same a
  | _, _, _, _, .data h1 h2 h3 h4, _, _ => .data (Dp.mono S h1) (Dp.mono S h2) h3 h4
  | _, _, _, _, .lst ne h1 h2 h3, m, hm => by
    obtain ⟨m', rfl⟩ : ∃ m', m = m' + 1 := ⟨m - 1, by omega⟩
    exact .lst ne (SqL_monoN (ext_same S) h1) (SqL_monoN (ext_same S) h2) (EqVs.up S _ _ _ _ h3 m' (by omega))
theorem EqVs.up {K : PySem.W.Frag} {H H' : Hp} (S : Same H H') : ∀ (n : Nat) (xs ys : List V) (bs : List Bool), EqVs K H n xs ys bs → ∀ m, n ≤ m → EqVs K H' m xs ys bs
  | _, _, _, _, .nil, _, _ => .nil
  | _, _, _, _, .cons h hs, m, hm => .cons (EqV.up S _ _ _ _ h m hm) (EqVs.up S _ _ _ _ hs m hm)
end
theorem SelfV.mono {K : PySem.W.Frag} {H H' : Hp} {x : V} (S : Same H H') (h : SelfV K H x) : SelfV K H' x := EqV.up S _ _ _ _ h 0 (Nat.le_refl _)
theorem dp_any {K : PySem.W.Frag} {H H' : Hp} {x : V} {d : PyData} (n : ∀ a, x ≠ .ref a) (h : Dp K H x d) : Dp K H' x d := by
  cases h with
  | non => exact .non
  | bl b => exact .bl b
  | int i => exact .int i
  | str z => exact .str z
  | lst h _ => exact absurd rfl (n _)
  | tup h _ => exact absurd rfl (n _)
theorem SelfV.any {K : PySem.W.Frag} {H H' : Hp} {x : V} (h : SelfV K H x) : SelfV K H' x := by
  have key : ∀ (n : Nat) (y z : V) (b : Bool), EqV K H n y z b → n = 0 → y = x → z = x → b = true → SelfV K H' x := fun n y z b h e0 e1 e2 e3 => by
    by_cases r : ∃ a, x = .ref a
    · obtain ⟨a, rfl⟩ := r
      exact .same a
    · cases h with
      | same a => exact absurd ⟨a, e1.symm⟩ r
      | data hd he sd se =>
        subst e1
        have := EqV.data (K := K) (H := H') (n := 0) (dp_any (fun a e => r ⟨a, e⟩) hd) (dp_any (fun a e => r ⟨a, e2.symm ▸ e⟩) he) sd se
        rw [e3] at this
        subst e2
        exact this
      | lst _ _ _ _ => exact absurd e0 (by omega)
  exact key 0 x x true h rfl rfl rfl rfl
theorem selfs {K : PySem.W.Frag} {H : Hp} {n : Nat} : ∀ {xs : List V}, (∀ x ∈ xs, SelfV K H x) → EqVs K H n xs xs (xs.map fun _ => true)
  | [], _ => .nil
  | x :: xs, h => .cons (EqV.up (Same.refl H) _ _ _ _ (h x List.mem_cons_self) n (Nat.zero_le n)) (selfs fun y hy => h y (List.mem_cons_of_mem _ hy))
theorem all_trues (xs : List V) : (xs.map fun _ => true).all id = true := by
  rw [List.all_map, List.all_eq_true]
  exact fun _ _ => rfl
def rRevL (K : PySem.W.Frag) (Q : VK) (x : V) (H : Hp) : Prop := ∃ a xs, x = .ref a ∧ SqL K H a xs ∧ ∀ p, H p = none → Q (.ref p) (upd H p (.lst xs.reverse))
theorem s_revL {K : PySem.W.Frag} {te : TE} {σ : L2.St} {H : Hp} {Q : VK} (h : te σ H fun x H1 => rRevL K Q x H1) : tRevL K te σ H Q := h
theorem q_revL {K : PySem.W.Frag} {H : Hp} {Q : VK} {a : Addr} {xs : List V} (h : SqL K H a xs) (q : ∀ p H', H p = none → Same H H' → H' p = some (.lst xs.reverse) → Q (.ref p) H') : rRevL K Q (.ref a) H := ⟨a, xs, rfl, h, fun p n => q p _ n (Same.new n) upd_same⟩
theorem ten39 : (0 : Int) < (10 : Int) ^ (39 : Int).toNat := Int.pow_pos (by decide)
theorem ten39b : (10 : Int) ^ (39 : Int).toNat < 2 ^ 199 := by decide +kernel
theorem sort_perm {ps qs : List Plc} (h : ps.Perm qs) : ps.mergeSort pLe = qs.mergeSort pLe :=
  ((List.mergeSort_perm ps pLe).trans (h.trans (List.mergeSort_perm qs pLe).symm)).eq_of_pairwise (fun _ _ _ _ h1 h2 => pLe_antisymm h1 h2) (dl_pw dPl ps) (dl_pw dPl qs)
theorem due_eq (fs : List Plc) (zs : List GC) : (runC (fs.mergeSort pLe) zs).mergeSort pLe = (runC fs zs).mergeSort pLe := sort_perm (runC_perm zs (List.mergeSort_perm fs pLe))
theorem runC_len (zs : List GC) (fs : List Plc) : (runC fs zs).length ≤ fs.length + zs.length := by
  induction zs generalizing fs with
  | nil => exact Nat.le_refl _
  | cons z zs ih =>
    have h1 : (runC fs (z :: zs)).length ≤ (mkC fs z.2).length + zs.length := ih (mkC fs z.2)
    have h2 := mkC_len fs z.2
    simp only [List.length_cons]
    omega
end Bt
namespace Bt
open PySem PySem.Spec PyProof.Rows L2 LamX NdefX
open PySem.W (dataLt dataLe alike AllAlike Sortable)
theorem words110_ : True := by
  k_with "s_U16" => first
    | ((with_reducible refine' s_var ?hv ?_); (case hv => exact rfl))
    | with_reducible first
      | refine' s_c ?_ | refine' s_op ?_ | refine' s_asg ?_ | refine' s_gname ?_ | refine' s_seq ?_ | refine' s_next ?_ | refine' s_ret ?_ | refine' s_ifS ?_ | refine' s_drop ?_ | refine' s_retN ?_ | refine' s_test ?_ | refine' s_B ?_ | refine' q_test ?_ | refine' s_int ?_ | refine' s_cons ?_ | refine' s_nil ?_ | refine' s_call ?_ | refine' s_CB ?_ | refine' s_andT ?_ | refine' s_orT ?_ | refine' s_notT ?_ | refine' s_andV ?_ | refine' s_orV ?_ | refine' s_notV ?_ | refine' s_ifV ?_ | refine' s_chain ?_ | refine' s_sl ?_ | refine' s_noPart ?_ | refine' s_part ?_ | refine' s_gsub ?_ | refine' s_BM ?_ | refine' s_tup ?_ | refine' s_lst ?_ | refine' q_add ?_ | refine' q_sub ?_ | refine' q_lt ?_ | refine' q_le ?_ | refine' q_gt ?_ | refine' q_ge ?_ | refine' s_ifT ?_ | refine' s_ifF ?_ | refine' s_yes ?_ | refine' s_iStr ?_ | refine' s_M0 ?_ | refine' s_for ?_ | refine' s_rng1 ?_ | refine' s_par ?_ | refine' s_gcons ?_ | refine' s_gnil ?_ | refine' s_iList ?_ | refine' s_iEnum ?_ | refine' s_raise1 ?_
      | (refine' q_mod ?hm ?_; (case hm => first | omega | decide))
    | dsimp only
  k_with "r_U16" => repeat (k_extra "s_U16")
  trivial
/-! ### what is undone -/
def Ch.inv : Ch → Ch
  | .add p => .take p
  | .take p => .add p
  | .ren p q => .ren q p
theorem inv_inv (c : Ch) : c.inv.inv = c := by cases c <;> rfl
theorem inv_gs (c : Ch) : c.inv.gs = c.cs := by cases c <;> rfl
theorem inv_cs (c : Ch) : c.inv.cs = c.gs := by cases c <;> rfl
theorem inv_pcs {c : Ch} {p : Plc} (m : p ∈ c.inv.pcs) : p ∈ c.pcs := by
  cases c with
  | add _ => exact m
  | take _ => exact m
  | ren a b =>
    simp only [Ch.inv, Ch.pcs, List.mem_cons, List.not_mem_nil, or_false] at m ⊢
    exact m.symm
def opp (m : Int) (z : GC) : GC := (m - 2 - z.1, z.2.inv)
def opps (m : Int) (zs : List GC) : List GC := zs.reverse.map (opp m)
theorem opp_opp (m : Int) (z : GC) : opp m (opp m z) = z := by
  show (m - 2 - (m - 2 - z.1), z.2.inv.inv) = z
  rw [inv_inv, show m - 2 - (m - 2 - z.1) = z.1 by omega]
theorem opps_opps (m : Int) (zs : List GC) : opps m (opps m zs) = zs := by
  unfold opps
  rw [List.map_reverse, List.map_reverse, List.map_reverse, List.reverse_reverse, List.map_map]
  rw [show (opp m ∘ opp m) = id from funext fun z => opp_opp m z, List.map_id]
theorem opps_len (m : Int) (zs : List GC) : (opps m zs).length = zs.length := by simp [opps]
theorem opps_cons (m : Int) (z : GC) (zs : List GC) : opps m (z :: zs) = opps m zs ++ [opp m z] := by
  unfold opps
  rw [List.reverse_cons, List.map_append]
  rfl
theorem opps_mem {m : Int} {zs : List GC} {y : GC} (h : y ∈ opps m zs) : ∃ z ∈ zs, y = opp m z := by
  obtain ⟨z, hz, rfl⟩ := List.mem_map.mp h
  exact ⟨z, List.mem_reverse.mp hz, rfl⟩
theorem opps_nm {m : Int} {zs : List GC} (h : NmC zs) : NmC (opps m zs) := fun y my p mp => by
  obtain ⟨z, hz, rfl⟩ := opps_mem my
  exact h z hz p (inv_pcs mp)
theorem mem_mkC {s : List Plc} {c : Ch} {a : Plc} : a ∈ mkC s c ↔ (a ∈ s ∧ c.gs ≠ some a) ∨ c.cs = some a := by
  unfold mkC
  rw [List.mem_append, Option.mem_toList]
  refine or_congr ?_ Iff.rfl
  cases c.gs with
  | none => exact ⟨fun h => ⟨h, fun z => nomatch z⟩, fun h => h.1⟩
  | some p =>
    show a ∈ s.filter (fun q => decide (q ≠ p)) ↔ _
    rw [List.mem_filter, decide_eq_true_iff]
    exact and_congr_right' ⟨fun h z => h (Option.some.inj z).symm, fun h z => h (congrArg some z.symm)⟩
theorem mkC_nd {s : List Plc} {c : Ch} (nd : s.Nodup) (can : Can s c) : (mkC s c).Nodup := by
  unfold mkC
  have h1 : (match c.gs with | none => s | some p => s.filter fun q => decide (q ≠ p)).Nodup := by
    cases c.gs with
    | none => exact nd
    | some p => exact nd.filter _
  have h2 : ∀ a ∈ (match c.gs with | none => s | some p => s.filter fun q => decide (q ≠ p)), a ∈ s := by
    cases c.gs with
    | none => exact fun a h => h
    | some p => exact fun a h => (List.mem_filter.mp h).1
  rw [List.nodup_append]
  refine ⟨h1, by cases c.cs <;> simp, fun a ha b hb e => ?_⟩
  rw [Option.mem_toList] at hb
  exact can.2 b hb (e ▸ h2 a ha)
theorem can_inv {s : List Plc} {c : Ch} (can : Can s c) : Can (mkC s c) c.inv := by
  refine ⟨fun p e => ?_, fun q e m => ?_⟩
  · rw [inv_gs] at e
    exact mem_mkC.mpr (.inr e)
  · rw [inv_cs] at e
    rcases mem_mkC.mp m with ⟨_, h⟩ | h
    · exact h e
    · exact can.2 q h (can.1 q e)
theorem mkC_undo {s : List Plc} {c : Ch} (nd : s.Nodup) (can : Can s c) : (mkC (mkC s c) c.inv).Perm s := by
  refine (List.perm_ext_iff_of_nodup (mkC_nd (mkC_nd nd can) (can_inv can)) nd).mpr fun a => ?_
  rw [mem_mkC, mem_mkC, inv_gs, inv_cs]
  constructor
  · rintro (⟨⟨h, _⟩ | h, n⟩ | h)
    · exact h
    · exact absurd h n
    · exact can.1 a h
  · intro h
    by_cases g : c.gs = some a
    · exact .inr g
    · exact .inl ⟨.inl ⟨h, g⟩, fun z => can.2 a z h⟩
theorem runC_nd : ∀ {zs : List GC} {s : List Plc} {g : Int}, Run s g zs → s.Nodup → (runC s zs).Nodup
  | [], _, _, _, nd => nd
  | z :: zs, _, _, ⟨_, h2, _, _, h5⟩, nd => runC_nd (zs := zs) h5 (mkC_nd nd h2)
theorem undo (m : Int) : ∀ {zs : List GC} {s : List Plc} {g : Int}, Run s g zs → s.Nodup → (runC (runC s zs) (opps m zs)).Perm s
  | [], _, _, _, _ => List.Perm.refl _
  | z :: zs, s, g, ⟨h1, h2, h3, h4, h5⟩, nd => by
    rw [opps_cons, runC_snoc]
    exact (mkC_perm (undo m h5 (mkC_nd nd h2)) z.2.inv).trans (mkC_undo nd h2)
theorem lastG_opps {m g' : Int} : ∀ {zs : List GC} {s : List Plc} {g : Int}, Run s g zs → g' ≤ m - 2 - g → lastG g' (opps m zs) ≤ m - 2 - g
  | [], _, _, _, h => h
  | z :: zs, s, g, ⟨h1, _⟩, _ => by
    rw [opps_cons, lastG_snoc]
    show m - 2 - z.1 ≤ m - 2 - g
    omega
theorem run_opps {m g' : Int} : ∀ {zs : List GC} {s : List Plc} {g : Int}, Run s g zs → s.Nodup → s.length + zs.length < 90 → (∀ z ∈ zs, g' ≤ m - 2 - z.1) → Run (runC s zs) g' (opps m zs)
  | [], _, _, _, _, _, _ => trivial
  | z :: zs, s, g, ⟨h1, h2, h3, h4, h5⟩, nd, hz, lo => by
    rw [opps_cons]
    have nd2 := mkC_nd nd h2
    have l2 := mkC_len s z.2
    rw [List.length_cons] at hz
    have pm := undo m h5 nd2
    refine Run.snoc (run_opps h5 nd2 (by omega) fun y my => lo y (List.mem_cons_of_mem _ my)) (lastG_opps h5 (lo z List.mem_cons_self)) ((can_inv h2).perm pm.symm) (fun p mp => h3 p (inv_pcs mp)) ?_
    show (runC (runC (mkC s z.2) zs) (opps m zs)).length < 90
    rw [pm.length_eq]
    omega
/-- the changes in gaps from k on -/
def behind (k : Int) (zs : List GC) : List GC := zs.filter fun z => !decide (z.1 < k)
theorem split_run (k : Int) : ∀ {zs : List GC} {s : List Plc} {g : Int}, Run s g zs → zs = before k zs ++ behind k zs
  | [], _, _, _ => rfl
  | z :: zs, s, g, h => by
    by_cases lt : z.1 < k
    · have ih := split_run k h.2.2.2.2
      unfold before behind at ih ⊢
      rw [List.filter_cons_of_pos (by simp [lt]), List.filter_cons_of_neg (by simp [lt]), List.cons_append, ← ih]
    · have hi := h.2.2.2.2.low
      have e1 : before k (z :: zs) = [] := List.filter_eq_nil_iff.mpr fun y my => by
        rcases List.mem_cons.mp my with rfl | my
        · simp [lt]
        · have := hi y my
          simp
          omega
      have e2 : behind k (z :: zs) = z :: zs := List.filter_eq_self.mpr fun y my => by
        rcases List.mem_cons.mp my with rfl | my
        · simp [lt]
        · have := hi y my
          simp
          omega
      rw [e1, e2, List.nil_append]
theorem runC_app (s : List Plc) (xs ys : List GC) : runC s (xs ++ ys) = runC (runC s xs) ys := List.foldl_append
theorem Run.drop : ∀ {xs ys : List GC} {s : List Plc} {g : Int}, Run s g (xs ++ ys) → Run (runC s xs) (lastG g xs) ys
  | [], _, _, _, h => h
  | x :: xs, ys, s, _, ⟨_, _, _, _, h⟩ => Run.drop (xs := xs) (ys := ys) (s := mkC s x.2) h
theorem Run.front : ∀ {xs ys : List GC} {s : List Plc} {g : Int}, Run s g (xs ++ ys) → Run s g xs
  | [], _, _, _, _ => trivial
  | x :: xs, ys, s, _, ⟨h1, h2, h3, h4, h⟩ => ⟨h1, h2, h3, h4, Run.front (xs := xs) (ys := ys) (s := mkC s x.2) h⟩
theorem before_opps (m k : Int) (zs : List GC) : before (m - 1 - k) (opps m zs) = opps m (behind k zs) := by
  unfold before opps behind
  rw [List.filter_map, ← List.filter_reverse]
  congr 1
  refine List.filter_congr fun z _ => ?_
  show decide (m - 2 - z.1 < m - 1 - k) = !decide (z.1 < k)
  rw [← decide_not]
  exact decide_eq_decide.mpr (by omega)
theorem at_back (m k : Int) {zs : List GC} {s : List Plc} {g : Int} (h : Run s g zs) (nd : s.Nodup) : (runC (runC s zs) (before (m - 1 - k) (opps m zs))).Perm (runC s (before k zs)) := by
  have e := split_run k h
  have h' : Run s g (before k zs ++ behind k zs) := by rw [← e]; exact h
  rw [before_opps]
  have e2 : runC s zs = runC (runC s (before k zs)) (behind k zs) := by rw [← runC_app, ← e]
  rw [e2]
  exact undo m h'.drop (runC_nd h'.front nd)
end Bt
namespace Bt
open PySem PySem.Spec PyProof.Rows L2 LamX NdefX
open PySem.W (dataLt dataLe alike AllAlike Sortable)
theorem words111_ : True := by
  k_with "s_O16" => first
    | ((with_reducible refine' s_var ?hv ?_); (case hv => exact rfl))
    | with_reducible first
      | refine' s_c ?_ | refine' s_op ?_ | refine' s_asg ?_ | refine' s_gname ?_ | refine' s_seq ?_ | refine' s_next ?_ | refine' s_ret ?_ | refine' s_ifS ?_ | refine' s_drop ?_ | refine' s_retN ?_ | refine' s_test ?_ | refine' s_B ?_ | refine' q_test ?_ | refine' s_int ?_ | refine' s_cons ?_ | refine' s_nil ?_ | refine' s_call ?_ | refine' s_CB ?_ | refine' s_andT ?_ | refine' s_orT ?_ | refine' s_notT ?_ | refine' s_andV ?_ | refine' s_orV ?_ | refine' s_notV ?_ | refine' s_ifV ?_ | refine' s_chain ?_ | refine' s_sl ?_ | refine' s_noPart ?_ | refine' s_part ?_ | refine' s_gsub ?_ | refine' s_BM ?_ | refine' s_tup ?_ | refine' s_lst ?_ | refine' q_add ?_ | refine' q_sub ?_ | refine' q_lt ?_ | refine' q_le ?_ | refine' q_gt ?_ | refine' q_ge ?_ | refine' s_ifT ?_ | refine' s_ifF ?_ | refine' s_yes ?_ | refine' s_iStr ?_ | refine' s_M0 ?_ | refine' s_for ?_ | refine' s_rng1 ?_ | refine' s_par ?_ | refine' s_gcons ?_ | refine' s_gnil ?_ | refine' s_iList ?_ | refine' s_iEnum ?_ | refine' s_raise1 ?_
      | (refine' q_mod ?hm ?_; (case hm => first | omega | decide))
    | dsimp only
  k_with "r_O16" => repeat (k_extra "s_O16")
  trivial
/-! ### opposite, a list of opposites -/
section
variable {P : Program} {w : World} {K : PySem.W.Frag} {mg : Str → Option Value} {base : Heap}
def spOpp : Sp := fun vs H Q _ => ∃ x z g, vs = [x, .int g] ∧ ChAt H x z ∧ ∀ t H', H t = none → Same H H' → ChAt H' (.ref t) (g, z.2.inv) → Q (.ref t) H'
theorem ok_opposite (C : TxtC16 K mg) : Cal P w K mg base 1 "opposite" spOpp := by
  refine C.d_opp.cal sc_opposite (fun vs H Q E h => ?_) (fun f cdv A outer s H vs Q E hr h => ?_)
  · obtain ⟨x, z, g, rfl, _⟩ := h
    rfl
  · obtain ⟨x, z, g, rfl, ⟨t, ys, rfl, ht, hy⟩, k⟩ := h
    refine ⟨_, (pss_cons (ps_if (pt_cmpR op_eq (pe_ix ix_seq (pv 0) pe_int (fun _ _ => rfl)) pe_str (by rfl)) (pss_one (ps_ret (pe_tup (pa_cons (pv 1) (pa_cons pe_str (pa_cons (pe_ix ix_seq (pv 0) pe_int (fun _ _ => rfl)) (pa_cons (pe_ix ix_seq (pv 0) pe_int (fun _ _ => rfl)) pa_nil))))))) pss_nil)
      (pss_one (ps_ret (pe_tup (pa_cons (pv 1) (pa_cons (pe_ifExp (pt_cmpR op_eq (pe_ix ix_seq (pv 0) pe_int (fun _ _ => rfl)) pe_str (by rfl)) pe_str pe_str) (pa_cons (pe_ix ix_seq (pv 0) pe_int (fun _ _ => rfl)) pa_nil))))))), ?_⟩
    k_extra "r_O16"
    refine q_ixT (SqT.of ht) (at_of (j := 1) rfl rfl) ?_
    k_extra "r_O16"
    obtain ⟨g0, c⟩ := z
    cases c with
    | ren p q =>
      refine ⟨rfl, q_test (s_if1 (show decide (V.str "rename" = V.str "rename") = true by decide) ?_)⟩
      k_extra "r_O16"
      cases hy with
      | cons h hn =>
      cases hn with
      | cons h2 hn =>
      cases hn
      refine q_ixT (SqT.of ht) (at_of (j := 3) rfl rfl) ?_
      k_extra "r_O16"
      refine q_ixT (SqT.of ht) (at_of (j := 2) rfl rfl) ?_
      k_extra "r_O16"
      refine q_newT (by show 4 ≤ sizeLine; decide) fun t1 H1 n1 S1 h1 => ?_
      exact k t1 H1 n1 S1 ⟨t1, _, rfl, h1, .cons (h2.mono S1) (.cons (h.mono S1) .nil)⟩
    | add p =>
      refine ⟨rfl, q_test (s_if0 (show decide (V.str "add" = V.str "rename") = false by decide +kernel) ?_)⟩
      k_extra "r_O16"
      cases hy with
      | cons h hn =>
      cases hn
      refine q_ixT (SqT.of ht) (at_of (j := 1) rfl rfl) ?_
      k_extra "r_O16"
      refine ⟨rfl, q_test (s_if1 (show decide (V.str "add" = V.str "add") = true by decide) ?_)⟩
      k_extra "r_O16"
      refine q_ixT (SqT.of ht) (at_of (j := 2) rfl rfl) ?_
      k_extra "r_O16"
      refine q_newT (by show 3 ≤ sizeLine; decide) fun t1 H1 n1 S1 h1 => ?_
      exact k t1 H1 n1 S1 ⟨t1, _, rfl, h1, .cons (h.mono S1) .nil⟩
    | take p =>
      refine ⟨rfl, q_test (s_if0 (show decide (V.str "take" = V.str "rename") = false by decide +kernel) ?_)⟩
      k_extra "r_O16"
      cases hy with
      | cons h hn =>
      cases hn
      refine q_ixT (SqT.of ht) (at_of (j := 1) rfl rfl) ?_
      k_extra "r_O16"
      refine ⟨rfl, q_test (s_if0 (show decide (V.str "take" = V.str "add") = false by decide +kernel) ?_)⟩
      k_extra "r_O16"
      refine q_ixT (SqT.of ht) (at_of (j := 2) rfl rfl) ?_
      k_extra "r_O16"
      refine q_newT (by show 3 ≤ sizeLine; decide) fun t1 H1 n1 S1 h1 => ?_
      exact k t1 H1 n1 S1 ⟨t1, _, rfl, h1, .cons (h.mono S1) .nil⟩
end
/-! ### _law_back -/
section
variable {P : Program} {w : World} {K : PySem.W.Frag} {mg : Str → Option Value} {base : Heap}
theorem ok__law_back (L4 : TxtL16 K mg) : Cal P w K mg base 1 "_law_back" spOpp := by
  refine L4.d_back.cal sc__law_back (fun vs H Q E h => ?_) (fun f cdv A outer s H vs Q E hr h => ?_)
  · obtain ⟨x, z, g, rfl, _⟩ := h
    rfl
  · obtain ⟨x, z, g, rfl, ⟨t, ys, rfl, ht, hy⟩, k⟩ := h
    refine ⟨_, (pss_cons (ps_if (pt_cmpR op_eq (pe_ix ix_seq (pv 0) pe_int (fun _ _ => rfl)) pe_str (by rfl)) (pss_one (ps_ret (pe_tup (pa_cons (pv 1) (pa_cons pe_str (pa_cons (pe_ix ix_seq (pv 0) pe_int (fun _ _ => rfl)) (pa_cons (pe_ix ix_seq (pv 0) pe_int (fun _ _ => rfl)) pa_nil))))))) pss_nil)
      (pss_one (ps_ret (pe_tup (pa_cons (pv 1) (pa_cons (pe_ifExp (pt_cmpR op_eq (pe_ix ix_seq (pv 0) pe_int (fun _ _ => rfl)) pe_str (by rfl)) pe_str pe_str) (pa_cons (pe_ix ix_seq (pv 0) pe_int (fun _ _ => rfl)) pa_nil))))))), ?_⟩
    k_extra "r_O16"
    refine q_ixT (SqT.of ht) (at_of (j := 1) rfl rfl) ?_
    k_extra "r_O16"
    obtain ⟨g0, c⟩ := z
    cases c with
    | ren p q =>
      refine ⟨rfl, q_test (s_if1 (show decide (V.str "rename" = V.str "rename") = true by decide) ?_)⟩
      k_extra "r_O16"
      cases hy with
      | cons h hn =>
      cases hn with
      | cons h2 hn =>
      cases hn
      refine q_ixT (SqT.of ht) (at_of (j := 3) rfl rfl) ?_
      k_extra "r_O16"
      refine q_ixT (SqT.of ht) (at_of (j := 2) rfl rfl) ?_
      k_extra "r_O16"
      refine q_newT (by show 4 ≤ sizeLine; decide) fun t1 H1 n1 S1 h1 => ?_
      exact k t1 H1 n1 S1 ⟨t1, _, rfl, h1, .cons (h2.mono S1) (.cons (h.mono S1) .nil)⟩
    | add p =>
      refine ⟨rfl, q_test (s_if0 (show decide (V.str "add" = V.str "rename") = false by decide +kernel) ?_)⟩
      k_extra "r_O16"
      cases hy with
      | cons h hn =>
      cases hn
      refine q_ixT (SqT.of ht) (at_of (j := 1) rfl rfl) ?_
      k_extra "r_O16"
      refine ⟨rfl, q_test (s_if1 (show decide (V.str "add" = V.str "add") = true by decide) ?_)⟩
      k_extra "r_O16"
      refine q_ixT (SqT.of ht) (at_of (j := 2) rfl rfl) ?_
      k_extra "r_O16"
      refine q_newT (by show 3 ≤ sizeLine; decide) fun t1 H1 n1 S1 h1 => ?_
      exact k t1 H1 n1 S1 ⟨t1, _, rfl, h1, .cons (h.mono S1) .nil⟩
    | take p =>
      refine ⟨rfl, q_test (s_if0 (show decide (V.str "take" = V.str "rename") = false by decide +kernel) ?_)⟩
      k_extra "r_O16"
      cases hy with
      | cons h hn =>
      cases hn
      refine q_ixT (SqT.of ht) (at_of (j := 1) rfl rfl) ?_
      k_extra "r_O16"
      refine ⟨rfl, q_test (s_if0 (show decide (V.str "take" = V.str "add") = false by decide +kernel) ?_)⟩
      k_extra "r_O16"
      refine q_ixT (SqT.of ht) (at_of (j := 2) rfl rfl) ?_
      k_extra "r_O16"
      refine q_newT (by show 3 ≤ sizeLine; decide) fun t1 H1 n1 S1 h1 => ?_
      exact k t1 H1 n1 S1 ⟨t1, _, rfl, h1, .cons (h.mono S1) .nil⟩
end
end Bt
namespace Bt
open PySem PySem.Spec PyProof.Rows L2 LamX NdefX
open PySem.W (dataLt dataLe alike AllAlike Sortable)
theorem words112_ : True := by
  k_with "s_V16" => first
    | ((with_reducible refine' s_var ?hv ?_); (case hv => exact rfl))
    | with_reducible first
      | refine' s_c ?_ | refine' s_op ?_ | refine' s_asg ?_ | refine' s_gname ?_ | refine' s_seq ?_ | refine' s_next ?_ | refine' s_ret ?_ | refine' s_ifS ?_ | refine' s_drop ?_ | refine' s_retN ?_ | refine' s_test ?_ | refine' s_B ?_ | refine' q_test ?_ | refine' s_int ?_ | refine' s_cons ?_ | refine' s_nil ?_ | refine' s_call ?_ | refine' s_CB ?_ | refine' s_andT ?_ | refine' s_orT ?_ | refine' s_notT ?_ | refine' s_andV ?_ | refine' s_orV ?_ | refine' s_notV ?_ | refine' s_ifV ?_ | refine' s_chain ?_ | refine' s_sl ?_ | refine' s_noPart ?_ | refine' s_part ?_ | refine' s_gsub ?_ | refine' s_BM ?_ | refine' s_tup ?_ | refine' s_lst ?_ | refine' q_add ?_ | refine' q_sub ?_ | refine' q_lt ?_ | refine' q_le ?_ | refine' q_gt ?_ | refine' q_ge ?_ | refine' s_ifT ?_ | refine' s_ifF ?_ | refine' s_yes ?_ | refine' s_iStr ?_ | refine' s_M0 ?_ | refine' s_for ?_ | refine' s_rng1 ?_ | refine' s_par ?_ | refine' s_gcons ?_ | refine' s_gnil ?_ | refine' s_iList ?_ | refine' s_iEnum ?_ | refine' s_raise1 ?_
      | (refine' q_mod ?hm ?_; (case hm => first | omega | decide))
    | dsimp only
  k_with "r_V16" => repeat (k_extra "s_V16")
  trivial
/-! ### story.turned(m) -/
structure TxtV16 (K : PySem.W.Frag) (mg : Str → Option Value) : Prop where
  n_max : mg "max" = none
theorem Paired.rev {α β : Type} {R : α → β → Prop} {xs : List α} {zs : List β} (h : Paired R xs zs) : Paired R xs.reverse zs.reverse := by
  induction h with
  | nil => exact .nil
  | cons h _ ih =>
    rw [List.reverse_cons, List.reverse_cons]
    exact ih.snoc h
theorem Run.lt {zs : List GC} {m : Int} (h : ∀ z ∈ zs, z.1 + 2 ≤ m) : before (m - 1) zs = zs := before_all fun z mz => by have := h z mz; omega
section
variable {P : Program} {w : World} {K : PySem.W.Frag} {mg : Str → Option Value} {base : Heap} {CS CI : Addr}
def spTurned (CS : Addr) : Sp := fun vs H Q _ => ∃ x f c d ps zs st m, vs = [.ref x, .int m] ∧ StoAt CS H x f c d ps zs st ∧ 1 ≤ m ∧ (∀ z ∈ zs, z.1 + 2 ≤ m) ∧ ps.Nodup ∧ ps.length + zs.length < 60 ∧ (∀ p ∈ ps, NmP p) ∧ Run ps 0 zs ∧
  ∀ x' H' f' c' d', H x' = none → H f' = none → H c' = none → H d' = none → Same H H' → StoAt CS H' x' f' c' d' ((runC ps zs).mergeSort pLe) (opps m zs) (runC ((runC ps zs).mergeSort pLe) (opps m zs)) → Q (.ref x') H'
theorem ok_story_turned {f : Addr} {fd : FuncData} (T : Txt K mg) (N : TxtN K mg) (I : TxtI K mg) (C : TxtC16 K mg) (S : TxtS16 K mg) (SC : StoryC K mg CS) (SM : StoryM K CS) (TV : TxtV16 K mg) (F : Fun K "turned" "Story.turned" s_Story_turned f fd) : FnOk P w K mg base CX0 8 f fd ["self", "moments"] (spTurned CS) := by
  refine F.ok sc_Story_turned (fun vs H Q E h => ?_) (fun cdv A outer s H vs Q E hr h => ?_)
  · obtain ⟨x, f, c, d, ps, zs, st, m, rfl, _⟩ := h
    rfl
  · obtain ⟨x, f, c, d, ps, zs, st, m, rfl, hs, m1, hm, nd, hz, nm, run, k⟩ := h
    have hu := hr.units
    refine ⟨_, (pss_cons (ps_expr (pe_c (ok_check_least0 T S) hr (by decide) rfl (pa_cons (pv 1) (pa_cons (pe_callB (cr_max rfl) (by rfl) TV.n_max (by decide +kernel) (pa_cons (pe_op op_addU (pe_lst (pa_cons pe_int pa_nil)) (pe_lc (own := [("change", 3)]) (g := gName 3) (tt := tYes) (te := tOp rAddU (tOp (rIx K) (tVar 3) (tC (.int 0))) (tC (.int 2))) rfl sc_Story_turned.nd (pi_list (pe_fld (pv 0) rfl)) (blkOk_by (own := [("change", 3)]) (N := ["self", "moments", "changes", "change"]) (sc := defScope s_Story_turned) (by decide +kernel)) (fun _ _ _ _ _ => pg_name (i := 3) sc_Story_turned.nd rfl (Or.inl rfl)) (fun _ _ _ _ _ => pts_nil) (fun _ _ _ _ _ => (pe_op op_addU (pe_ix ix_seq (pv 3) pe_int (fun _ _ => rfl)) pe_int)))) pa_nil)) pa_nil))))
      (C8.pss_cut (ps_setLc (i := 2) (own := [("change", 3)]) (g := gName 3) (tt := tYes) (te := tCall spOpp [] E0 (tCons (tVar 3) (tCons (tOp rSub (tOp rSub (tVar 1) (tC (.int 2))) (tOp (rIx K) (tVar 3) (tC (.int 0)))) tNil))) rfl sc_Story_turned.nd rfl rfl (sw_true rfl rfl rfl (by decide +kernel)) (pi_list (pe_revL (pe_fld (pv 0) rfl))) (blkOk_by (own := [("change", 3)]) (N := ["self", "moments", "changes", "change"]) (sc := defScope s_Story_turned) (by decide +kernel)) (fun _ _ _ _ _ => pg_name (i := 3) sc_Story_turned.nd rfl (Or.inl rfl)) (fun _ _ _ _ _ => pts_nil) (fun _ _ _ _ _ => by exact (pe_c (ok_opposite C) hr (by decide) rfl (pa_cons (pv 3) (pa_cons (pe_op op_subU (pe_op op_subU (pv 1) pe_int) (pe_ix ix_seq (pv 3) pe_int (fun _ _ => rfl))) pa_nil)))))
      (pss_one (ps_ret (pe_story T N I C S SC hr (by decide) (pe_at T N I C S SC SM hr (by decide) (pv 0) (pe_op op_subU (pv 1) pe_int)) (pv 2)))))), ?_⟩
    obtain ⟨dx, hx⟩ := id hs.hx
    obtain ⟨ts, hc, cs⟩ := id hs.hc
    have lt : ts.length = zs.length := Paired.length cs
    k_extra "r_V16"
    refine q_newL (by show 1 ≤ sizeLine; decide) fun l1 H1 n1 S1 h1 => ?_
    refine s_lc ?_
    k_extra "r_V16"
    refine s_fld ?_
    k_extra "r_V16"
    refine ⟨x, CS, dx, _, .ref c, rfl, S1 _ _ hx, SC.cl, SC.n2, lk_changes _ _ _, ?_⟩
    have hc1 := S1 _ _ hc
    refine ⟨c, rfl, ⟨_, SqL.of hc1⟩, fun D nD => lc_list (K := K) (a := c) (xs := ts) (fun i H' => Same H1 H' ∧ H' D = some (.lst ((zs.take i).map fun z => .int (z.1 + 2)))) ⟨Same.new nD, upd_same⟩ (fun i H' _ h => SqL.of (h.1 _ _ hc1)) ?_ ?_⟩
    · rintro j y H2 hj ⟨S2, h2⟩
      obtain ⟨z, ez, t, us, rfl, ht, _⟩ := Paired.get cs hj
      have lj := (List.getElem?_eq_some_iff.mp ez).1
      k_extra "r_V16"
      refine ⟨rfl, ?_⟩
      k_extra "r_V16"
      refine q_ixT (SqT.of ((S1.trans S2) _ _ ht)) (at_of (j := 0) rfl rfl) ?_
      k_extra "r_V16"
      refine ⟨_, h2, szlt (by rw [List.length_map, List.length_take]; omega), same_mut S2 nD, ?_⟩
      rw [upd_same, List.take_add_one, ez, List.map_append]
      rfl
    rintro H2 ⟨S2, h2⟩
    rw [lt, List.take_of_length_le (Nat.le_refl _)] at h2
    k_extra "r_V16"
    refine q_cat (S2 _ _ h1) h2 (sz (by simp; omega)) fun l3 H3 n3 S3 h3 => ?_
    k_extra "r_V16"
    refine ⟨l3, (1 :: zs.map fun z => z.1 + 2), rfl, SqL.of (by rw [h3]; simp), by simp, fun M mM leM => ?_⟩
    k_extra "r_V16"
    refine ⟨m, M, rfl, ?_, ?_⟩
    · rcases List.mem_cons.mp mM with rfl | mM
      · exact m1
      · obtain ⟨z, mz, rfl⟩ := List.mem_map.mp mM
        exact hm z mz
    k_extra "r_V16"
    have S03 := S1.trans (S2.trans S3)
    clear h3 h2 n3 n1 h1 S3 S2 S1 hc1 mM leM nD
    refine q_cut8 (M := fun σ H' => ∃ D us, σ = [some (.ref x), some (.int m), some (.ref D), none] ∧ H D = none ∧ Same H H' ∧ H' D = some (.lst us) ∧ ChsAt H' us (opps m zs)) ?_ ?_
    · k_extra "r_V16"
      refine s_lc ?_
      k_extra "r_V16"
      refine s_revL ?_
      k_extra "r_V16"
      refine s_fld ?_
      k_extra "r_V16"
      refine ⟨x, CS, dx, _, .ref c, rfl, S03 _ _ hx, SC.cl, SC.n2, lk_changes _ _ _, ?_⟩
      refine q_revL (SqL.of (S03 _ _ hc)) fun r H4 n4 S4 h4 => ?_
      have S04 := S03.trans S4
      have csr : ChsAt H4 ts.reverse zs.reverse := Paired.rev (cs.mono S04)
      refine ⟨r, rfl, ⟨_, SqL.of h4⟩, fun D nD => lc_list (K := K) (a := r) (xs := ts.reverse) (fun i H' => Same H4 H' ∧ ∃ us, H' D = some (.lst us) ∧ ChsAt H' us ((zs.reverse.take i).map (opp m))) ⟨Same.new nD, [], upd_same, .nil⟩ (fun i H' _ h => SqL.of (h.1 _ _ h4)) ?_ ?_⟩
      · rintro j y H5 hj ⟨S5, us, h5, c5⟩
        obtain ⟨z, ez, hy⟩ := Paired.get csr hj
        obtain ⟨t, vs, rfl, ht, _⟩ := id hy
        have lj := (List.getElem?_eq_some_iff.mp ez).1
        have lu : us.length = ((zs.reverse.take j).map (opp m)).length := Paired.length c5
        k_extra "r_V16"
        refine ⟨rfl, ?_⟩
        k_extra "r_V16"
        refine q_ixT (SqT.of (S5 _ _ ht)) (at_of (j := 0) rfl rfl) ?_
        k_extra "r_V16"
        refine ⟨_, z, _, rfl, hy.mono S5, fun t H6 n6 S6 h6 => ?_⟩
        have N : TupK H6 (upd H6 D (.lst (us ++ [.ref t]))) := TupK.but (S6 _ _ h5) (fun _ z => by cases z) But.upd
        refine ⟨us, S6 _ _ h5, szlt (by rw [List.length_map, List.length_take, List.length_reverse] at lu; omega), same_mut (S5.trans S6) nD, _, upd_same, ?_⟩
        rw [List.take_add_one, ez, List.map_append]
        exact ((c5.mono S6).tk N).snoc (h6.tk N)
      · rintro H5 ⟨S5, us, h5, c5⟩
        rw [List.length_reverse, lt, ← List.length_reverse, List.take_of_length_le (Nat.le_refl _)] at c5
        k_extra "r_V16"
        exact ⟨D, us, rfl, S04.free nD, S04.trans S5, h5, c5⟩
    clear S03
    rintro σ H4 ⟨D, us, rfl, nD, S4, hD, pD⟩
    k_extra "r_V16"
    refine s_make ?_
    refine s_meth ?_
    k_extra "r_V16"
    refine ⟨x, dx, _, rfl, S4 _ _ hx, stF_at, ?_⟩
    k_extra "r_V16"
    refine ⟨x, f, c, d, _, zs, _, m - 1, rfl, hs.mono S4, by omega, nd, by omega, run, fun L H5 ys nL S5 hL pL => ?_⟩
    rw [Run.lt hm] at pL
    k_extra "r_V16"
    have sp : ((runC ps zs).mergeSort pLe).Perm (runC ps zs) := List.mergeSort_perm _ _
    have ly : ys.length = _ := pL.len
    have lr := runC_len zs ps
    have ndr : ((runC ps zs).mergeSort pLe).Nodup := sp.nodup_iff.mpr (runC_nd run nd)
    have run' : Run ((runC ps zs).mergeSort pLe) 0 (opps m zs) := (run_opps run nd (by omega) fun z mz => by have := hm z mz; omega).perm sp.symm
    refine q_story hL pL (fun p mp => runC_nm nm run.nm p (sp.mem_iff.mp mp)) (by rw [ly, sp.length_eq]; omega) ndr (S5 _ _ hD) (pD.mono S5) run' fun x' H6 f' c' d' nx nf nc nd' S6 hs6 => ?_
    rw [sort_perm sp] at hs6
    have S05 := S4.trans S5
    exact k x' H6 f' c' d' (S05.free nx) (S05.free nf) (S05.free nc) (S05.free nd') (S05.trans S6) hs6
end
end Bt
namespace Bt
open PySem PySem.Spec PyProof.Rows L2 LamX NdefX
open PySem.W (dataLt dataLe alike AllAlike Sortable)
theorem words113_ : True := by
  k_with "s_W16" => first
    | ((with_reducible refine' s_var ?hv ?_); (case hv => exact rfl))
    | with_reducible first
      | refine' s_c ?_ | refine' s_op ?_ | refine' s_asg ?_ | refine' s_gname ?_ | refine' s_seq ?_ | refine' s_next ?_ | refine' s_ret ?_ | refine' s_ifS ?_ | refine' s_drop ?_ | refine' s_retN ?_ | refine' s_test ?_ | refine' s_B ?_ | refine' q_test ?_ | refine' s_int ?_ | refine' s_cons ?_ | refine' s_nil ?_ | refine' s_call ?_ | refine' s_CB ?_ | refine' s_andT ?_ | refine' s_orT ?_ | refine' s_notT ?_ | refine' s_andV ?_ | refine' s_orV ?_ | refine' s_notV ?_ | refine' s_ifV ?_ | refine' s_chain ?_ | refine' s_sl ?_ | refine' s_noPart ?_ | refine' s_part ?_ | refine' s_gsub ?_ | refine' s_BM ?_ | refine' s_tup ?_ | refine' s_lst ?_ | refine' q_add ?_ | refine' q_sub ?_ | refine' q_lt ?_ | refine' q_le ?_ | refine' q_gt ?_ | refine' q_ge ?_ | refine' s_ifT ?_ | refine' s_ifF ?_ | refine' s_yes ?_ | refine' s_iStr ?_ | refine' s_M0 ?_ | refine' s_for ?_ | refine' s_rng1 ?_ | refine' s_par ?_ | refine' s_gcons ?_ | refine' s_gnil ?_ | refine' s_iList ?_ | refine' s_iEnum ?_ | refine' s_raise1 ?_
      | (refine' q_mod ?hm ?_; (case hm => first | omega | decide))
    | dsimp only
  k_with "r_W16" => repeat (k_extra "s_W16")
  trivial
/-! ### turned of no number; calls of turned; the law's helpers -/
theorem stF_tu {f c d : Addr} : (stF f c d).lookup (Str.ofString "turned") = none := by
  unfold stF
  rw [lookup_putF, if_neg (by decide +kernel), lookup_putF, if_neg (by decide +kernel), lookup_putF, if_neg (by decide +kernel)]
  rfl
def spTurnedX (K : PySem.W.Frag) (CS CI : Addr) : Sp := fun vs H Q E => ∃ x f c d ps zs st v T, vs = [.ref x, v] ∧ StoAt CS H x f c d ps zs st ∧ Pl K H v T ∧ zs.length < 60 ∧ (∀ i, v = .int i → i < 1 ∨ ∃ z ∈ zs, i < z.1 + 2) ∧ ∀ H' d, Same H H' → H d = none → H' d = some (.xd [("value", v)]) → E (.ref CI) (some d) H'
section
variable {P : Program} {w : World} {K : PySem.W.Frag} {mg : Str → Option Value} {base : Heap} {CS CI : Addr}
theorem ok_story_turnedX {f : Addr} {fd : FuncData} (T : Txt K mg) (S : TxtS16 K mg) (SC : StoryC K mg CS) (TV : TxtV16 K mg) (XN : ExcF K mg "InvalidNumber" "value" CI) (F : Fun K "turned" "Story.turned" s_Story_turned f fd) : FnOk P w K mg base (L2.CX P w) 4 f fd ["self", "moments"] (spTurnedX K CS CI) := by
  refine F.okX sc_Story_turned (fun vs H Q E h => ?_) (fun cdv A outer s H vs Q E hr h => ?_)
  · obtain ⟨x, f, c, d, ps, zs, st, v, T, rfl, _⟩ := h
    rfl
  · obtain ⟨x, f, c, d, ps, zs, st, v, ty, rfl, hs, hv, lz, no, kk⟩ := h
    refine ⟨_, (pss_cons (ps_expr (pe_cxS (ok_check_least T S XN) hr (by decide) (takes_of rfl rfl rfl rfl) rfl (pa_cons (pv 1) (pa_cons (pe_callB (cr_max rfl) (by rfl) TV.n_max (by decide +kernel) (pa_cons (pe_op op_addU (pe_lst (pa_cons pe_int pa_nil)) (pe_lc (own := [("change", 3)]) (g := gName 3) (tt := tYes) (te := tOp rAddU (tOp (rIx K) (tVar 3) (tC (.int 0))) (tC (.int 2))) rfl sc_Story_turned.nd (pi_list (pe_fld (pv 0) rfl)) (blkOk_by (own := [("change", 3)]) (N := ["self", "moments", "changes", "change"]) (sc := defScope s_Story_turned) (by decide +kernel)) (fun _ _ _ _ _ => pg_name (i := 3) sc_Story_turned.nd rfl (Or.inl rfl)) (fun _ _ _ _ _ => pts_nil) (fun _ _ _ _ _ => (pe_op op_addU (pe_ix ix_seq (pv 3) pe_int (fun _ _ => rfl)) pe_int)))) pa_nil)) pa_nil)))) pss_deadA), ?_⟩
    obtain ⟨dx, hx⟩ := id hs.hx
    obtain ⟨ts, hc, cs⟩ := id hs.hc
    have lt : ts.length = zs.length := Paired.length cs
    k_extra "r_W16"
    refine s_callSD ?_
    k_extra "r_W16"
    refine q_newL (by show 1 ≤ sizeLine; decide) fun l1 H1 n1 S1 h1 => ?_
    refine s_lc ?_
    k_extra "r_W16"
    refine s_fld ?_
    k_extra "r_W16"
    refine ⟨x, CS, dx, _, .ref c, rfl, S1 _ _ hx, SC.cl, SC.n2, lk_changes _ _ _, ?_⟩
    have hc1 := S1 _ _ hc
    refine ⟨c, rfl, ⟨_, SqL.of hc1⟩, fun D nD => lc_list (K := K) (a := c) (xs := ts) (fun i H' => Same H1 H' ∧ H' D = some (.lst ((zs.take i).map fun z => .int (z.1 + 2)))) ⟨Same.new nD, upd_same⟩ (fun i H' _ h => SqL.of (h.1 _ _ hc1)) ?_ ?_⟩
    · rintro j y H2 hj ⟨S2, h2⟩
      obtain ⟨z, ez, t, us, rfl, ht, _⟩ := Paired.get cs hj
      have lj := (List.getElem?_eq_some_iff.mp ez).1
      k_extra "r_W16"
      refine ⟨rfl, ?_⟩
      k_extra "r_W16"
      refine q_ixT (SqT.of ((S1.trans S2) _ _ ht)) (at_of (j := 0) rfl rfl) ?_
      k_extra "r_W16"
      refine ⟨_, h2, szlt (by rw [List.length_map, List.length_take]; omega), same_mut S2 nD, ?_⟩
      rw [upd_same, List.take_add_one, ez, List.map_append]
      rfl
    rintro H2 ⟨S2, h2⟩
    rw [lt, List.take_of_length_le (Nat.le_refl _)] at h2
    k_extra "r_W16"
    refine q_cat (S2 _ _ h1) h2 (sz (by simp; omega)) fun l3 H3 n3 S3 h3 => ?_
    k_extra "r_W16"
    refine ⟨l3, (1 :: zs.map fun z => z.1 + 2), rfl, SqL.of (by rw [h3]; simp), by simp, fun M mM leM => ?_⟩
    have S03 := S1.trans (S2.trans S3)
    k_extra "r_W16"
    refine ⟨v, ty, M, rfl, hv.mono S03, .inr ⟨fun i e le => ?_, fun H4 d4 S4 n4 h4 => ?_⟩⟩
    · rcases no i e with lo | ⟨z, mz, lo⟩
      · have := leM 1 List.mem_cons_self
        omega
      · have := leM (z.1 + 2) (List.mem_cons_of_mem _ (List.mem_map_of_mem mz))
        omega
    · k_extra "r_W16"
      exact kk H4 d4 (S03.trans S4) (S03.free n4) h4
end
section
variable {X : Cx} {k : Nat} {CS CI : Addr} {o e : Expr} {to te : TE} {pos apos : Pos}
theorem pe_turned (T : Txt X.K X.mg) (N : TxtN X.K X.mg) (I : TxtI X.K X.mg) (C : TxtC16 X.K X.mg) (S : TxtS16 X.K X.mg) (SC : StoryC X.K X.mg CS) (SM : StoryM X.K CS) (TV : TxtV16 X.K X.mg) (hr : Room k X.A) (hk : 8 ≤ k) (ho : PE X o to) (ha : PE X e te)
    {pl : Sem Bool} (ht : eval (.Call (.Attribute o "turned" apos) [e] [] pos) X.env = (do
      let ov ← eval o X.env
      standAt apos.atName
      let (f, first) ← holding [ov] (getMethod ov "turned" pl)
      callWith pos f first (backTo pos (starEach [e] X.env)) (backToKw pos (keywordEach [] X.env))) := by rfl)
    (he : starEach [e] X.env = (false, eval e X.env) :: starEach [] X.env := by rfl) (hpl : (backTo pos (starEach [] X.env)).any (·.1) = false := by rfl) :
    PE X (.Call (.Attribute o "turned" apos) [e] [] pos) (tMeth CS "turned" (spTurned CS) [] E0 to (tCons te tNil)) := by
  obtain ⟨f, fd, m, F, b⟩ := SM.tu_
  exact pe_meth (pl := pl) ho SC.cl m (ok_story_turned T N I C S SC SM TV F) (hr.mono (by omega)) b .nil L2.pass0 (pa_cons ha pa_nil he) he hpl ht
theorem pe_turnedS {W : WX} (T : Txt X.K X.mg) (S : TxtS16 X.K X.mg) (SC : StoryC X.K X.mg CS) (SM : StoryM X.K CS) (TV : TxtV16 X.K X.mg) (XN : ExcF X.K X.mg "InvalidNumber" "value" CI) (hr : Room k X.A) (hk : 4 ≤ k) (tk : Takes X W) (ho : PE X o to) (ha : PE X e te)
    {pl : Sem Bool} (ht : eval (.Call (.Attribute o "turned" apos) [e] [] pos) X.env = (do
      let ov ← eval o X.env
      standAt apos.atName
      let (f, first) ← holding [ov] (getMethod ov "turned" pl)
      callWith pos f first (backTo pos (starEach [e] X.env)) (backToKw pos (keywordEach [] X.env))) := by rfl)
    (he : starEach [e] X.env = (false, eval e X.env) :: starEach [] X.env := by rfl) (hpl : (backTo pos (starEach [] X.env)).any (·.1) = false := by rfl) :
    PE X (.Call (.Attribute o "turned" apos) [e] [] pos) (tMethE CS "turned" (spTurnedX X.K CS CI) (fun σ => WE W σ) to (tCons te tNil)) := by
  obtain ⟨f, fd, m, F, b⟩ := SM.tu_
  exact pe_methE (pl := pl) ho SC.cl m (ok_story_turnedX T S SC TV XN F) (hr.mono hk) b (fun σ => passAt tk σ) (pa_cons ha pa_nil he) ht he hpl
end
section
variable {P : Program} {w : World} {K : PySem.W.Frag} {mg : Str → Option Value} {base : Heap} {CS CI : Addr}
def spRaised (K : PySem.W.Frag) (CS : Addr) : Sp := fun vs H Q _ => ∃ x f c d ps zs st v T, vs = [.ref x, v] ∧ StoAt CS H x f c d ps zs st ∧ Pl K H v T ∧ zs.length < 60 ∧ (∀ i, v = .int i → i < 1 ∨ ∃ z ∈ zs, i < z.1 + 2) ∧ ∀ D H', H D = none → Same H H' → H' D = some (.lst [v]) → Q (.ref D) H'
theorem ok__law_raised (T : Txt K mg) (S : TxtS16 K mg) (SC : StoryC K mg CS) (SM : StoryM K CS) (TV : TxtV16 K mg) (XN : ExcF K mg "InvalidNumber" "value" CI) (L4 : TxtL16 K mg) : Cal P w K mg base 6 "_law_raised" (spRaised K CS) := by
  refine L4.d_raised.cal sc__law_raised (fun vs H Q E h => ?_) (fun fn cdv A outer s H vs Q E hr h => ?_)
  · obtain ⟨x, f, c, d, ps, zs, st, v, T, rfl, _⟩ := h
    rfl
  · obtain ⟨x, f, c, d, ps, zs, st, v, ty, rfl, hs, hv, lz, no, k⟩ := h
    refine ⟨_, (pss_cons (ps_set (i := 2) sc__law_raised.nd rfl (.inl rfl) (pe_lst (pa_cons pe_str pa_nil)))
      (pss_cons (ps_try_as (i := 3) (tb := fun W => tDrop (tMethE CS "turned" (spTurnedX K CS CI) (fun σ => WE W σ) (tVar 0) (tCons (tVar 1) tNil))) (ts := fun a cls d => tAsg (tLst (tCons (tXf a cls d CI "value" (tVar 3)) tNil)) (gName 2)) (Wout := fun _ _ _ _ => False) rfl rfl sc__law_raised.nd rfl rfl ⟨rfl, by decide, Or.inl XN.g⟩ L2.takes0
        (fun W pn xe tk _ => pss_one (ps_expr (by exact (pe_turnedS T S SC SM TV XN hr (by decide) tk (pv 0) (pv 1)))))
        (fun a oe cls d pn hz hf => pss_one (ps_set (i := 2) sc__law_raised.nd rfl (Or.inl rfl) (by exact pe_lst (pa_cons (pe_xf XN.xf XN.no hz hf (pv 3)) pa_nil)))))
      (pss_one (ps_ret (pv 2))))), ?_⟩
    k_extra "r_W16"
    refine q_newL (by show 1 ≤ sizeLine; decide) fun l0 H1 n1 S1 h1 => ?_
    k_extra "r_W16"
    have hs1 := hs.mono S1
    obtain ⟨dx, hx⟩ := id hs1.hx
    refine ⟨.ref x, rfl, x, dx, _, rfl, hx, stF_tu, ?_⟩
    k_extra "r_W16"
    refine ⟨x, f, c, d, ps, zs, st, v, ty, rfl, hs1, hv.mono S1, lz, no, fun H2 d2 S2 nd hd => ⟨true, XN.te, fun _ a0 ha0 => ?_, fun q => Bool.noConfusion q⟩⟩
    k_extra "r_W16"
    refine ⟨_, rfl, rfl, rfl, d2, _, v, rfl, hd, (by simp [List.lookup]), ?_⟩
    k_extra "r_W16"
    refine q_newL (by show 1 ≤ sizeLine; decide) fun l1 H3 n3 S3 h3 => ?_
    k_extra "r_W16"
    exact k l1 H3 ((S1.trans S2).free n3) (S1.trans (S2.trans S3)) h3
def spChanges (CS : Addr) : Sp := fun vs H Q _ => ∃ x f c d ps zs st, vs = [.ref x] ∧ StoAt CS H x f c d ps zs st ∧ zs.length < 60 ∧ ∀ D H' us, H D = none → Same H H' → H' D = some (.lst us) → ChsAt H' us zs → Q (.ref D) H'
theorem ok__law_changes (T : Txt K mg) (L : TxtL K mg) (N : TxtN K mg) (S : TxtS16 K mg) (SC : StoryC K mg CS) (SM : StoryM K CS) (L4 : TxtL16 K mg) : Cal P w K mg base 5 "_law_changes" (spChanges CS) := by
  obtain ⟨fl, fdl, l1, l2, Fl, bl⟩ := SM.len
  obtain ⟨fg, fdg, g1, g2, g3, Fg, bg⟩ := SM.get
  refine L4.d_changes.cal sc__law_changes (fun vs H Q E h => ?_) (fun fn cdv A outer s H vs Q E hr h => ?_)
  · obtain ⟨x, f, c, d, ps, zs, st, rfl, _⟩ := h
    rfl
  · obtain ⟨x, f, c, d, ps, zs, st, rfl, hs, lz, k⟩ := h
    refine ⟨_, (pss_one (ps_ret (pe_lc (own := [("_law_k", 1)]) (g := gName 1) (tt := tYes) (te := tIxOwn CS (spGet CS) E0 (tVar 0) (tVar 1)) rfl sc__law_changes.nd (pi_range1 rfl L.n_range (pa_cons (pe_callB (call_lenOwn (ok_story_len N SC Fl) (hr.mono (by decide)) l1 l2 bl L2.pass0) (by rfl) N.n_len (by decide +kernel) (pa_cons (pv 0) pa_nil)) pa_nil)) (blkOk_by (own := [("_law_k", 1)]) (N := ["_law_story", "_law_k"]) (sc := defScope s__law_changes) (by decide +kernel)) (fun _ _ _ _ _ => pg_name (i := 1) sc__law_changes.nd rfl (Or.inl rfl)) (fun _ _ _ _ _ => pts_nil) (fun _ _ _ _ _ => by exact (pe_ixOwn (pv 0) (pv 1) (ok_story_get T N S SC Fg) (hr.mono (by decide)) g1 g2 g3 bg L2.pass0))))), ?_⟩
    k_extra "r_W16"
    refine s_lc (s_rng1 ?_)
    k_extra "r_W16"
    refine q_stoLen hs (by omega) ?_
    k_extra "r_W16"
    refine ⟨_, rfl, by omega, by omega, fun D nD => lc_range (lo := 0) (n := zs.length) (fun i H' => Same H H' ∧ ∃ ts', H' D = some (.lst ts') ∧ ChsAt H' ts' (zs.take i)) ⟨Same.new nD, [], upd_same, .nil⟩ ?_ ?_⟩
    · rintro i H2 hi ⟨S2, ts', h2, c2⟩
      have ez : zs[i]? = some zs[i] := List.getElem?_eq_getElem hi
      have lt2 : ts'.length = (zs.take i).length := Paired.length c2
      rw [List.length_take] at lt2
      have hs2 := hs.mono S2
      obtain ⟨dx2, hx2⟩ := id hs2.hx
      k_extra "r_W16"
      refine ⟨rfl, ?_⟩
      k_extra "r_W16"
      refine s_ixOwn ?_
      k_extra "r_W16"
      refine ⟨x, dx2, _, rfl, hx2, x, f, c, d, ps, zs, st, _, zs[i], rfl, hs2, by omega, ?_, fun y hy => ?_⟩
      · rw [show ((0 : Int) + (i : Int)).toNat = i by omega]
        exact ez
      have N : TupK H2 (upd H2 D (.lst (ts' ++ [y]))) := TupK.but h2 (fun _ z => by cases z) But.upd
      refine ⟨ts', h2, szlt (by omega), same_mut S2 nD, _, upd_same, ?_⟩
      rw [List.take_add_one, ez]
      exact (c2.tk N).snoc (hy.tk N)
    · rintro H2 ⟨S2, ts', h2, c2⟩
      rw [List.take_of_length_le (Nat.le_refl _)] at c2
      exact k D H2 ts' nD S2 h2 c2
end
end Bt
namespace Bt
open PySem PySem.Spec PyProof.Rows L2 LamX NdefX
open PySem.W (dataLt dataLe alike AllAlike Sortable)
theorem words114_ : True := by
  k_with "s_X16" => first
    | ((with_reducible refine' s_var ?hv ?_); (case hv => exact rfl))
    | with_reducible first
      | refine' s_c ?_ | refine' s_op ?_ | refine' s_asg ?_ | refine' s_gname ?_ | refine' s_seq ?_ | refine' s_next ?_ | refine' s_ret ?_ | refine' s_ifS ?_ | refine' s_drop ?_ | refine' s_retN ?_ | refine' s_test ?_ | refine' s_B ?_ | refine' q_test ?_ | refine' s_int ?_ | refine' s_cons ?_ | refine' s_nil ?_ | refine' s_call ?_ | refine' s_CB ?_ | refine' s_andT ?_ | refine' s_orT ?_ | refine' s_notT ?_ | refine' s_andV ?_ | refine' s_orV ?_ | refine' s_notV ?_ | refine' s_ifV ?_ | refine' s_chain ?_ | refine' s_sl ?_ | refine' s_noPart ?_ | refine' s_part ?_ | refine' s_gsub ?_ | refine' s_BM ?_ | refine' s_tup ?_ | refine' s_lst ?_ | refine' q_add ?_ | refine' q_sub ?_ | refine' q_lt ?_ | refine' q_le ?_ | refine' q_gt ?_ | refine' q_ge ?_ | refine' s_ifT ?_ | refine' s_ifF ?_ | refine' s_yes ?_ | refine' s_iStr ?_ | refine' s_M0 ?_ | refine' s_for ?_ | refine' s_rng1 ?_ | refine' s_par ?_ | refine' s_gcons ?_ | refine' s_gnil ?_ | refine' s_iList ?_ | refine' s_iEnum ?_ | refine' s_raise1 ?_
      | (refine' q_mod ?hm ?_; (case hm => first | omega | decide))
    | dsimp only
  k_with "r_X16" => repeat (k_extra "s_X16")
  trivial
/-! ### _law_right -/
theorem s_mono {te : TE} {σ : L2.St} {H : Hp} {Q : VK} (R : VK) (h : te σ H R) (k : ∀ v H1, R v H1 → Q v H1) : tMono te σ H Q := ⟨R, h, k⟩
theorem nm_qq : Nm "q" := ⟨by decide, by decide, by decide +kernel⟩
theorem lastG_le {b : Int} : ∀ {zs : List GC} {g : Int}, g ≤ b → (∀ z ∈ zs, z.1 ≤ b) → lastG g zs ≤ b
  | [], _, h, _ => h
  | z :: zs, _, _, h => lastG_le (zs := zs) (h z List.mem_cons_self) fun y my => h y (List.mem_cons_of_mem _ my)
theorem before_none {zs : List GC} {k : Int} (h : ∀ z ∈ zs, k ≤ z.1) : before k zs = [] := List.filter_eq_nil_iff.mpr fun y my => by
  have := h y my
  simp
  omega
section
variable {P : Program} {w : World} {K : PySem.W.Frag} {mg : Str → Option Value} {base : Heap} {CS CI : Addr}
def spRight (CS : Addr) : Sp := fun vs H Q _ => ∃ x g1 g2 g3 fl ys fs cl ts zs st m, vs = [.ref x, .ref fl, .ref cl, .int m] ∧ StoAt CS H x g1 g2 g3 (fs.mergeSort pLe) zs st ∧ H fl = some (.lst ys) ∧ Pls H ys fs ∧ H cl = some (.lst ts) ∧ ChsAt H ts zs ∧ 1 ≤ m ∧ (∀ z ∈ zs, z.1 + 2 ≤ m) ∧ fs.Nodup ∧ fs.length + zs.length < 30 ∧ (∀ p ∈ fs, NmP p) ∧ Run fs 0 zs ∧ ∀ H', Same H H' → Q (.bl true) H'
theorem ok__law_right (T : Txt K mg) (L : TxtL K mg) (N : TxtN K mg) (I : TxtI K mg) (C : TxtC16 K mg) (S : TxtS16 K mg) (SC : StoryC K mg CS) (SM : StoryM K CS) (TV : TxtV16 K mg) (L4 : TxtL16 K mg) : Cal P w K mg base 9 "_law_right" (spRight CS) := by
  obtain ⟨fi, fdi, i0, i1, i2, Fi, bi⟩ := SM.iadd
  obtain ⟨fe, fde, e1, e2, Fe, be⟩ := SM.eq
  refine L4.d_right.cal sc__law_right (fun vs H Q E h => ?_) (fun fn cdv A outer s H vs Q E hr h => ?_)
  · obtain ⟨x, g1, g2, g3, fl, ys, fs, cl, ts, zs, st, m, rfl, _⟩ := h
    rfl
  · obtain ⟨x, g1, g2, g3, fl, ys, fs, cl, ts, zs, st, m, rfl, hs, hf, pf, hc, cs, m1, hm, nd, hz, nf, run, k⟩ := h
    have hu := hr.units
    refine ⟨_, (pss_cons (ps_set (i := 4) sc__law_right.nd rfl (.inl rfl) (pe_turned T N I C S SC SM TV hr (by decide) (pv 0) (pv 3)))
      (pss_cons (ps_set (i := 5) sc__law_right.nd rfl (.inl rfl) (pe_callTy call_listOf (by rfl) T.n_list (by decide +kernel) (pa_cons (pv 1) pa_nil)))
      (pss_cons (ps_for PassesOwn.never rfl (pi_list (pv 2)) (pg_name (i := 6) sc__law_right.nd rfl (.inl rfl))
        (pss_one (ps_set (i := 5) sc__law_right.nd rfl (.inl rfl) (pe_c (ok__law_step L4) hr (by decide) rfl (pa_cons (pv 5) (pa_cons (pv 6) pa_nil))))))
      (C8.pss_cut (ps_setLc (i := 7) (own := [("_law_change_here", 6)]) (g := gName 6) (tt := tYes) (te := tCall spOpp [] E0 (tCons (tVar 6) (tCons (tOp rSub (tOp rSub (tVar 3) (tC (.int 2))) (tOp (rIx K) (tVar 6) (tC (.int 0)))) tNil))) rfl sc__law_right.nd rfl rfl (sw_true rfl rfl rfl (by decide +kernel)) (pi_list (pe_revL (pv 2))) (blkOk_by (own := [("_law_change_here", 6)]) (N := ["_law_story", "_law_first", "_law_changes_here", "_law_moments", "_law_back_here", "_law_last", "_law_change_here", "_law_due", "_law_k", "_law_there"]) (sc := defScope s__law_right) (by decide +kernel)) (fun _ _ _ _ _ => pg_name (i := 6) sc__law_right.nd rfl (Or.inl rfl)) (fun _ _ _ _ _ => pts_nil) (fun _ _ _ _ _ => by exact (pe_c (ok__law_back L4) hr (by decide) rfl (pa_cons (pv 6) (pa_cons (pe_op op_subU (pe_op op_subU (pv 3) pe_int) (pe_ix ix_seq (pv 6) pe_int (fun _ _ => rfl))) pa_nil)))))
      (C8.pss_cut (ps_if (PW.pt (pw_or (pt_not (pt_val (pe_callB call_isi (by rfl) T.n_isinstance (by decide +kernel) (pa_cons (pv 4) (pa_cons (pe_glob (v := .ref CS) (by rfl) SC.g rfl) pa_nil))))) (pw_or (pt_cmpR (op_neU hu) (pe_first T SC SM hr (by decide) (pv 4)) (pe_callB (cr_sortD hu) (by rfl) T.n_sorted (by decide +kernel) (pa_cons (pv 5) pa_nil)) (by rfl)) (pw_or1 (pt_cmpR (op_neU hu) (pe_c (ok__law_changes T L N S SC SM L4) hr (by decide) rfl (pa_cons (pv 4) pa_nil)) (pv 7) (by rfl)))))) (pss_one (ps_ret pe_bl)) pss_nil)
      (C8.pss_cut (ps_for PassesOwn.never rfl (pi_list (pv 2)) (pg_name (i := 6) sc__law_right.nd rfl (.inl rfl))
        (pss_one (ps_for PassesOwn.never rfl (pi_list (pe_lst (pa_cons (pe_ix ix_seq (pv 6) pe_int (fun _ _ => rfl)) (pa_cons (pe_op op_addU (pe_ix ix_seq (pv 6) pe_int (fun _ _ => rfl)) pe_int) pa_nil)))) (pg_name (i := 8) sc__law_right.nd rfl (.inl rfl))
            (pss_one (ps_if (pt_cmpR (op_neU hu) (pe_at T N I C S SC SM hr (by decide) (pv 4) (pe_op op_subU (pe_op op_subU (pv 3) pe_int) (pv 8))) (pe_at T N I C S SC SM hr (by decide) (pv 0) (pv 8)) (by rfl)) (pss_one (ps_ret pe_bl)) pss_nil)))))
      (C8.pss_cut (ps_if (PW.pt (pw_or (pt_not (pt_cmpR (op_eqOwn (ok_story_eq T SC SM Fe) (hr.mono (by decide)) e1 e2 be L2.pass0) (pe_turned T N I C S SC SM TV hr (by decide) (pv 4) (pv 3)) (pv 0) (by rfl))) (pw_or1 (pt_cmpR (op_neU hu) (pe_at T N I C S SC SM hr (by decide) (pv 4) (pe_op op_subU (pv 3) pe_int)) (pe_callB (cr_sortD hu) (by rfl) T.n_sorted (by decide +kernel) (pa_cons (pv 1) pa_nil)) (by rfl))))) (pss_one (ps_ret pe_bl)) pss_nil)
      (pss_cons (ps_set (i := 9) sc__law_right.nd rfl (.inl rfl) (pe_at T N I C S SC SM hr (by decide) (pv 4) (pv 3)))
      (C8.pss_cut (ps_aug (i := 4) sc__law_right.nd rfl (.inl rfl) (PE.mono (pe_ifExp (pt_cmpR (op_neU hu) (pv 9) (pe_lst pa_nil) (by rfl)) (pe_tup (pa_cons (pv 3) (pa_cons pe_str (pa_cons (pe_ix ix_seq (pv 9) pe_int (fun _ _ => rfl)) pa_nil)))) (pe_tup (pa_cons (pv 3) (pa_cons pe_str (pa_cons (pe_tup (pa_cons pe_str (pa_cons pe_str pa_nil))) pa_nil)))))) (in_iaddOwn (ok_story_iadd T N I C S SC Fi) (hr.mono (by decide)) i0 i1 i2 bi L2.pass0))
      (pss_one (ps_ret (pe_and (pe_cmpR (op_eqU hu) (pe_first T SC SM hr (by decide) (pv 0)) (pe_callB (cr_sortD hu) (by rfl) T.n_sorted (by decide +kernel) (pa_cons (pv 1) pa_nil)) (by rfl)) (pe_one (pe_cmpR (op_eqU hu) (pe_c (ok__law_changes T L N S SC SM L4) hr (by decide) rfl (pa_cons (pv 0) pa_nil)) (pv 2) (by rfl))))))))))))))), ?_⟩
    have lt : ts.length = zs.length := Paired.length cs
    obtain ⟨A1, eA⟩ : ∃ A1, A1 = fs.mergeSort pLe := ⟨_, rfl⟩
    have sA : A1.Perm fs := by rw [eA]; exact List.mergeSort_perm _ _
    rw [← eA] at hs
    have ndA : A1.Nodup := sA.nodup_iff.mpr nd
    have nmA : ∀ p ∈ A1, NmP p := fun p m => nf p (sA.mem_iff.mp m)
    have runA : Run A1 0 zs := run.perm sA.symm
    have lA : A1.length = fs.length := sA.length_eq
    have AA : A1.mergeSort pLe = A1 := by rw [sort_perm sA, eA]
    have nmz := run.nm
    obtain ⟨B1, eB⟩ : ∃ B1, B1 = (runC A1 zs).mergeSort pLe := ⟨_, rfl⟩
    have sB : B1.Perm (runC A1 zs) := by rw [eB]; exact List.mergeSort_perm _ _
    have ndB : B1.Nodup := sB.nodup_iff.mpr (runC_nd runA ndA)
    have nmB : ∀ p ∈ B1, NmP p := fun p m => runC_nm nmA nmz p (sB.mem_iff.mp m)
    have lB : B1.length ≤ fs.length + zs.length := by rw [sB.length_eq, ← lA]; exact runC_len zs A1
    have runB : Run B1 0 (opps m zs) := (run_opps runA ndA (by omega) fun z mz => by have := hm z mz; omega).perm sB.symm
    have lo := opps_len m zs
    have nmo : NmC (opps m zs) := opps_nm nmz
    have eB' : (runC fs zs).mergeSort pLe = B1 := by rw [eB]; exact (sort_perm (runC_perm zs sA)).symm
    have eT : (runC B1 (opps m zs)).mergeSort pLe = A1 := by
      rw [sort_perm ((runC_perm (opps m zs) sB).trans (undo m runA ndA)), AA]
    have zlo : ∀ z ∈ zs, 0 ≤ z.1 := run.low
    have bmo : ∀ z ∈ opps m zs, z.1 + 2 ≤ m := fun y my => by
      obtain ⟨z, mz, rfl⟩ := opps_mem my
      have := zlo z mz
      show m - 2 - z.1 + 2 ≤ m
      omega
    k_extra "r_X16"
    refine s_meth ?_
    k_extra "r_X16"
    obtain ⟨dx, hx⟩ := id hs.hx
    refine ⟨x, dx, _, rfl, hx, stF_tu, ?_⟩
    k_extra "r_X16"
    refine ⟨x, g1, g2, g3, A1, zs, st, m, rfl, hs, m1, hm, ndA, by omega, nmA, runA, fun b H1 b1 b2 b3 nb nb1 nb2 nb3 S1 hb => ?_⟩
    rw [← eB] at hb
    k_extra "r_X16"
    refine q_listL (SqL.of (S1 _ _ hf)) fun q0 H2 n2 S2 h2 => ?_
    have S02 := S1.trans S2
    k_extra "r_X16"
    refine ⟨cl, rfl, ⟨_, SqL.of (S02 _ _ hc)⟩, q_forL (K := K) (a := cl) (xs := ts) (fun i σ H' => ∃ q us v6, σ = [some (.ref x), some (.ref fl), some (.ref cl), some (.int m), some (.ref b), some (.ref q), v6, none, none, none] ∧ Same H2 H' ∧ H' q = some (.lst us) ∧ Pls H' us (runC fs (zs.take i))) ⟨q0, ys, _, rfl, Same.refl _, h2, pf.mono S02⟩ (fun i σ H' _ ⟨_, _, _, _, S, _⟩ => SqL.of (S _ _ (S02 _ _ hc))) ?_ ?_⟩
    · rintro i y σ H3 hy ⟨q, us, v6, rfl, S3, h3, p3⟩
      obtain ⟨z, ez, hz'⟩ := Paired.get cs hy
      obtain ⟨_, _, can, nz, l9⟩ := run.get ez
      have ly := p3.len
      k_extra "r_X16"
      refine ⟨q, us, _, y, z, rfl, h3, p3, runC_nm nf fun y m => nmz y (List.mem_of_mem_take m), hz'.mono (S02.trans S3), nz, can, by omega, fun q2 H4 us2 n4 S4 h4 p4 => ?_⟩
      k_extra "r_X16"
      refine ⟨q2, us2, _, rfl, S3.trans S4, h4, ?_⟩
      rw [runC_next fs ez]
      exact p4
    rintro σ H3 ⟨q, us, v6, rfl, S3, h3, p3⟩
    rw [lt, List.take_of_length_le (Nat.le_refl _)] at p3
    k_extra "r_X16"
    have S13 := S2.trans S3
    have S03 := S1.trans S13
    have hb3 := hb.mono S13
    clear h2 n2 S02 S2 S3 S1 S13 hb
    refine q_cut8 (M := fun σ H' => ∃ D vs v6, σ = [some (.ref x), some (.ref fl), some (.ref cl), some (.int m), some (.ref b), some (.ref q), v6, some (.ref D), none, none] ∧ Same H3 H' ∧ H' D = some (.lst vs) ∧ ChsAt H' vs (opps m zs)) ?_ ?_
    · k_extra "r_X16"
      refine s_lc ?_
      k_extra "r_X16"
      refine s_revL ?_
      k_extra "r_X16"
      refine q_revL (SqL.of (S03 _ _ hc)) fun r H4 n4 S4 h4 => ?_
      have csr : ChsAt H4 ts.reverse zs.reverse := Paired.rev (cs.mono (S03.trans S4))
      refine ⟨r, rfl, ⟨_, SqL.of h4⟩, fun D nD => lc_list (K := K) (a := r) (xs := ts.reverse) (fun i H' => Same H4 H' ∧ ∃ us, H' D = some (.lst us) ∧ ChsAt H' us ((zs.reverse.take i).map (opp m))) ⟨Same.new nD, [], upd_same, .nil⟩ (fun i H' _ h => SqL.of (h.1 _ _ h4)) ?_ ?_⟩
      · rintro j y H5 hj ⟨S5, us, h5, c5⟩
        obtain ⟨z, ez, hy⟩ := Paired.get csr hj
        obtain ⟨t, vs, rfl, ht, _⟩ := id hy
        have lj := (List.getElem?_eq_some_iff.mp ez).1
        have lu : us.length = ((zs.reverse.take j).map (opp m)).length := Paired.length c5
        k_extra "r_X16"
        refine ⟨rfl, ?_⟩
        k_extra "r_X16"
        refine q_ixT (SqT.of (S5 _ _ ht)) (at_of (j := 0) rfl rfl) ?_
        k_extra "r_X16"
        refine ⟨_, z, _, rfl, hy.mono S5, fun t H6 n6 S6 h6 => ?_⟩
        have N : TupK H6 (upd H6 D (.lst (us ++ [.ref t]))) := TupK.but (S6 _ _ h5) (fun _ z => by cases z) But.upd
        refine ⟨us, S6 _ _ h5, szlt (by rw [List.length_map, List.length_take, List.length_reverse] at lu; omega), same_mut (S5.trans S6) nD, _, upd_same, ?_⟩
        rw [List.take_add_one, ez, List.map_append]
        exact ((c5.mono S6).tk N).snoc (h6.tk N)
      · rintro H5 ⟨S5, us, h5, c5⟩
        rw [List.length_reverse, lt, ← List.length_reverse, List.take_of_length_le (Nat.le_refl _)] at c5
        k_extra "r_X16"
        exact ⟨D, us, _, rfl, S4.trans S5, h5, c5⟩
    rintro σ H4 ⟨D, vs, v6', rfl, S4, hD, cD⟩
    have hb4 := hb3.mono S4
    have S04 := S03.trans S4
    have h34 := S4 _ _ h3
    have p34 := p3.mono S4
    clear h3 p3 hb3 S03 S4
    refine q_cut8 (M := fun σ H' => ∃ v6, σ = [some (.ref x), some (.ref fl), some (.ref cl), some (.int m), some (.ref b), some (.ref q), v6, some (.ref D), none, none] ∧ Same H4 H') ?_ ?_
    · k_extra "r_X16"
      obtain ⟨db, xb⟩ := id hb4.hx
      refine ⟨.ref b, .ref CS, .ref CS, .ref CS, true, rfl, .own CS, .base (.ins xb SC.cl SC.i1 SC.i2 SC.i3 SC.i4), SM.kY, ?_⟩
      k_extra "r_X16"
      refine s_if0 rfl ?_
      refine s_prop ?_
      k_extra "r_X16"
      refine ⟨b, db, _, rfl, xb, b, b1, b2, b3, _, _, _, rfl, hb4, fun F H5 us5 n5 S5 h5 p5 => ?_⟩
      k_extra "r_X16"
      refine q_sortP (SqL.of (S5 _ _ h34)) (p34.mono S5) fun G H6 bs n6 S6 h6 p6 => ?_
      rw [eB'] at p6
      refine q_neD (.lst (SqL.of (S6 _ _ h5)) (p5.mono S6).dps) (.lst (SqL.of h6) p6.dps) (sh_pls nmB) (sh_pls nmB) ?_
      rw [show PyData.eqv (.list (B1.map dPl)) (.list (B1.map dPl)) = _ from eqv_pls _ _, decide_eq_true rfl]
      refine q_test (s_if0 rfl ?_)
      k_extra "r_X16"
      have S46 := S5.trans S6
      refine ⟨b, b1, b2, b3, B1, opps m zs, _, rfl, hb4.mono S46, by omega, fun D2 H7 us7 n7 S7 h7 c7 => ?_⟩
      have S47 := S46.trans S7
      k_extra "r_X16"
      refine q_neD (.lst (SqL.of h7) c7.dps) (.lst (SqL.of (S47 _ _ hD)) (cD.mono S47).dps) (sh_chs nmo) (sh_chs nmo) ?_
      rw [show PyData.eqv (.list ((opps m zs).map dCh)) (.list ((opps m zs).map dCh)) = true from eqv_self nmo]
      refine q_test (s_if0 rfl ?_)
      k_extra "r_X16"
      exact ⟨_, rfl, S47⟩
    clear h34 p34 hD cD
    rintro σ H5 ⟨v6, rfl, S5⟩
    have hb5 := hb4.mono S5
    have S05 := S04.trans S5
    clear hb4 S04 S5
    refine q_cut8 (M := fun σ H' => ∃ v6 v8, σ = [some (.ref x), some (.ref fl), some (.ref cl), some (.int m), some (.ref b), some (.ref q), v6, some (.ref D), v8, none] ∧ Same H5 H') ?_ ?_
    · k_extra "r_X16"
      refine ⟨cl, rfl, ⟨_, SqL.of (S05 _ _ hc)⟩, q_forL (K := K) (a := cl) (xs := ts) (fun i σ H' => ∃ v6 v8, σ = [some (.ref x), some (.ref fl), some (.ref cl), some (.int m), some (.ref b), some (.ref q), v6, some (.ref D), v8, none] ∧ Same H5 H') ⟨_, _, rfl, Same.refl _⟩ (fun i σ H' _ ⟨_, _, _, S⟩ => SqL.of (S _ _ (S05 _ _ hc))) ?_ ?_⟩
      · rintro i y σ H6 hy ⟨v6, v8, rfl, S6⟩
        obtain ⟨z, ez, t, us, rfl, ht, _⟩ := Paired.get cs hy
        have mz := List.mem_of_getElem? ez
        have z0 := zlo z mz
        have z2 := hm z mz
        have ht6 := (S05.trans S6) _ _ ht
        k_extra "r_X16"
        refine q_ixT (SqT.of ht6) (at_of (j := 0) rfl rfl) ?_
        k_extra "r_X16"
        refine q_ixT (SqT.of ht6) (at_of (j := 0) rfl rfl) ?_
        k_extra "r_X16"
        refine q_newL (by show 2 ≤ sizeLine; decide) fun l7 H7 n7 S7 h7 => ?_
        refine ⟨l7, rfl, ⟨_, SqL.of h7⟩, q_forL (K := K) (a := l7) (fun i σ H' => ∃ v8, σ = [some (.ref x), some (.ref fl), some (.ref cl), some (.int m), some (.ref b), some (.ref q), some (.ref t), some (.ref D), v8, none] ∧ Same H7 H') ⟨_, rfl, Same.refl _⟩ (fun i σ H' _ ⟨_, _, S⟩ => SqL.of (S _ _ h7)) ?_ ?_⟩
        · rintro i' y' σ H8 hy' ⟨v8', rfl, S8⟩
          obtain ⟨kk, k0, k1, rfl⟩ : ∃ kk : Int, 0 ≤ kk ∧ kk + 1 ≤ m ∧ y' = .int kk := by
            have m' := List.mem_of_getElem? hy'
            simp only [List.mem_cons, List.not_mem_nil, or_false] at m'
            rcases m' with rfl | rfl
            · exact ⟨_, z0, by omega, rfl⟩
            · exact ⟨_, by omega, by omega, rfl⟩
          have S58 := S6.trans (S7.trans S8)
          have hb8 := hb5.mono S58
          obtain ⟨db, xb⟩ := id hb8.hx
          k_extra "r_X16"
          refine s_meth ?_
          k_extra "r_X16"
          refine ⟨b, db, _, rfl, xb, stF_at, ?_⟩
          k_extra "r_X16"
          refine ⟨b, b1, b2, b3, B1, opps m zs, _, m - 1 - kk, rfl, hb8, by omega, ndB, by omega, runB, fun E9 H9 us9 n9 S9 h9 p9 => ?_⟩
          have hs9 := hs.mono ((S05.trans S58).trans S9)
          obtain ⟨dx9, hx9⟩ := id hs9.hx
          k_extra "r_X16"
          refine s_meth ?_
          k_extra "r_X16"
          refine ⟨x, dx9, _, rfl, hx9, stF_at, ?_⟩
          k_extra "r_X16"
          refine ⟨x, g1, g2, g3, A1, zs, _, kk, rfl, hs9, k0, ndA, by omega, runA, fun E10 H10 us10 n10 S10 h10 p10 => ?_⟩
          have e9 : (runC B1 (before (m - 1 - kk) (opps m zs))).mergeSort pLe = (runC A1 (before kk zs)).mergeSort pLe := sort_perm ((runC_perm _ sB).trans (at_back m kk runA ndA))
          rw [e9] at p9
          have nm9 : ∀ p ∈ (runC A1 (before kk zs)).mergeSort pLe, NmP p := fun p m => runC_nm nmA (fun y my => nmz y (List.mem_filter.mp my).1) p (List.mem_mergeSort.mp m)
          refine q_neD (.lst (SqL.of (S10 _ _ h9)) (p9.mono S10).dps) (.lst (SqL.of h10) p10.dps) (sh_pls nm9) (sh_pls nm9) ?_
          rw [show PyData.eqv (.list (((runC A1 (before kk zs)).mergeSort pLe).map dPl)) (.list (((runC A1 (before kk zs)).mergeSort pLe).map dPl)) = _ from eqv_pls _ _, decide_eq_true rfl]
          refine q_test (s_if0 rfl ?_)
          k_extra "r_X16"
          exact ⟨_, rfl, S8.trans (S9.trans S10)⟩
        · rintro σ H8 ⟨v8', rfl, S8⟩
          k_extra "r_X16"
          exact ⟨_, _, rfl, S6.trans (S7.trans S8)⟩
      · rintro σ H6 ⟨v6, v8, rfl, S6⟩
        k_extra "r_X16"
        exact ⟨_, _, rfl, S6⟩
    rintro σ H6 ⟨v6', v8, rfl, S6⟩
    have hb6 := hb5.mono S6
    have S06 := S05.trans S6
    clear hb5 S05 S6
    refine q_cut8 (M := fun σ H' => σ = [some (.ref x), some (.ref fl), some (.ref cl), some (.int m), some (.ref b), some (.ref q), v6', some (.ref D), v8, none] ∧ Same H6 H') ?_ ?_
    · obtain ⟨db, xb⟩ := id hb6.hx
      k_extra "r_X16"
      refine s_meth ?_
      k_extra "r_X16"
      refine ⟨b, db, _, rfl, xb, stF_tu, ?_⟩
      k_extra "r_X16"
      refine ⟨b, b1, b2, b3, B1, opps m zs, _, m, rfl, hb6, m1, bmo, ndB, by omega, nmB, runB, fun t H7 t1 t2 t3 _ _ _ _ S7 ht => ?_⟩
      rw [opps_opps, eT] at ht
      k_extra "r_X16"
      refine q_stoEq SC SM ht (hs.mono (S06.trans S7)) nmA nmA nmz nmz ?_
      rw [decide_eq_true rfl, eqv_self nmz]
      refine q_test (s_if0 rfl ?_)
      have hb7 := hb6.mono S7
      obtain ⟨db7, xb7⟩ := id hb7.hx
      k_extra "r_X16"
      refine s_meth ?_
      k_extra "r_X16"
      refine ⟨b, db7, _, rfl, xb7, stF_at, ?_⟩
      k_extra "r_X16"
      refine ⟨b, b1, b2, b3, B1, opps m zs, _, m - 1, rfl, hb7, by omega, ndB, by omega, runB, fun E8 H8 us8 n8 S8 h8 p8 => ?_⟩
      have S68 := S7.trans S8
      have e8 : (runC B1 (before (m - 1) (opps m zs))).mergeSort pLe = A1 := by rw [Run.lt bmo, eT]
      rw [e8] at p8
      k_extra "r_X16"
      refine q_sortP (SqL.of ((S06.trans S68) _ _ hf)) (pf.mono (S06.trans S68)) fun G H9 bs n9 S9 h9 p9 => ?_
      rw [← eA] at p9
      refine q_neD (.lst (SqL.of (S9 _ _ h8)) (p8.mono S9).dps) (.lst (SqL.of h9) p9.dps) (sh_pls nmA) (sh_pls nmA) ?_
      rw [show PyData.eqv (.list (A1.map dPl)) (.list (A1.map dPl)) = _ from eqv_pls _ _, decide_eq_true rfl]
      refine q_test (s_if0 rfl ?_)
      k_extra "r_X16"
      exact ⟨rfl, S68.trans S9⟩
    rintro σ H7 ⟨rfl, S7⟩
    have hb7 := hb6.mono S7
    have S07 := S06.trans S7
    clear hb6 S06 S7
    obtain ⟨db, xb⟩ := id hb7.hx
    k_extra "r_X16"
    refine s_meth ?_
    k_extra "r_X16"
    refine ⟨b, db, _, rfl, xb, stF_at, ?_⟩
    k_extra "r_X16"
    refine ⟨b, b1, b2, b3, B1, opps m zs, _, m, rfl, hb7, by omega, ndB, by omega, runB, fun E8 H8 us8 n8 S8 h8 p8 => ?_⟩
    rw [before_all fun z mz => by have := bmo z mz; omega, eT] at p8
    have hb8 := hb7.mono S8
    have S08 := S07.trans S8
    clear hb7 S07 db xb
    k_extra "r_X16"
    have sT : A1.Perm (runC B1 (opps m zs)) := by rw [← eT]; exact List.mergeSort_perm _ _
    refine q_cut8 (M := fun σ H' => σ = [some (.ref x), some (.ref fl), some (.ref cl), some (.int m), some (.ref b), some (.ref q), v6', some (.ref D), v8, some (.ref E8)] ∧ Same H H') ?_ ?_
    · k_extra "r_X16"
      refine s_aug ⟨_, rfl, ?_⟩
      refine s_mono (fun y H9 => Same H8 H9 ∧ ∃ z, ChAt H9 y z ∧ z.1 = m ∧ Can (runC B1 (opps m zs)) z.2 ∧ ∀ p ∈ z.2.pcs, NmP p) ?_ ?_
      · k_extra "r_X16"
        refine q_newL (by show 0 ≤ sizeLine; decide) fun l9 H9 n9 S9 h9 => ?_
        have h89 := S9 _ _ h8
        have p89 := p8.mono S9
        refine q_neD (.lst (SqL.of h89) p89.dps) (.lst (SqL.of h9) (Pls.dps .nil)) (sh_pls nmA) (sh_pls (ps := []) fun _ m => nomatch m) ?_
        rw [show PyData.eqv (.list (A1.map dPl)) (.list (([] : List Plc).map dPl)) = _ from eqv_pls _ _]
        by_cases e : A1 = []
        · rw [decide_eq_true e]
          refine q_test (s_if0 rfl ?_)
          k_extra "r_X16"
          refine q_newT (by show 2 ≤ sizeLine; decide) fun t1 H10 n10 S10 h10 => ?_
          k_extra "r_X16"
          refine q_newT (by show 3 ≤ sizeLine; decide) fun t2 H11 n11 S11 h11 => ?_
          rw [e] at sT
          refine ⟨S9.trans (S10.trans S11), (m, .add ("q", "q")), ⟨t2, _, rfl, h11, .cons ⟨t1, rfl, S11 _ _ h10⟩ .nil⟩, rfl, ⟨(fun p z => nomatch z), fun q _ mq => ?_⟩, fun p mp => ?_⟩
          · have := sT.mem_iff.mpr mq
            cases this
          · simp only [Ch.pcs, List.mem_cons, List.not_mem_nil, or_false] at mp
            rw [mp]
            exact ⟨nm_qq, nm_qq⟩
        · rw [decide_eq_false e]
          refine q_test (s_if1 rfl ?_)
          k_extra "r_X16"
          obtain ⟨p0, A2, eA2⟩ : ∃ p0 A2, A1 = p0 :: A2 := by
            cases A1 with
            | nil => exact absurd rfl e
            | cons a b => exact ⟨a, b, rfl⟩
          have mp0 : p0 ∈ A1 := by rw [eA2]; exact List.mem_cons_self
          rw [eA2] at p89
          cases p89 with
          | cons hp0 _ =>
            refine q_ixL (SqL.of h89) (at_of (j := 0) rfl rfl) ?_
            k_extra "r_X16"
            refine q_newT (by show 3 ≤ sizeLine; decide) fun t2 H11 n11 S11 h11 => ?_
            refine ⟨S9.trans S11, (m, .take p0), ⟨t2, _, rfl, h11, .cons (hp0.mono S11) .nil⟩, rfl, ⟨fun p z => ?_, (fun p z => nomatch z)⟩, fun p mp => ?_⟩
            · cases z
              exact sT.mem_iff.mp mp0
            · simp only [Ch.pcs, List.mem_cons, List.not_mem_nil, or_false] at mp
              rw [mp]
              exact nmA _ mp0
      · rintro y H9 ⟨S9, z, hy, gz, can, nz⟩
        have hb9 := hb8.mono S9
        obtain ⟨db, xb⟩ := id hb9.hx
        refine ⟨b, db, _, rfl, xb, b, b1, b2, b3, B1, opps m zs, _, y, z, rfl, hb9, hy, ?_, by omega, nz, can, by rw [← sT.length_eq]; omega, by omega, fun H10 h10 k10 => ⟨b, rfl, ?_⟩⟩
        · rw [gz]
          exact lastG_le (by omega) fun u mu => by have := bmo u mu; omega
        · exact ⟨rfl, fun a o e => k10 a o (fun z => by rw [z, nb2] at e; cases e) (fun z => by rw [z, nb3] at e; cases e) ((S08.trans S9) _ _ e)⟩
    clear h8 p8 hb8 S08 sT S8 n8
    rintro σ H9 ⟨rfl, S9⟩
    have hs9 := hs.mono S9
    obtain ⟨dx9, hx9⟩ := id hs9.hx
    k_extra "r_X16"
    refine s_prop ?_
    k_extra "r_X16"
    refine ⟨x, dx9, _, rfl, hx9, x, g1, g2, g3, _, _, _, rfl, hs9, fun F H10 us10 n10 S10 h10 p10 => ?_⟩
    k_extra "r_X16"
    refine q_sortP (SqL.of ((S9.trans S10) _ _ hf)) (pf.mono (S9.trans S10)) fun G H11 bs n11 S11 h11 p11 => ?_
    rw [← eA] at p11
    refine q_eqD (.lst (SqL.of (S11 _ _ h10)) (p10.mono S11).dps) (.lst (SqL.of h11) p11.dps) (sh_pls nmA) (sh_pls nmA) ?_
    rw [show PyData.eqv (.list (A1.map dPl)) (.list (A1.map dPl)) = _ from eqv_pls _ _, decide_eq_true rfl]
    refine ⟨_, rfl, s_if1 rfl ?_⟩
    k_extra "r_X16"
    have S011 := S9.trans (S10.trans S11)
    refine ⟨x, g1, g2, g3, A1, zs, _, rfl, hs.mono S011, by omega, fun D2 H12 us12 n12 S12 h12 c12 => ?_⟩
    have S012 := S011.trans S12
    k_extra "r_X16"
    refine q_eqD (.lst (SqL.of h12) c12.dps) (.lst (SqL.of (S012 _ _ hc)) (cs.mono S012).dps) (sh_chs nmz) (sh_chs nmz) ?_
    rw [show PyData.eqv (.list (zs.map dCh)) (.list (zs.map dCh)) = true from eqv_self nmz]
    exact k H12 S012
end
end Bt
namespace Bt
open PySem PySem.Spec PyProof.Rows L2 LamX NdefX
open PySem.W (dataLt dataLe alike AllAlike Sortable)
theorem words115_ : True := by
  k_with "s_LL16" => first
    | ((with_reducible refine' s_var ?hv ?_); (case hv => exact rfl))
    | with_reducible first
      | refine' s_c ?_ | refine' s_op ?_ | refine' s_asg ?_ | refine' s_gname ?_ | refine' s_seq ?_ | refine' s_next ?_ | refine' s_ret ?_ | refine' s_ifS ?_ | refine' s_drop ?_ | refine' s_retN ?_ | refine' s_test ?_ | refine' s_B ?_ | refine' q_test ?_ | refine' s_int ?_ | refine' s_cons ?_ | refine' s_nil ?_ | refine' s_call ?_ | refine' s_CB ?_ | refine' s_andT ?_ | refine' s_orT ?_ | refine' s_notT ?_ | refine' s_andV ?_ | refine' s_orV ?_ | refine' s_notV ?_ | refine' s_ifV ?_ | refine' s_chain ?_ | refine' s_sl ?_ | refine' s_noPart ?_ | refine' s_part ?_ | refine' s_gsub ?_ | refine' s_BM ?_ | refine' s_tup ?_ | refine' s_lst ?_ | refine' q_add ?_ | refine' q_sub ?_ | refine' q_lt ?_ | refine' q_le ?_ | refine' q_gt ?_ | refine' q_ge ?_ | refine' s_ifT ?_ | refine' s_ifF ?_ | refine' s_yes ?_ | refine' s_iStr ?_ | refine' s_M0 ?_ | refine' s_for ?_ | refine' s_rng1 ?_ | refine' s_par ?_ | refine' s_gcons ?_ | refine' s_gnil ?_ | refine' s_iList ?_ | refine' s_iEnum ?_ | refine' s_raise1 ?_
      | (refine' q_mod ?hm ?_; (case hm => first | omega | decide))
    | dsimp only
  k_with "r_LL16" => repeat (k_extra "s_LL16")
  trivial
/-! ### the law -/
theorem ten38 : (0 : Int) < (10 : Int) ^ (38 : Int).toNat := Int.pow_pos (by decide)
structure W16 (K : PySem.W.Frag) (CS : Addr) (H : Hp) (a : Addr) (ns : List Int) (fl cl x g1 g2 g3 : Addr) (ys ts : List V) (fs : List Plc) (zs : List GC) (st : List Plc) : Prop where
  sc : SqL K H a (ns.map V.int)
  hf : H fl = some (.lst ys)
  pf : Pls H ys fs
  hc : H cl = some (.lst ts)
  cs : ChsAt H ts zs
  sto : StoAt CS H x g1 g2 g3 (fs.mergeSort pLe) zs st
theorem W16.mono {K : PySem.W.Frag} {CS : Addr} {H H' : Hp} {a : Addr} {ns : List Int} {fl cl x g1 g2 g3 : Addr} {ys ts : List V} {fs : List Plc} {zs : List GC} {st : List Plc} (S : Same H H') (h : W16 K CS H a ns fl cl x g1 g2 g3 ys ts fs zs st) : W16 K CS H' a ns fl cl x g1 g2 g3 ys ts fs zs st :=
  ⟨SqL_monoN (ext_same S) h.sc, S _ _ h.hf, h.pf.mono S, S _ _ h.hc, h.cs.mono S, h.sto.mono S⟩
section
variable {P : Program} {w : World} {K : PySem.W.Frag} {mg : Str → Option Value} {base : Heap} {CS CI : Addr}
def spLaw (K : PySem.W.Frag) : Sp := fun vs H Q _ => ∃ (a : Addr) (ns : List Int), vs = [.ref a] ∧ SqL K H a (ns.map V.int) ∧ ns.length ≤ 63 ∧ ∀ H', Q (.bl true) H'
theorem ok_law {f : Addr} {fd : FuncData} (X0 : Txt K mg) (L : TxtL K mg) (NN : TxtN K mg) (I : TxtI K mg) (BW : TxtB K mg) (C : TxtC16 K mg) (S : TxtS16 K mg) (SC : StoryC K mg CS) (SM : StoryM K CS) (TV : TxtV16 K mg) (L4 : TxtL16 K mg) (XN : ExcF K mg "InvalidNumber" "value" CI)
    (F : Fun K "law" "law" s_law f fd) : FnOk P w K mg base CX0 10 f fd ["_law_script"] (spLaw K) := by
  refine F.ok sc_law (fun vs H Q E h => ?_) (fun cdv A outer s H vs Q E hr h => ?_)
  · obtain ⟨a, ns, rfl, _⟩ := h
    rfl
  · obtain ⟨a, ns, rfl, hs, h63, k⟩ := h
    have hu := hr.units
    refine ⟨_, (pss_cons (ps_for PassesOwn.never rfl (pi_range1 rfl L.n_range (pa_cons pe_int pa_nil)) (pg_name (i := 1) sc_law.nd rfl (.inl rfl))
        (pss_cons (ps_set (i := 2) sc_law.nd rfl (.inr rfl) (pe_c (ok__law_purse X0 L) hr (by decide) rfl (pa_cons (pv 0) (pa_cons (pv 1) pa_nil))))
          (pss_cons (ps_set (i := 3) sc_law.nd rfl (.inl rfl) (pe_c (ok__law_world L NN BW) hr (by decide) rfl (pa_cons (pv 2) pa_nil)))
          (C8.pss_cut (ps_setLc (i := 4) (own := [("_law_place", 11)]) (g := gName 11) (tt := tTest (tOp (rEqU K) (tCall spDraw [] E0 (tCons (tVar 2) (tCons (tC (.int 2)) tNil))) (tC (.int 0)))) (te := tVar 11) rfl sc_law.nd rfl rfl (sw_true rfl rfl rfl (by decide +kernel)) (pi_list (pv 3)) (blkOk_by (own := [("_law_place", 11)]) (N := ["_law_script", "_law_at", "_law_purse_here", "_law_places", "_law_first", "_law_changes_here", "_law_story", "_law_least", "_law_far", "_law_moments", "_law_value", "_law_place"]) (sc := defScope s_law) (by decide +kernel)) (fun _ _ _ _ _ => pg_name (i := 11) sc_law.nd rfl (Or.inl rfl)) (fun _ _ _ _ _ => by exact pts_one (pt_cmpR (op_eqU hu) (pe_c (ok__law_draw L) hr (by decide) rfl (pa_cons (pv 2) (pa_cons pe_int pa_nil))) pe_int (by rfl))) (fun _ _ _ _ _ => (pv 11)))
          (pss_cons (ps_set (i := 5) sc_law.nd rfl (.inl rfl) (pe_c (ok__law_course L NN L4) hr (by decide) rfl (pa_cons (pv 2) (pa_cons (pv 3) (pa_cons (pv 4) pa_nil)))))
          (C8.pss_cut (ps_set (i := 6) sc_law.nd rfl (.inl rfl) (pe_story X0 NN I C S SC hr (by decide) (pv 4) (pv 5)))
          (C8.pss_cut (ps_set (i := 7) sc_law.nd rfl (.inl rfl) (pe_ifExp (pt_cmpR (op_neU hu) (pv 5) (pe_lst pa_nil) (by rfl)) (pe_op op_addU (pe_ix ix_seq (pe_ix ix_seq (pv 5) (pe_un un_neg pe_int) (fun _ _ => rfl)) pe_int (fun _ _ => rfl)) pe_int) pe_int))
          (pss_cons (ps_set (i := 8) sc_law.nd rfl (.inl rfl) (pe_op op_modU (pe_callTy call_int1 (by rfl) X0.n_int (by decide +kernel) (pa_cons (pe_callB (cr_sum rfl) (by rfl) L.n_sum (by decide +kernel) (pa_cons (pe_slice sl_list (pv 0) (po_some (pv 1)) (po_some (pe_op op_addU (pv 1) pe_int))) pa_nil)) pa_nil)) (pe_op op_powW pe_int pe_int)))
          (C8.pss_cut (ps_for PassesOwn.never rfl (pi_list (pe_lst (pa_cons (pv 7) (pa_cons (pe_op op_addU (pv 7) pe_int) (pa_cons (pe_op op_addU (pv 7) (pv 8)) pa_nil))))) (pg_name (i := 9) sc_law.nd rfl (.inl rfl))
            (pss_one (ps_if (pt_not (pt_val (pe_c (ok__law_right X0 L NN I C S SC SM TV L4) hr (by decide) rfl (pa_cons (pv 6) (pa_cons (pv 4) (pa_cons (pv 5) (pa_cons (pv 9) pa_nil))))))) (pss_one (ps_ret pe_bl)) pss_nil)))
          (C8.pss_cut (ps_for PassesOwn.never rfl (pi_list (pe_lst (pa_cons (pe_op op_subU (pv 7) pe_int) (pa_cons pe_int (pa_cons (pe_op op_subU pe_int pe_int) (pa_cons (pe_op op_subU pe_int (pv 8)) (pa_cons pe_bl (pa_cons pe_bl (pa_cons pe_non (pa_cons pe_str (pa_cons (pe_lst (pa_cons pe_int pa_nil)) pa_nil))))))))))) (pg_name (i := 10) sc_law.nd rfl (.inl rfl))
            (pss_one (ps_if (pt_cmpR (op_neI (n := 1) (room66 hr)) (pe_c (ok__law_raised X0 S SC SM TV XN L4) hr (by decide) rfl (pa_cons (pv 6) (pa_cons (pv 10) pa_nil))) (pe_lst (pa_cons (pv 10) pa_nil)) (by rfl)) (pss_one (ps_ret pe_bl)) pss_nil)))
          (pss_one (ps_if (PW.pt (pw_or (pt_cmpR (op_neU hu) (pe_first X0 SC SM hr (by decide) (pv 6)) (pe_callB (cr_sortD hu) (by rfl) X0.n_sorted (by decide +kernel) (pa_cons (pv 4) pa_nil)) (by rfl)) (pw_or1 (pt_cmpR (op_neU hu) (pe_c (ok__law_changes X0 L NN S SC SM L4) hr (by decide) rfl (pa_cons (pv 6) pa_nil)) (pv 5) (by rfl))))) (pss_one (ps_ret pe_bl)) pss_nil))))))))))))
      (pss_one (ps_ret pe_bl))), ?_⟩
    k_extra "r_LL16"
    refine ⟨4, rfl, by decide, by decide, q_forR (lo := 0) (n := 4) (fun i σ H' => ∃ v1 v2 v3 v4 v5 v6 v7 v8 v9 v10 : Option V, σ = [some (.ref a), v1, v2, v3, v4, v5, v6, v7, v8, v9, v10, none] ∧ SqL K H' a (ns.map V.int)) ⟨_, _, _, _, _, _, _, _, _, _, rfl, hs⟩ ?_ ?_⟩
    rotate_left
    · rintro σ H0 ⟨v1, v2, v3, v4, v5, v6, v7, v8, v9, v10, rfl, hs0⟩
      k_extra "r_LL16"
      exact k H0
    rintro i σ H0 hi ⟨v1, v2, v3, v4, v5, v6, v7, v8, v9, v10, rfl, hs0⟩
    k_extra "r_LL16"
    refine ⟨a, ns, 0 + (i : Int), rfl, hs0, by omega, by omega, fun pu H1 np S1 hp1 => ?_⟩
    k_extra "r_LL16"
    refine ⟨pu, rfl, hp1, fun lp H2 xs fs0 nns nlp hl pls nf nn f3 n6 hp2 b2 => ?_⟩
    have sc2 : Sc1 K H2 pu a (ns.map V.int) := (Sc1.of hs0 np S1).but b2
    have wl : xs.length = (worldOf fs0 nns).length := pls.len
    have wz : xs.length ≤ 18 := by
      rw [wl, worldOf_len]
      exact Nat.le_trans (Nat.mul_le_mul f3 n6) (by decide)
    have wne : xs ≠ [] := fun z => by
      have : 0 < (worldOf fs0 nns).length := by
        rw [worldOf_len]
        exact Nat.mul_pos (List.length_pos_iff.mpr nf.2.2) (List.length_pos_iff.mpr nn.2.2)
      rw [← wl, z] at this
      cases this
    have wd := worldOf_nodup nf.2.1 nn.2.1
    have wn : ∀ q ∈ worldOf fs0 nns, NmP q := fun q hq => ⟨nf.1 _ (worldOf_mem hq).1, nn.1 _ (worldOf_mem hq).2⟩
    obtain ⟨ps, eps⟩ : ∃ ps, ps = worldOf fs0 nns := ⟨_, rfl⟩
    rw [← eps] at wl wd wn pls
    have npu : ∀ {b : Addr}, H1 b = none → b ≠ pu := fun e z => by obtain ⟨_, _, _, e2, _⟩ := hp1; rw [z, e2] at e; cases e
    have lpu := npu nlp
    clear eps nf nn f3 n6 b2
    k_extra "r_LL16"
    have pu2 : ∀ {b : Addr} {H' : Hp}, Purse H' pu → H' b = none → b ≠ pu := fun p e z => by obtain ⟨_, _, _, e2, _⟩ := p; rw [z, e2] at e; cases e
    refine q_cut8 (M := fun σ H' => ∃ fl ys fs, σ = [some (.ref a), some (.int (0 + (i : Int))), some (.ref pu), some (.ref lp), some (.ref fl), v5, v6, v7, v8, v9, v10, none] ∧ fl ≠ pu ∧ Purse H' pu ∧ But pu H2 H' ∧ H' fl = some (.lst ys) ∧ Pls H' ys fs ∧ fs.Sublist ps) ?_ ?_
    · k_extra "r_LL16"
      refine s_lc ?_
      k_extra "r_LL16"
      refine ⟨lp, rfl, ⟨_, SqL.of hl⟩, fun D nD => ?_⟩
      have Dpu := pu2 hp2 nD
      refine lc_list (K := K) (a := lp) (xs := xs) (fun i H' => ∃ ys fs, H' D = some (.lst ys) ∧ Pls H' ys fs ∧ fs.Sublist (ps.take i) ∧ Purse H' pu ∧ But pu H2 H') ⟨[], [], upd_same, .nil, by simp, hp2.mono (Same.new nD), But.of (Same.new nD)⟩ (fun i H' _ ⟨_, _, _, _, _, _, B⟩ => SqL.of (B _ _ lpu hl)) ?_ ?_
      · rintro jj y H3 hy ⟨ys, fs, hD, pf, sb, pu3, b3⟩
        obtain ⟨q, eq, hq⟩ := Pls.get2 pls hy
        k_extra "r_LL16"
        refine ⟨rfl, ?_⟩
        k_extra "r_LL16"
        refine ⟨pu, 2, rfl, pu3, by decide, by decide, fun m H4 m0 m1 pu4 b4 => ?_⟩
        refine q_eq rfl ?_
        generalize decide (V.int m = V.int 0) = bb
        have tk := TupK.nl (NL.pu pu3 b4)
        have hD4 := b4 _ _ Dpu hD
        have b24 := b3.trans b4
        have lf : fs.length ≤ jj := Nat.le_trans sb.length_le (by rw [List.length_take]; omega)
        have ly : ys.length = fs.length := pf.len
        have jl := (List.getElem?_eq_some_iff.mp hy).1
        have sb1 : fs.Sublist (ps.take (jj + 1)) := sb.trans (List.take_sublist_take_left (by omega))
        refine q_test ?_
        cases bb with
        | false =>
          rw [if_neg (by decide)]
          exact ⟨ys, fs, hD4, pf.tk tk, sb1, pu4, b24⟩
        | true =>
          rw [if_pos rfl]
          k_extra "r_LL16"
          have N : TupK H4 (upd H4 D (.lst (ys ++ [y]))) := TupK.but hD4 (fun _ z => by cases z) But.upd
          refine ⟨ys, hD4, szlt (by omega), _, fs ++ [q], upd_same, ((pf.tk tk).tk N).app (.cons ((hq.tk (TupK.nl (NL.pu hp2 b24))).tk N) .nil), ?_, ?_, fun c o nc e => (upd_ne (ne_of_none e nD)).trans (b24 _ _ nc e)⟩
          · rw [List.take_add_one, eq]
            exact sb.append (List.Sublist.refl _)
          · obtain ⟨_, _, _, e2, h2⟩ := pu4
            exact ⟨_, _, _, (upd_ne Dpu.symm).trans e2, h2⟩
      · rintro H3 ⟨ys, fs, hD, pf, sb, pu3, b3⟩
        k_extra "r_LL16"
        exact ⟨D, ys, fs, rfl, Dpu, pu3, b3, hD, pf, sb.trans (List.take_sublist _ _)⟩
    rintro σ H3 ⟨fl, ys, fs, rfl, flpu, pu3, b3, hf3, pf3, sub⟩
    have nf : ∀ p ∈ fs, NmP p := fun p m => wn p (sub.subset m)
    have ndf : fs.Nodup := wd.sublist sub
    have lf : fs.length ≤ 18 := Nat.le_trans sub.length_le (by omega)
    have ly : ys.length = fs.length := pf3.len
    k_extra "r_LL16"
    refine ⟨pu, lp, xs, ps, fl, ys, fs, rfl, pu3, b3 _ _ lpu hl, lpu, pls.tk (TupK.nl (NL.pu hp2 b3)), wne, by omega, wn, hf3, flpu, pf3, nf, by omega, fun cl H4 ts zs n4 hc4 cs4 run lz zps pu4 b4 => ?_⟩
    have sc4 := (sc2.but (b3.trans b4)).sq
    have hf4 := b4 _ _ flpu hf3
    have pf4 := pf3.tk (TupK.nl (NL.pu pu3 b4))
    clear hl pls hf3 pf3 n4 b3 b4 sc2 hp2 pu3 pu4 wne wd wn sub zps npu hs0 hp1 S1 np nlp
    k_extra "r_LL16"
    have sp : (fs.mergeSort pLe).Perm fs := List.mergeSort_perm _ _
    refine q_cut8 (M := fun σ H' => ∃ x g1 g2 g3, σ = [some (.ref a), some (.int (0 + (i : Int))), some (.ref pu), some (.ref lp), some (.ref fl), some (.ref cl), some (.ref x), v7, v8, v9, v10, none] ∧ W16 K CS H' a ns fl cl x g1 g2 g3 ys ts fs zs (runC fs zs)) ?_ ?_
    · k_extra "r_LL16"
      refine s_make ?_
      k_extra "r_LL16"
      refine q_story hf4 pf4 nf (by omega) ndf hc4 cs4 run fun x H5 f5 c5 d5 _ n1 n2 n3 S5 hs5 => ?_
      exact ⟨x, f5, c5, d5, rfl, SqL_monoN (ext_same S5) sc4, S5 _ _ hf4, pf4.mono S5, S5 _ _ hc4, cs4.mono S5, hs5⟩
    clear sc4 hf4 pf4 hc4 cs4 pu2
    rintro σ H4 ⟨x, g1, g2, g3, rfl, w4⟩
    have lt : ts.length = zs.length := Paired.length w4.cs
    have nmz := run.nm
    have nmS : ∀ p ∈ fs.mergeSort pLe, NmP p := fun p m => nf p (sp.mem_iff.mp m)
    k_extra "r_LL16"
    refine q_cut8 (M := fun σ H' => ∃ least : Int, σ = [some (.ref a), some (.int (0 + (i : Int))), some (.ref pu), some (.ref lp), some (.ref fl), some (.ref cl), some (.ref x), some (.int least), v8, v9, v10, none] ∧ W16 K CS H' a ns fl cl x g1 g2 g3 ys ts fs zs (runC fs zs) ∧ 1 ≤ least ∧ (∀ z ∈ zs, z.1 + 2 ≤ least) ∧ (least - 1 < 1 ∨ ∃ z ∈ zs, least - 1 < z.1 + 2)) ?_ ?_
    · k_extra "r_LL16"
      refine q_newL (by show 0 ≤ sizeLine; decide) fun l0 H5 n5 S5 h5 => ?_
      have w5 := w4.mono S5
      refine q_neD (.lst (SqL.of w5.hc) w5.cs.dps) (.lst (SqL.of h5) (ChsAt.dps (zs := []) .nil)) (sh_chs run.nm) (sh_chs (zs := []) (fun _ m => by cases m)) ?_
      by_cases e : zs = []
      · subst e
        rw [show PyData.eqv (.list (([] : List GC).map dCh)) (.list (([] : List GC).map dCh)) = true from eqv_self (zs := []) (fun _ m => by cases m)]
        refine q_test (s_if0 rfl ?_)
        k_extra "r_LL16"
        exact ⟨1, rfl, w5, by decide, (fun _ m => by cases m), .inl (by decide)⟩
      · rw [show PyData.eqv (.list (zs.map dCh)) (.list (([] : List GC).map dCh)) = false from eqv_len (zs := zs) (zs' := []) (fun z => e (List.length_eq_zero_iff.mp z))]
        refine q_test (s_if1 rfl ?_)
        have et : ts ≠ [] := fun z => e (List.length_eq_zero_iff.mp (by rw [← lt, z]; rfl))
        k_extra "r_LL16"
        refine ⟨_, rfl, ?_⟩
        obtain ⟨t0, t, et0⟩ : ∃ t0 t, ts = t0 ++ [t] := ⟨ts.dropLast, ts.getLast et, (List.dropLast_concat_getLast et).symm⟩
        refine q_ixL (SqL.of w5.hc) (by rw [et0]; exact atI_last _ _) ?_
        obtain ⟨z', ez', hz'⟩ := Paired.get w5.cs (i := t0.length) (x := t) (by rw [et0]; simp)
        obtain ⟨b, us, rfl, hb, _⟩ := hz'
        k_extra "r_LL16"
        refine q_ixT (SqT.of hb) (at_of (j := 0) rfl rfl) ?_
        k_extra "r_LL16"
        have el : lastG 0 zs = z'.1 := by
          have := lastG_next 0 ez'
          rwa [List.take_of_length_le (by rw [← lt, et0]; simp)] at this
        have mz' := List.mem_of_getElem? ez'
        have up := run.low z' mz'
        exact ⟨z'.1 + 2, rfl, w5, by omega, fun z m => by have := run.top z m; omega, .inr ⟨z', mz', by omega⟩⟩
    clear w4
    rintro σ H4 ⟨least, rfl, w4, one, top, bad⟩
    k_extra "r_LL16"
    refine q_slL w4.sc fun l9 H5 n9 S9 h9 => ?_
    obtain ⟨ms, em⟩ := cutV_ints (ns := ns) (lo := some (0 + (i : Int))) (hi := some (0 + (i : Int) + 1))
    rw [em] at h9
    have w5 := w4.mono S9
    k_extra "r_LL16"
    refine ⟨l9, ms, rfl, SqL.of h9, ?_⟩
    k_extra "r_LL16"
    refine .inl ⟨_, rfl, ?_⟩
    k_extra "r_LL16"
    refine ⟨_, _, rfl, rfl, ⟨by decide, by decide +kernel⟩, ?_⟩
    refine q_mod ten38 ?_
    have far0 := Int.emod_nonneg ms.sum (Int.ne_of_gt ten38)
    generalize ms.sum % (10 : Int) ^ (38 : Int).toNat = far at far0
    clear w4 h9
    k_extra "r_LL16"
    refine q_cut8 (M := fun σ H' => ∃ v9, σ = [some (.ref a), some (.int (0 + (i : Int))), some (.ref pu), some (.ref lp), some (.ref fl), some (.ref cl), some (.ref x), some (.int least), some (.int far), v9, v10, none] ∧ Same H5 H') ?_ ?_
    · k_extra "r_LL16"
      refine q_newL (by show 3 ≤ sizeLine; decide) fun l6 H6 n6 S6 h6 => ?_
      refine ⟨l6, rfl, ⟨_, SqL.of h6⟩, q_forL (K := K) (a := l6) (fun i' σ H' => ∃ v9, σ = [some (.ref a), some (.int (0 + (i : Int))), some (.ref pu), some (.ref lp), some (.ref fl), some (.ref cl), some (.ref x), some (.int least), some (.int far), v9, v10, none] ∧ Same H6 H') ⟨_, rfl, Same.refl _⟩ (fun i' σ H' _ ⟨_, _, S⟩ => SqL.of (S _ _ h6)) ?_ ?_⟩
      · rintro i' y σ H7 hy ⟨v9, rfl, S7⟩
        obtain ⟨m, m1, rfl⟩ : ∃ m : Int, least ≤ m ∧ y = .int m := by
          have m' := List.mem_of_getElem? hy
          simp only [List.mem_cons, List.not_mem_nil, or_false] at m'
          rcases m' with rfl | rfl | rfl
          · exact ⟨_, Int.le_refl _, rfl⟩
          · exact ⟨_, by omega, rfl⟩
          · exact ⟨_, by omega, rfl⟩
        have w7 := w5.mono (S6.trans S7)
        k_extra "r_LL16"
        refine ⟨x, g1, g2, g3, fl, ys, fs, cl, ts, zs, _, m, rfl, w7.sto, w7.hf, w7.pf, w7.hc, w7.cs, by omega, fun z mz => by have := top z mz; omega, ndf, by omega, nf, run, fun H8 S8 => ?_⟩
        k_extra "r_LL16"
        refine s_if0 rfl ?_
        k_extra "r_LL16"
        exact ⟨_, rfl, S7.trans S8⟩
      · rintro σ H7 ⟨v9, rfl, S7⟩
        k_extra "r_LL16"
        exact ⟨_, rfl, S6.trans S7⟩
    rintro σ H6 ⟨v9', rfl, S6⟩
    have w6 := w5.mono S6
    clear w5 S6
    k_extra "r_LL16"
    refine q_cut8 (M := fun σ H' => ∃ v10, σ = [some (.ref a), some (.int (0 + (i : Int))), some (.ref pu), some (.ref lp), some (.ref fl), some (.ref cl), some (.ref x), some (.int least), some (.int far), v9', v10, none] ∧ Same H6 H') ?_ ?_
    · k_extra "r_LL16"
      refine q_newL (by show 1 ≤ sizeLine; decide) fun o10 H10 n10 S10 h10 => ?_
      k_extra "r_LL16"
      refine q_newL (by show 9 ≤ sizeLine; decide) fun l11 H11 n11 S11 h11 => ?_
      refine ⟨l11, rfl, ⟨_, SqL.of h11⟩, q_forL (K := K) (a := l11) (fun i' σ H' => ∃ v10, σ = [some (.ref a), some (.int (0 + (i : Int))), some (.ref pu), some (.ref lp), some (.ref fl), some (.ref cl), some (.ref x), some (.int least), some (.int far), v9', v10, none] ∧ Same H11 H') ⟨_, rfl, Same.refl _⟩ (fun i' σ H' _ ⟨_, _, S⟩ => SqL.of (S _ _ h11)) ?_ ?_⟩
      · rintro i' v σ H12 hv ⟨v10, rfl, S12⟩
        have w12 := w6.mono (S10.trans (S11.trans S12))
        have pv : (∃ T, Pl K H12 v T) ∧ (∀ i, v = .int i → i < 1 ∨ ∃ z ∈ zs, i < z.1 + 2) ∧ SelfV K H12 v := by
          have m1 := List.mem_of_getElem? hv
          simp only [List.mem_cons, List.not_mem_nil, or_false] at m1
          rcases m1 with rfl | rfl | rfl | rfl | rfl | rfl | rfl | rfl | rfl
          · exact ⟨⟨_, Pl.int⟩, (fun i e => by injection e with e; subst e; exact bad), .int⟩
          · exact ⟨⟨_, Pl.int⟩, (fun i e => by injection e with e; exact .inl (by omega)), .int⟩
          · exact ⟨⟨_, Pl.int⟩, (fun i e => by injection e with e; exact .inl (by omega)), .int⟩
          · exact ⟨⟨_, Pl.int⟩, (fun i e => by injection e with e; exact .inl (by omega)), .int⟩
          · exact ⟨⟨_, Pl.bl⟩, (fun i e => by cases e), .bl⟩
          · exact ⟨⟨_, Pl.bl⟩, (fun i e => by cases e), .bl⟩
          · exact ⟨⟨_, Pl.non⟩, (fun i e => by cases e), .non⟩
          · exact ⟨⟨_, Pl.str⟩, (fun i e => by cases e), .str (by decide +kernel)⟩
          · exact ⟨⟨_, Pl.lst ((S11.trans S12) _ _ h10)⟩, (fun i e => by cases e), .ref _⟩
        obtain ⟨⟨T, pT⟩, no, sv⟩ := pv
        k_extra "r_LL16"
        refine ⟨x, g1, g2, g3, _, zs, _, v, T, rfl, w12.sto, pT, by omega, no, fun D H13 nD S13 hD => ?_⟩
        k_extra "r_LL16"
        refine q_newL (by show 1 ≤ sizeLine; decide) fun l14 H14 n14 S14 h14 => ?_
        refine ⟨D, l14, _, _, _, rfl, rfl, .inl ⟨SqL.of (S14 _ _ hD), SqL.of h14⟩, selfs (xs := [v]) (fun y hy => by rw [List.mem_singleton.mp hy]; exact sv.mono (S13.trans S14)), ?_⟩
        refine q_test (s_if0 rfl ?_)
        k_extra "r_LL16"
        exact ⟨_, rfl, S12.trans (S13.trans S14)⟩
      · rintro σ H12 ⟨v10, rfl, S12⟩
        k_extra "r_LL16"
        exact ⟨_, rfl, S10.trans (S11.trans S12)⟩
    rintro σ H10 ⟨v10', rfl, S10⟩
    have w10 := w6.mono S10
    clear w6 S10
    obtain ⟨dx10, hx10⟩ := id w10.sto.hx
    k_extra "r_LL16"
    refine s_prop ?_
    k_extra "r_LL16"
    refine ⟨x, dx10, _, rfl, hx10, x, g1, g2, g3, _, zs, _, rfl, w10.sto, fun D H11 us nD S11 hD pD => ?_⟩
    have w11 := w10.mono S11
    k_extra "r_LL16"
    refine q_sortP (SqL.of w11.hf) w11.pf fun B H12 bs n12 S12 hB pB => ?_
    have w12 := w11.mono S12
    refine q_neD (.lst (SqL.of (S12 _ _ hD)) (pD.mono S12).dps) (.lst (SqL.of hB) pB.dps) (sh_pls nmS) (sh_pls nmS) ?_
    rw [show PyData.eqv (.list ((fs.mergeSort pLe).map dPl)) (.list ((fs.mergeSort pLe).map dPl)) = _ from eqv_pls _ _, decide_eq_true rfl]
    refine q_test (s_if0 rfl ?_)
    k_extra "r_LL16"
    refine ⟨x, g1, g2, g3, _, zs, _, rfl, w12.sto, by omega, fun D2 H13 us13 n13 S13 h13 c13 => ?_⟩
    have w13 := w12.mono S13
    k_extra "r_LL16"
    refine q_neD (.lst (SqL.of h13) c13.dps) (.lst (SqL.of w13.hc) w13.cs.dps) (sh_chs nmz) (sh_chs nmz) ?_
    rw [show PyData.eqv (.list (zs.map dCh)) (.list (zs.map dCh)) = true from eqv_self nmz]
    refine q_test (s_if0 rfl ?_)
    k_extra "r_LL16"
    exact ⟨_, _, _, _, _, _, _, _, _, _, rfl, w13.sc⟩
end
end Bt
namespace Bt
open PySem PySem.Spec PyProof.Rows L2
/-! ### what the top has written, and the law's own head -/
theorem all_mk {l : PySem.W.OpenLaw} {w : World} {K : PySem.W.Frag} {h : Heap} {mg : Str → Option Value} {fa f_is_whole f_is_name f_is_place f_is_place_list f_is_change f_goes f_comes f_is_possible f_carry_out f_opposite f_check_least f_check_index f_may_come f__standing_behind f__law_purse f__law_draw f__law_name f__law_names f__law_world f__law_step f__law_change f__law_course f__law_changes f__law_back f__law_raised f__law_right f_law C_InvalidNumber f_x_InvalidNumber T_x_InvalidNumber N_InvalidNumber CSt f_Si T_Si f_Sl f_Sg f_Sa f_Se f_St f_Su p_Sf f_Sf : Addr} {od_is_whole an_is_whole od_is_name an_is_name od_is_place an_is_place od_is_place_list an_is_place_list od_is_change an_is_change od_goes an_goes od_comes an_comes od_is_possible an_is_possible od_carry_out an_carry_out od_opposite an_opposite od_check_least an_check_least od_check_index an_check_index od_may_come an_may_come od__standing_behind an__standing_behind od__law_purse an__law_purse od__law_draw an__law_draw od__law_name an__law_name od__law_names an__law_names od__law_world an__law_world od__law_step an__law_step od__law_change an__law_change od__law_course an__law_course od__law_changes an__law_changes od__law_back an__law_back od__law_raised an__law_raised od__law_right an__law_right od_law an_law od_x_InvalidNumber an_x_InvalidNumber odTS od_Si an_Si od_Sl an_Sl od_Sg an_Sg od_Sa an_Sa od_Se an_Se od_St an_St od_Su an_Su od_Sf an_Sf : Option Addr} {sl_is_whole sl_is_name sl_is_place sl_is_place_list sl_is_change sl_goes sl_comes sl_is_possible sl_carry_out sl_opposite sl_check_least sl_check_index sl_may_come sl__standing_behind sl__law_purse sl__law_draw sl__law_name sl__law_names sl__law_world sl__law_step sl__law_change sl__law_course sl__law_changes sl__law_back sl__law_raised sl__law_right sl_law sl_x_InvalidNumber slTS sl_Si sl_Sl sl_Sg sl_Sa sl_Se sl_St sl_Su sl_Sf : Array (Option Value)} {oc_is_whole kV_is_whole dc_is_whole pm_is_whole cd_is_whole ct_is_whole oc_is_name kV_is_name dc_is_name pm_is_name cd_is_name ct_is_name oc_is_place kV_is_place dc_is_place pm_is_place cd_is_place ct_is_place oc_is_place_list kV_is_place_list dc_is_place_list pm_is_place_list cd_is_place_list ct_is_place_list oc_is_change kV_is_change dc_is_change pm_is_change cd_is_change ct_is_change oc_goes kV_goes dc_goes pm_goes cd_goes ct_goes oc_comes kV_comes dc_comes pm_comes cd_comes ct_comes oc_is_possible kV_is_possible dc_is_possible pm_is_possible cd_is_possible ct_is_possible oc_carry_out kV_carry_out dc_carry_out pm_carry_out cd_carry_out ct_carry_out oc_opposite kV_opposite dc_opposite pm_opposite cd_opposite ct_opposite oc_check_least kV_check_least dc_check_least pm_check_least cd_check_least ct_check_least oc_check_index kV_check_index dc_check_index pm_check_index cd_check_index ct_check_index oc_may_come kV_may_come dc_may_come pm_may_come cd_may_come ct_may_come oc__standing_behind kV__standing_behind dc__standing_behind pm__standing_behind cd__standing_behind ct__standing_behind oc__law_purse kV__law_purse dc__law_purse pm__law_purse cd__law_purse ct__law_purse oc__law_draw kV__law_draw dc__law_draw pm__law_draw cd__law_draw ct__law_draw oc__law_name kV__law_name dc__law_name pm__law_name cd__law_name ct__law_name oc__law_names kV__law_names dc__law_names pm__law_names cd__law_names ct__law_names oc__law_world kV__law_world dc__law_world pm__law_world cd__law_world ct__law_world oc__law_step kV__law_step dc__law_step pm__law_step cd__law_step ct__law_step oc__law_change kV__law_change dc__law_change pm__law_change cd__law_change ct__law_change oc__law_course kV__law_course dc__law_course pm__law_course cd__law_course ct__law_course oc__law_changes kV__law_changes dc__law_changes pm__law_changes cd__law_changes ct__law_changes oc__law_back kV__law_back dc__law_back pm__law_back cd__law_back ct__law_back oc__law_raised kV__law_raised dc__law_raised pm__law_raised cd__law_raised ct__law_raised oc__law_right kV__law_right dc__law_right pm__law_right cd__law_right ct__law_right oc_law kV_law dc_law pm_law cd_law ct_law oc_x_InvalidNumber kV_x_InvalidNumber dc_x_InvalidNumber pm_x_InvalidNumber cd_x_InvalidNumber ct_x_InvalidNumber ocTS oc_Si kV_Si dc_Si pm_Si cd_Si ct_Si oc_Sl kV_Sl dc_Sl pm_Sl cd_Sl ct_Sl oc_Sg kV_Sg dc_Sg pm_Sg cd_Sg ct_Sg oc_Sa kV_Sa dc_Sa pm_Sa cd_Sa ct_Sa oc_Se kV_Se dc_Se pm_Se cd_Se ct_Se oc_St kV_St dc_St pm_St cd_St ct_St oc_Su kV_Su dc_Su pm_Su cd_Su ct_Su oc_Sf kV_Sf dc_Sf pm_Sf cd_Sf ct_Sf : Value} {tk_LETTERS tk_LONGEST_NAME : Tok} {nm_InvalidNumber q_InvalidNumber : Str} {bs_InvalidNumber : List Value} {CB_InvalidNumber : Addr} {sn_InvalidNumber : List Str} {sub_InvalidNumber : List Value} {ab_InvalidNumber : Bool} {col_InvalidNumber : Option Bool} {dd_InvalidNumber : Option Addr} {m0_InvalidNumber m1_InvalidNumber m2_InvalidNumber m3_InvalidNumber m5_InvalidNumber : Option Value} {ocT_InvalidNumber : Value} {odT_InvalidNumber : Option Addr} {nT_InvalidNumber : Nat} {slT_InvalidNumber : Array (Option Value)} {nTS : Nat} {rSf : List Value} (X : K.In h) (G : h.Ns mainGlobals mg) (hfa : mg "law" = some (.ref fa))
    (z_isinstance : PySem.W.nsIn K mainGlobals "isinstance" = some none)
    (z_int : PySem.W.nsIn K mainGlobals "int" = some none)
    (z_bool : PySem.W.nsIn K mainGlobals "bool" = some none)
    (z_str : PySem.W.nsIn K mainGlobals "str" = some none)
    (z_sorted : PySem.W.nsIn K mainGlobals "sorted" = some none)
    (z_tuple : PySem.W.nsIn K mainGlobals "tuple" = some none)
    (z_list : PySem.W.nsIn K mainGlobals "list" = some none)
    (z_set : PySem.W.nsIn K mainGlobals "set" = some none)
    (z_range : PySem.W.nsIn K mainGlobals "range" = some none)
    (z_sum : PySem.W.nsIn K mainGlobals "sum" = some none)
    (z_len : PySem.W.nsIn K mainGlobals "len" = some none)
    (z_all : PySem.W.nsIn K mainGlobals "all" = some none)
    (z_max : PySem.W.nsIn K mainGlobals "max" = some none)
    (v_LETTERS : PySem.W.nsIn K mainGlobals "LETTERS" = some (some (.str alphaS tk_LETTERS)))
    (v_LONGEST_NAME : PySem.W.nsIn K mainGlobals "LONGEST_NAME" = some (some (.int 8 tk_LONGEST_NAME)))
    (a_is_whole : PySem.W.nsIn K mainGlobals "is_whole" = some (some (.ref f_is_whole)))
    (l_is_whole : K.lookup f_is_whole = some ⟨oc_is_whole, od_is_whole, .func (PySem.W.fnOf "is_whole" "is_whole" (defArgs s_is_whole) (defBody s_is_whole) (defScope s_is_whole) .none kV_is_whole dc_is_whole pm_is_whole an_is_whole cd_is_whole ct_is_whole), sl_is_whole⟩)
    (c_is_whole : PySem.W.codeIn K cd_is_whole "is_whole" = true)
    (k_is_whole : PySem.W.keepIn K (.ref f_is_whole) = true)
    (a_is_name : PySem.W.nsIn K mainGlobals "is_name" = some (some (.ref f_is_name)))
    (l_is_name : K.lookup f_is_name = some ⟨oc_is_name, od_is_name, .func (PySem.W.fnOf "is_name" "is_name" (defArgs s_is_name) (defBody s_is_name) (defScope s_is_name) .none kV_is_name dc_is_name pm_is_name an_is_name cd_is_name ct_is_name), sl_is_name⟩)
    (c_is_name : PySem.W.codeIn K cd_is_name "is_name" = true)
    (k_is_name : PySem.W.keepIn K (.ref f_is_name) = true)
    (a_is_place : PySem.W.nsIn K mainGlobals "is_place" = some (some (.ref f_is_place)))
    (l_is_place : K.lookup f_is_place = some ⟨oc_is_place, od_is_place, .func (PySem.W.fnOf "is_place" "is_place" (defArgs s_is_place) (defBody s_is_place) (defScope s_is_place) .none kV_is_place dc_is_place pm_is_place an_is_place cd_is_place ct_is_place), sl_is_place⟩)
    (c_is_place : PySem.W.codeIn K cd_is_place "is_place" = true)
    (k_is_place : PySem.W.keepIn K (.ref f_is_place) = true)
    (a_is_place_list : PySem.W.nsIn K mainGlobals "is_place_list" = some (some (.ref f_is_place_list)))
    (l_is_place_list : K.lookup f_is_place_list = some ⟨oc_is_place_list, od_is_place_list, .func (PySem.W.fnOf "is_place_list" "is_place_list" (defArgs s_is_place_list) (defBody s_is_place_list) (defScope s_is_place_list) .none kV_is_place_list dc_is_place_list pm_is_place_list an_is_place_list cd_is_place_list ct_is_place_list), sl_is_place_list⟩)
    (c_is_place_list : PySem.W.codeIn K cd_is_place_list "is_place_list" = true)
    (k_is_place_list : PySem.W.keepIn K (.ref f_is_place_list) = true)
    (a_is_change : PySem.W.nsIn K mainGlobals "is_change" = some (some (.ref f_is_change)))
    (l_is_change : K.lookup f_is_change = some ⟨oc_is_change, od_is_change, .func (PySem.W.fnOf "is_change" "is_change" (defArgs s_is_change) (defBody s_is_change) (defScope s_is_change) .none kV_is_change dc_is_change pm_is_change an_is_change cd_is_change ct_is_change), sl_is_change⟩)
    (c_is_change : PySem.W.codeIn K cd_is_change "is_change" = true)
    (k_is_change : PySem.W.keepIn K (.ref f_is_change) = true)
    (a_goes : PySem.W.nsIn K mainGlobals "goes" = some (some (.ref f_goes)))
    (l_goes : K.lookup f_goes = some ⟨oc_goes, od_goes, .func (PySem.W.fnOf "goes" "goes" (defArgs s_goes) (defBody s_goes) (defScope s_goes) .none kV_goes dc_goes pm_goes an_goes cd_goes ct_goes), sl_goes⟩)
    (c_goes : PySem.W.codeIn K cd_goes "goes" = true)
    (k_goes : PySem.W.keepIn K (.ref f_goes) = true)
    (a_comes : PySem.W.nsIn K mainGlobals "comes" = some (some (.ref f_comes)))
    (l_comes : K.lookup f_comes = some ⟨oc_comes, od_comes, .func (PySem.W.fnOf "comes" "comes" (defArgs s_comes) (defBody s_comes) (defScope s_comes) .none kV_comes dc_comes pm_comes an_comes cd_comes ct_comes), sl_comes⟩)
    (c_comes : PySem.W.codeIn K cd_comes "comes" = true)
    (k_comes : PySem.W.keepIn K (.ref f_comes) = true)
    (a_is_possible : PySem.W.nsIn K mainGlobals "is_possible" = some (some (.ref f_is_possible)))
    (l_is_possible : K.lookup f_is_possible = some ⟨oc_is_possible, od_is_possible, .func (PySem.W.fnOf "is_possible" "is_possible" (defArgs s_is_possible) (defBody s_is_possible) (defScope s_is_possible) .none kV_is_possible dc_is_possible pm_is_possible an_is_possible cd_is_possible ct_is_possible), sl_is_possible⟩)
    (c_is_possible : PySem.W.codeIn K cd_is_possible "is_possible" = true)
    (k_is_possible : PySem.W.keepIn K (.ref f_is_possible) = true)
    (a_carry_out : PySem.W.nsIn K mainGlobals "carry_out" = some (some (.ref f_carry_out)))
    (l_carry_out : K.lookup f_carry_out = some ⟨oc_carry_out, od_carry_out, .func (PySem.W.fnOf "carry_out" "carry_out" (defArgs s_carry_out) (defBody s_carry_out) (defScope s_carry_out) .none kV_carry_out dc_carry_out pm_carry_out an_carry_out cd_carry_out ct_carry_out), sl_carry_out⟩)
    (c_carry_out : PySem.W.codeIn K cd_carry_out "carry_out" = true)
    (k_carry_out : PySem.W.keepIn K (.ref f_carry_out) = true)
    (a_opposite : PySem.W.nsIn K mainGlobals "opposite" = some (some (.ref f_opposite)))
    (l_opposite : K.lookup f_opposite = some ⟨oc_opposite, od_opposite, .func (PySem.W.fnOf "opposite" "opposite" (defArgs s_opposite) (defBody s_opposite) (defScope s_opposite) .none kV_opposite dc_opposite pm_opposite an_opposite cd_opposite ct_opposite), sl_opposite⟩)
    (c_opposite : PySem.W.codeIn K cd_opposite "opposite" = true)
    (k_opposite : PySem.W.keepIn K (.ref f_opposite) = true)
    (a_check_least : PySem.W.nsIn K mainGlobals "check_least" = some (some (.ref f_check_least)))
    (l_check_least : K.lookup f_check_least = some ⟨oc_check_least, od_check_least, .func (PySem.W.fnOf "check_least" "check_least" (defArgs s_check_least) (defBody s_check_least) (defScope s_check_least) .none kV_check_least dc_check_least pm_check_least an_check_least cd_check_least ct_check_least), sl_check_least⟩)
    (c_check_least : PySem.W.codeIn K cd_check_least "check_least" = true)
    (k_check_least : PySem.W.keepIn K (.ref f_check_least) = true)
    (a_check_index : PySem.W.nsIn K mainGlobals "check_index" = some (some (.ref f_check_index)))
    (l_check_index : K.lookup f_check_index = some ⟨oc_check_index, od_check_index, .func (PySem.W.fnOf "check_index" "check_index" (defArgs s_check_index) (defBody s_check_index) (defScope s_check_index) .none kV_check_index dc_check_index pm_check_index an_check_index cd_check_index ct_check_index), sl_check_index⟩)
    (c_check_index : PySem.W.codeIn K cd_check_index "check_index" = true)
    (k_check_index : PySem.W.keepIn K (.ref f_check_index) = true)
    (a_may_come : PySem.W.nsIn K mainGlobals "may_come" = some (some (.ref f_may_come)))
    (l_may_come : K.lookup f_may_come = some ⟨oc_may_come, od_may_come, .func (PySem.W.fnOf "may_come" "may_come" (defArgs s_may_come) (defBody s_may_come) (defScope s_may_come) .none kV_may_come dc_may_come pm_may_come an_may_come cd_may_come ct_may_come), sl_may_come⟩)
    (c_may_come : PySem.W.codeIn K cd_may_come "may_come" = true)
    (k_may_come : PySem.W.keepIn K (.ref f_may_come) = true)
    (a__standing_behind : PySem.W.nsIn K mainGlobals "_standing_behind" = some (some (.ref f__standing_behind)))
    (l__standing_behind : K.lookup f__standing_behind = some ⟨oc__standing_behind, od__standing_behind, .func (PySem.W.fnOf "_standing_behind" "_standing_behind" (defArgs s__standing_behind) (defBody s__standing_behind) (defScope s__standing_behind) .none kV__standing_behind dc__standing_behind pm__standing_behind an__standing_behind cd__standing_behind ct__standing_behind), sl__standing_behind⟩)
    (c__standing_behind : PySem.W.codeIn K cd__standing_behind "_standing_behind" = true)
    (k__standing_behind : PySem.W.keepIn K (.ref f__standing_behind) = true)
    (a__law_purse : PySem.W.nsIn K mainGlobals "_law_purse" = some (some (.ref f__law_purse)))
    (l__law_purse : K.lookup f__law_purse = some ⟨oc__law_purse, od__law_purse, .func (PySem.W.fnOf "_law_purse" "_law_purse" (defArgs s__law_purse) (defBody s__law_purse) (defScope s__law_purse) .none kV__law_purse dc__law_purse pm__law_purse an__law_purse cd__law_purse ct__law_purse), sl__law_purse⟩)
    (c__law_purse : PySem.W.codeIn K cd__law_purse "_law_purse" = true)
    (k__law_purse : PySem.W.keepIn K (.ref f__law_purse) = true)
    (a__law_draw : PySem.W.nsIn K mainGlobals "_law_draw" = some (some (.ref f__law_draw)))
    (l__law_draw : K.lookup f__law_draw = some ⟨oc__law_draw, od__law_draw, .func (PySem.W.fnOf "_law_draw" "_law_draw" (defArgs s__law_draw) (defBody s__law_draw) (defScope s__law_draw) .none kV__law_draw dc__law_draw pm__law_draw an__law_draw cd__law_draw ct__law_draw), sl__law_draw⟩)
    (c__law_draw : PySem.W.codeIn K cd__law_draw "_law_draw" = true)
    (k__law_draw : PySem.W.keepIn K (.ref f__law_draw) = true)
    (a__law_name : PySem.W.nsIn K mainGlobals "_law_name" = some (some (.ref f__law_name)))
    (l__law_name : K.lookup f__law_name = some ⟨oc__law_name, od__law_name, .func (PySem.W.fnOf "_law_name" "_law_name" (defArgs s__law_name) (defBody s__law_name) (defScope s__law_name) .none kV__law_name dc__law_name pm__law_name an__law_name cd__law_name ct__law_name), sl__law_name⟩)
    (c__law_name : PySem.W.codeIn K cd__law_name "_law_name" = true)
    (k__law_name : PySem.W.keepIn K (.ref f__law_name) = true)
    (a__law_names : PySem.W.nsIn K mainGlobals "_law_names" = some (some (.ref f__law_names)))
    (l__law_names : K.lookup f__law_names = some ⟨oc__law_names, od__law_names, .func (PySem.W.fnOf "_law_names" "_law_names" (defArgs s__law_names) (defBody s__law_names) (defScope s__law_names) .none kV__law_names dc__law_names pm__law_names an__law_names cd__law_names ct__law_names), sl__law_names⟩)
    (c__law_names : PySem.W.codeIn K cd__law_names "_law_names" = true)
    (k__law_names : PySem.W.keepIn K (.ref f__law_names) = true)
    (a__law_world : PySem.W.nsIn K mainGlobals "_law_world" = some (some (.ref f__law_world)))
    (l__law_world : K.lookup f__law_world = some ⟨oc__law_world, od__law_world, .func (PySem.W.fnOf "_law_world" "_law_world" (defArgs s__law_world) (defBody s__law_world) (defScope s__law_world) .none kV__law_world dc__law_world pm__law_world an__law_world cd__law_world ct__law_world), sl__law_world⟩)
    (c__law_world : PySem.W.codeIn K cd__law_world "_law_world" = true)
    (k__law_world : PySem.W.keepIn K (.ref f__law_world) = true)
    (a__law_step : PySem.W.nsIn K mainGlobals "_law_step" = some (some (.ref f__law_step)))
    (l__law_step : K.lookup f__law_step = some ⟨oc__law_step, od__law_step, .func (PySem.W.fnOf "_law_step" "_law_step" (defArgs s__law_step) (defBody s__law_step) (defScope s__law_step) .none kV__law_step dc__law_step pm__law_step an__law_step cd__law_step ct__law_step), sl__law_step⟩)
    (c__law_step : PySem.W.codeIn K cd__law_step "_law_step" = true)
    (k__law_step : PySem.W.keepIn K (.ref f__law_step) = true)
    (a__law_change : PySem.W.nsIn K mainGlobals "_law_change" = some (some (.ref f__law_change)))
    (l__law_change : K.lookup f__law_change = some ⟨oc__law_change, od__law_change, .func (PySem.W.fnOf "_law_change" "_law_change" (defArgs s__law_change) (defBody s__law_change) (defScope s__law_change) .none kV__law_change dc__law_change pm__law_change an__law_change cd__law_change ct__law_change), sl__law_change⟩)
    (c__law_change : PySem.W.codeIn K cd__law_change "_law_change" = true)
    (k__law_change : PySem.W.keepIn K (.ref f__law_change) = true)
    (a__law_course : PySem.W.nsIn K mainGlobals "_law_course" = some (some (.ref f__law_course)))
    (l__law_course : K.lookup f__law_course = some ⟨oc__law_course, od__law_course, .func (PySem.W.fnOf "_law_course" "_law_course" (defArgs s__law_course) (defBody s__law_course) (defScope s__law_course) .none kV__law_course dc__law_course pm__law_course an__law_course cd__law_course ct__law_course), sl__law_course⟩)
    (c__law_course : PySem.W.codeIn K cd__law_course "_law_course" = true)
    (k__law_course : PySem.W.keepIn K (.ref f__law_course) = true)
    (a__law_changes : PySem.W.nsIn K mainGlobals "_law_changes" = some (some (.ref f__law_changes)))
    (l__law_changes : K.lookup f__law_changes = some ⟨oc__law_changes, od__law_changes, .func (PySem.W.fnOf "_law_changes" "_law_changes" (defArgs s__law_changes) (defBody s__law_changes) (defScope s__law_changes) .none kV__law_changes dc__law_changes pm__law_changes an__law_changes cd__law_changes ct__law_changes), sl__law_changes⟩)
    (c__law_changes : PySem.W.codeIn K cd__law_changes "_law_changes" = true)
    (k__law_changes : PySem.W.keepIn K (.ref f__law_changes) = true)
    (a__law_back : PySem.W.nsIn K mainGlobals "_law_back" = some (some (.ref f__law_back)))
    (l__law_back : K.lookup f__law_back = some ⟨oc__law_back, od__law_back, .func (PySem.W.fnOf "_law_back" "_law_back" (defArgs s__law_back) (defBody s__law_back) (defScope s__law_back) .none kV__law_back dc__law_back pm__law_back an__law_back cd__law_back ct__law_back), sl__law_back⟩)
    (c__law_back : PySem.W.codeIn K cd__law_back "_law_back" = true)
    (k__law_back : PySem.W.keepIn K (.ref f__law_back) = true)
    (a__law_raised : PySem.W.nsIn K mainGlobals "_law_raised" = some (some (.ref f__law_raised)))
    (l__law_raised : K.lookup f__law_raised = some ⟨oc__law_raised, od__law_raised, .func (PySem.W.fnOf "_law_raised" "_law_raised" (defArgs s__law_raised) (defBody s__law_raised) (defScope s__law_raised) .none kV__law_raised dc__law_raised pm__law_raised an__law_raised cd__law_raised ct__law_raised), sl__law_raised⟩)
    (c__law_raised : PySem.W.codeIn K cd__law_raised "_law_raised" = true)
    (k__law_raised : PySem.W.keepIn K (.ref f__law_raised) = true)
    (a__law_right : PySem.W.nsIn K mainGlobals "_law_right" = some (some (.ref f__law_right)))
    (l__law_right : K.lookup f__law_right = some ⟨oc__law_right, od__law_right, .func (PySem.W.fnOf "_law_right" "_law_right" (defArgs s__law_right) (defBody s__law_right) (defScope s__law_right) .none kV__law_right dc__law_right pm__law_right an__law_right cd__law_right ct__law_right), sl__law_right⟩)
    (c__law_right : PySem.W.codeIn K cd__law_right "_law_right" = true)
    (k__law_right : PySem.W.keepIn K (.ref f__law_right) = true)
    (a_law : PySem.W.nsIn K mainGlobals "law" = some (some (.ref f_law)))
    (l_law : K.lookup f_law = some ⟨oc_law, od_law, .func (PySem.W.fnOf "law" "law" (defArgs s_law) (defBody s_law) (defScope s_law) .none kV_law dc_law pm_law an_law cd_law ct_law), sl_law⟩)
    (c_law : PySem.W.codeIn K cd_law "law" = true)
    (k_law : PySem.W.keepIn K (.ref f_law) = true)
    (g_InvalidNumber : PySem.W.nsIn K mainGlobals "InvalidNumber" = some (some (.ref C_InvalidNumber)))
    (xL_InvalidNumber : K.lookup C_InvalidNumber = some (excClassObj nm_InvalidNumber q_InvalidNumber C_InvalidNumber N_InvalidNumber bs_InvalidNumber [.ref CB_InvalidNumber, .type "ValueError", .type "Exception", .type "BaseException", .type "object"] true sn_InvalidNumber sub_InvalidNumber ab_InvalidNumber col_InvalidNumber dd_InvalidNumber m0_InvalidNumber m1_InvalidNumber m2_InvalidNumber m3_InvalidNumber m5_InvalidNumber "ValueError.__new__"))
    (sa_InvalidNumber : PySem.W.findIn K (.ref C_InvalidNumber) "__setattr__" = some (some (.builtin "object.__setattr__")))
    (ga_InvalidNumber : PySem.W.findIn K (.ref C_InvalidNumber) "__getattribute__" = some (some (.builtin "BaseException.__getattribute__")))
    (gg_InvalidNumber : PySem.W.findIn K (.ref C_InvalidNumber) "__getattr__" = some none)
    (no_InvalidNumber : PySem.W.findIn K (.ref C_InvalidNumber) "value" = some none)
    (in_InvalidNumber : PySem.W.findIn K (.ref C_InvalidNumber) "__init__" = some (some (.ref f_x_InvalidNumber)))
    (ti_InvalidNumber : PySem.W.typeIn K (.ref f_x_InvalidNumber) = some (.type "function"))
    (l_x_InvalidNumber : K.lookup f_x_InvalidNumber = some ⟨oc_x_InvalidNumber, od_x_InvalidNumber, .func (PySem.W.fnOf "__init__" "InvalidNumber.__init__" (defArgs s_InvalidNumber___init__) (defBody s_InvalidNumber___init__) (defScope s_InvalidNumber___init__) (.ref T_x_InvalidNumber) kV_x_InvalidNumber dc_x_InvalidNumber pm_x_InvalidNumber an_x_InvalidNumber cd_x_InvalidNumber ct_x_InvalidNumber), sl_x_InvalidNumber⟩)
    (c_x_InvalidNumber : PySem.W.codeIn K cd_x_InvalidNumber "InvalidNumber.__init__" = true)
    (k_x_InvalidNumber : PySem.W.keepIn K (.ref f_x_InvalidNumber) = true)
    (lT_InvalidNumber : K.lookup T_x_InvalidNumber = some ⟨ocT_InvalidNumber, odT_InvalidNumber, .seq #[.none] nT_InvalidNumber, slT_InvalidNumber⟩)
    (kC_InvalidNumber : PySem.W.keepIn K (.ref C_InvalidNumber) = true)
    (eC_InvalidNumber : PySem.W.subIn K (.ref C_InvalidNumber) (.type "BaseException") = some true)
    (tC_InvalidNumber : PySem.W.typeIn K (.ref C_InvalidNumber) = some (.type "type"))
    (hC_InvalidNumber : PySem.W.hasDictIn K C_InvalidNumber = true)
    (iC_InvalidNumber : PySem.W.isClsIn K C_InvalidNumber = true)
    (sC_InvalidNumber : PySem.W.subIn K (.ref C_InvalidNumber) (.ref C_InvalidNumber) = some true)
    (g_S : PySem.W.nsIn K mainGlobals "Story" = some (some (.ref CSt)))
    (pg_S : PySem.W.plainGet K CSt Str.empty = true)
    (hd_S : PySem.W.hasDictIn K CSt = true)
    (po_S : PySem.W.plainOver K CSt = true)
    (sa_S : PySem.W.findIn K (.ref CSt) "__setattr__" = some (some (.builtin "object.__setattr__")))
    (mk_S : PySem.W.makesIn K CSt = true)
    (kc_S : PySem.W.keepIn K (.ref CSt) = true)
    (n1_S : PySem.W.findIn K (.ref CSt) "_first" = some none)
    (n2_S : PySem.W.findIn K (.ref CSt) "_changes" = some none)
    (n3_S : PySem.W.findIn K (.ref CSt) "_last" = some none)
    (in_S : PySem.W.findIn K (.ref CSt) "__init__" = some (some (.ref f_Si)))
    (if_S : PySem.W.isFn K (.ref f_Si) = true)
    (l_Si : K.lookup f_Si = some ⟨oc_Si, od_Si, .func (PySem.W.fnOf "__init__" "Story.__init__" (defArgs s_Story___init__) (defBody s_Story___init__) (defScope s_Story___init__) (.ref T_Si) kV_Si dc_Si pm_Si an_Si cd_Si ct_Si), sl_Si⟩)
    (c_Si : PySem.W.codeIn K cd_Si "Story.__init__" = true)
    (k_Si : PySem.W.keepIn K (.ref f_Si) = true)
    (lT_S : K.lookup T_Si = some ⟨ocTS, odTS, .seq #[.none] nTS, slTS⟩)
    (i1_S : PySem.W.findIn K (.ref CSt) "__class__" = some (some (.builtin "object.__class__")))
    (i2_S : PySem.W.specialIn K (.builtin "object.__class__") "__get__" = some (some (.builtin "getset_descriptor.__get__")))
    (i3_S : PySem.W.takesIn K (.builtin "object.__class__") = some true)
    (i4_S : PySem.W.mroIn K CSt (.type "object") = some true)
    (cC_S : PySem.W.isClsIn K CSt = true)
    (tC_S : PySem.W.typeIn K (.ref CSt) = some (.type "type"))
    (at_Sl : PySem.W.findIn K (.ref CSt) "__len__" = some (some (.ref f_Sl)))
    (fn_Sl : PySem.W.isFn K (.ref f_Sl) = true)
    (l_Sl : K.lookup f_Sl = some ⟨oc_Sl, od_Sl, .func (PySem.W.fnOf "__len__" "Story.__len__" (defArgs s_Story___len__) (defBody s_Story___len__) (defScope s_Story___len__) .none kV_Sl dc_Sl pm_Sl an_Sl cd_Sl ct_Sl), sl_Sl⟩)
    (c_Sl : PySem.W.codeIn K cd_Sl "Story.__len__" = true)
    (k_Sl : PySem.W.keepIn K (.ref f_Sl) = true)
    (at_Sg : PySem.W.findIn K (.ref CSt) "__getitem__" = some (some (.ref f_Sg)))
    (fn_Sg : PySem.W.isFn K (.ref f_Sg) = true)
    (l_Sg : K.lookup f_Sg = some ⟨oc_Sg, od_Sg, .func (PySem.W.fnOf "__getitem__" "Story.__getitem__" (defArgs s_Story___getitem__) (defBody s_Story___getitem__) (defScope s_Story___getitem__) .none kV_Sg dc_Sg pm_Sg an_Sg cd_Sg ct_Sg), sl_Sg⟩)
    (c_Sg : PySem.W.codeIn K cd_Sg "Story.__getitem__" = true)
    (k_Sg : PySem.W.keepIn K (.ref f_Sg) = true)
    (fi_Sg : PySem.W.fnIn K f_Sg = true)
    (at_Sa : PySem.W.findIn K (.ref CSt) "__iadd__" = some (some (.ref f_Sa)))
    (fn_Sa : PySem.W.isFn K (.ref f_Sa) = true)
    (l_Sa : K.lookup f_Sa = some ⟨oc_Sa, od_Sa, .func (PySem.W.fnOf "__iadd__" "Story.__iadd__" (defArgs s_Story___iadd__) (defBody s_Story___iadd__) (defScope s_Story___iadd__) .none kV_Sa dc_Sa pm_Sa an_Sa cd_Sa ct_Sa), sl_Sa⟩)
    (c_Sa : PySem.W.codeIn K cd_Sa "Story.__iadd__" = true)
    (k_Sa : PySem.W.keepIn K (.ref f_Sa) = true)
    (sf_S : PySem.W.selfFirst K CSt = true)
    (at_Se : PySem.W.findIn K (.ref CSt) "__eq__" = some (some (.ref f_Se)))
    (fn_Se : PySem.W.isFn K (.ref f_Se) = true)
    (l_Se : K.lookup f_Se = some ⟨oc_Se, od_Se, .func (PySem.W.fnOf "__eq__" "Story.__eq__" (defArgs s_Story___eq__) (defBody s_Story___eq__) (defScope s_Story___eq__) .none kV_Se dc_Se pm_Se an_Se cd_Se ct_Se), sl_Se⟩)
    (c_Se : PySem.W.codeIn K cd_Se "Story.__eq__" = true)
    (k_Se : PySem.W.keepIn K (.ref f_Se) = true)
    (at_St : PySem.W.findIn K (.ref CSt) "at" = some (some (.ref f_St)))
    (fn_St : PySem.W.isFn K (.ref f_St) = true)
    (l_St : K.lookup f_St = some ⟨oc_St, od_St, .func (PySem.W.fnOf "at" "Story.at" (defArgs s_Story_at) (defBody s_Story_at) (defScope s_Story_at) .none kV_St dc_St pm_St an_St cd_St ct_St), sl_St⟩)
    (c_St : PySem.W.codeIn K cd_St "Story.at" = true)
    (k_St : PySem.W.keepIn K (.ref f_St) = true)
    (at_Su : PySem.W.findIn K (.ref CSt) "turned" = some (some (.ref f_Su)))
    (fn_Su : PySem.W.isFn K (.ref f_Su) = true)
    (l_Su : K.lookup f_Su = some ⟨oc_Su, od_Su, .func (PySem.W.fnOf "turned" "Story.turned" (defArgs s_Story_turned) (defBody s_Story_turned) (defScope s_Story_turned) .none kV_Su dc_Su pm_Su an_Su cd_Su ct_Su), sl_Su⟩)
    (c_Su : PySem.W.codeIn K cd_Su "Story.turned" = true)
    (k_Su : PySem.W.keepIn K (.ref f_Su) = true)
    (at_Sf : PySem.W.findIn K (.ref CSt) "first" = some (some (.ref p_Sf)))
    (gt_Sf : PySem.W.specialIn K (.ref p_Sf) "__get__" = some (some (.builtin "property.__get__")))
    (tk_Sf : PySem.W.takesIn K (.ref p_Sf) = some true)
    (rc_Sf : PySem.W.recIn K p_Sf "property" = some (.ref f_Sf :: rSf))
    (l_Sf : K.lookup f_Sf = some ⟨oc_Sf, od_Sf, .func (PySem.W.fnOf "first" "Story.first" (defArgs s_Story_first) (defBody s_Story_first) (defScope s_Story_first) .none kV_Sf dc_Sf pm_Sf an_Sf cd_Sf ct_Sf), sl_Sf⟩)
    (c_Sf : PySem.W.codeIn K cd_Sf "Story.first" = true)
    (k_Sf : PySem.W.keepIn K (.ref f_Sf) = true) :
    ∃ fd : FuncData, (∀ (s : Shared) (v : Value), BindsTo s fd ⟨[v], []⟩ [("_law_script", v)]) ∧ ∀ base : Heap, K.In base → base.Ns mainGlobals mg → FnOk l.prog w K mg base CX0 10 fa fd ["_law_script"] (spLaw K) := by
  have e := hfa.symm.trans (PySem.W.mg_of X G a_law)
  cases e
  have N_isinstance : mg "isinstance" = none := PySem.W.mg_none_of X G z_isinstance
  have N_int : mg "int" = none := PySem.W.mg_none_of X G z_int
  have N_bool : mg "bool" = none := PySem.W.mg_none_of X G z_bool
  have N_str : mg "str" = none := PySem.W.mg_none_of X G z_str
  have N_sorted : mg "sorted" = none := PySem.W.mg_none_of X G z_sorted
  have N_tuple : mg "tuple" = none := PySem.W.mg_none_of X G z_tuple
  have N_list : mg "list" = none := PySem.W.mg_none_of X G z_list
  have N_set : mg "set" = none := PySem.W.mg_none_of X G z_set
  have N_range : mg "range" = none := PySem.W.mg_none_of X G z_range
  have N_sum : mg "sum" = none := PySem.W.mg_none_of X G z_sum
  have N_len : mg "len" = none := PySem.W.mg_none_of X G z_len
  have N_all : mg "all" = none := PySem.W.mg_none_of X G z_all
  have N_max : mg "max" = none := PySem.W.mg_none_of X G z_max
  have V_LETTERS : ∃ t, mg "LETTERS" = some (.str alphaS t) := ⟨_, PySem.W.mg_of X G v_LETTERS⟩
  have V_LONGEST_NAME : ∃ t, mg "LONGEST_NAME" = some (.int 8 t) := ⟨_, PySem.W.mg_of X G v_LONGEST_NAME⟩
  have D_is_whole : Df K mg "is_whole" s_is_whole ["value"] := ⟨f_is_whole, _, fun_mk (st := s_is_whole) l_is_whole c_is_whole k_is_whole, PySem.W.mg_of X G a_is_whole, (fun_mk (st := s_is_whole) l_is_whole c_is_whole k_is_whole).binds fun _ _ _ _ _ _ us hl => match us, hl with | [_], _ => rfl⟩
  have D_is_name : Df K mg "is_name" s_is_name ["value"] := ⟨f_is_name, _, fun_mk (st := s_is_name) l_is_name c_is_name k_is_name, PySem.W.mg_of X G a_is_name, (fun_mk (st := s_is_name) l_is_name c_is_name k_is_name).binds fun _ _ _ _ _ _ us hl => match us, hl with | [_], _ => rfl⟩
  have D_is_place : Df K mg "is_place" s_is_place ["value"] := ⟨f_is_place, _, fun_mk (st := s_is_place) l_is_place c_is_place k_is_place, PySem.W.mg_of X G a_is_place, (fun_mk (st := s_is_place) l_is_place c_is_place k_is_place).binds fun _ _ _ _ _ _ us hl => match us, hl with | [_], _ => rfl⟩
  have D_is_place_list : Df K mg "is_place_list" s_is_place_list ["value"] := ⟨f_is_place_list, _, fun_mk (st := s_is_place_list) l_is_place_list c_is_place_list k_is_place_list, PySem.W.mg_of X G a_is_place_list, (fun_mk (st := s_is_place_list) l_is_place_list c_is_place_list k_is_place_list).binds fun _ _ _ _ _ _ us hl => match us, hl with | [_], _ => rfl⟩
  have D_is_change : Df K mg "is_change" s_is_change ["value"] := ⟨f_is_change, _, fun_mk (st := s_is_change) l_is_change c_is_change k_is_change, PySem.W.mg_of X G a_is_change, (fun_mk (st := s_is_change) l_is_change c_is_change k_is_change).binds fun _ _ _ _ _ _ us hl => match us, hl with | [_], _ => rfl⟩
  have D_goes : Df K mg "goes" s_goes ["change"] := ⟨f_goes, _, fun_mk (st := s_goes) l_goes c_goes k_goes, PySem.W.mg_of X G a_goes, (fun_mk (st := s_goes) l_goes c_goes k_goes).binds fun _ _ _ _ _ _ us hl => match us, hl with | [_], _ => rfl⟩
  have D_comes : Df K mg "comes" s_comes ["change"] := ⟨f_comes, _, fun_mk (st := s_comes) l_comes c_comes k_comes, PySem.W.mg_of X G a_comes, (fun_mk (st := s_comes) l_comes c_comes k_comes).binds fun _ _ _ _ _ _ us hl => match us, hl with | [_], _ => rfl⟩
  have D_is_possible : Df K mg "is_possible" s_is_possible ["change", "standing"] := ⟨f_is_possible, _, fun_mk (st := s_is_possible) l_is_possible c_is_possible k_is_possible, PySem.W.mg_of X G a_is_possible, (fun_mk (st := s_is_possible) l_is_possible c_is_possible k_is_possible).binds fun _ _ _ _ _ _ us hl => match us, hl with | [_, _], _ => rfl⟩
  have D_carry_out : Df K mg "carry_out" s_carry_out ["change", "standing"] := ⟨f_carry_out, _, fun_mk (st := s_carry_out) l_carry_out c_carry_out k_carry_out, PySem.W.mg_of X G a_carry_out, (fun_mk (st := s_carry_out) l_carry_out c_carry_out k_carry_out).binds fun _ _ _ _ _ _ us hl => match us, hl with | [_, _], _ => rfl⟩
  have D_opposite : Df K mg "opposite" s_opposite ["change", "gap"] := ⟨f_opposite, _, fun_mk (st := s_opposite) l_opposite c_opposite k_opposite, PySem.W.mg_of X G a_opposite, (fun_mk (st := s_opposite) l_opposite c_opposite k_opposite).binds fun _ _ _ _ _ _ us hl => match us, hl with | [_, _], _ => rfl⟩
  have D_check_least : Df K mg "check_least" s_check_least ["value", "least"] := ⟨f_check_least, _, fun_mk (st := s_check_least) l_check_least c_check_least k_check_least, PySem.W.mg_of X G a_check_least, (fun_mk (st := s_check_least) l_check_least c_check_least k_check_least).binds fun _ _ _ _ _ _ us hl => match us, hl with | [_, _], _ => rfl⟩
  have D_check_index : Df K mg "check_index" s_check_index ["value", "many"] := ⟨f_check_index, _, fun_mk (st := s_check_index) l_check_index c_check_index k_check_index, PySem.W.mg_of X G a_check_index, (fun_mk (st := s_check_index) l_check_index c_check_index k_check_index).binds fun _ _ _ _ _ _ us hl => match us, hl with | [_, _], _ => rfl⟩
  have D_may_come : Df K mg "may_come" s_may_come ["change", "gap", "standing"] := ⟨f_may_come, _, fun_mk (st := s_may_come) l_may_come c_may_come k_may_come, PySem.W.mg_of X G a_may_come, (fun_mk (st := s_may_come) l_may_come c_may_come k_may_come).binds fun _ _ _ _ _ _ us hl => match us, hl with | [_, _, _], _ => rfl⟩
  have D__standing_behind : Df K mg "_standing_behind" s__standing_behind ["first", "changes"] := ⟨f__standing_behind, _, fun_mk (st := s__standing_behind) l__standing_behind c__standing_behind k__standing_behind, PySem.W.mg_of X G a__standing_behind, (fun_mk (st := s__standing_behind) l__standing_behind c__standing_behind k__standing_behind).binds fun _ _ _ _ _ _ us hl => match us, hl with | [_, _], _ => rfl⟩
  have D__law_purse : Df K mg "_law_purse" s__law_purse ["_law_script", "_law_at"] := ⟨f__law_purse, _, fun_mk (st := s__law_purse) l__law_purse c__law_purse k__law_purse, PySem.W.mg_of X G a__law_purse, (fun_mk (st := s__law_purse) l__law_purse c__law_purse k__law_purse).binds fun _ _ _ _ _ _ us hl => match us, hl with | [_, _], _ => rfl⟩
  have D__law_draw : Df K mg "_law_draw" s__law_draw ["_law_purse_here", "_law_many"] := ⟨f__law_draw, _, fun_mk (st := s__law_draw) l__law_draw c__law_draw k__law_draw, PySem.W.mg_of X G a__law_draw, (fun_mk (st := s__law_draw) l__law_draw c__law_draw k__law_draw).binds fun _ _ _ _ _ _ us hl => match us, hl with | [_, _], _ => rfl⟩
  have D__law_name : Df K mg "_law_name" s__law_name ["_law_purse_here"] := ⟨f__law_name, _, fun_mk (st := s__law_name) l__law_name c__law_name k__law_name, PySem.W.mg_of X G a__law_name, (fun_mk (st := s__law_name) l__law_name c__law_name k__law_name).binds fun _ _ _ _ _ _ us hl => match us, hl with | [_], _ => rfl⟩
  have D__law_names : Df K mg "_law_names" s__law_names ["_law_purse_here", "_law_many"] := ⟨f__law_names, _, fun_mk (st := s__law_names) l__law_names c__law_names k__law_names, PySem.W.mg_of X G a__law_names, (fun_mk (st := s__law_names) l__law_names c__law_names k__law_names).binds fun _ _ _ _ _ _ us hl => match us, hl with | [_, _], _ => rfl⟩
  have D__law_world : Df K mg "_law_world" s__law_world ["_law_purse_here"] := ⟨f__law_world, _, fun_mk (st := s__law_world) l__law_world c__law_world k__law_world, PySem.W.mg_of X G a__law_world, (fun_mk (st := s__law_world) l__law_world c__law_world k__law_world).binds fun _ _ _ _ _ _ us hl => match us, hl with | [_], _ => rfl⟩
  have D__law_step : Df K mg "_law_step" s__law_step ["_law_there", "_law_change_here"] := ⟨f__law_step, _, fun_mk (st := s__law_step) l__law_step c__law_step k__law_step, PySem.W.mg_of X G a__law_step, (fun_mk (st := s__law_step) l__law_step c__law_step k__law_step).binds fun _ _ _ _ _ _ us hl => match us, hl with | [_, _], _ => rfl⟩
  have D__law_change : Df K mg "_law_change" s__law_change ["_law_purse_here", "_law_places", "_law_there", "_law_gap"] := ⟨f__law_change, _, fun_mk (st := s__law_change) l__law_change c__law_change k__law_change, PySem.W.mg_of X G a__law_change, (fun_mk (st := s__law_change) l__law_change c__law_change k__law_change).binds fun _ _ _ _ _ _ us hl => match us, hl with | [_, _, _, _], _ => rfl⟩
  have D__law_course : Df K mg "_law_course" s__law_course ["_law_purse_here", "_law_places", "_law_there"] := ⟨f__law_course, _, fun_mk (st := s__law_course) l__law_course c__law_course k__law_course, PySem.W.mg_of X G a__law_course, (fun_mk (st := s__law_course) l__law_course c__law_course k__law_course).binds fun _ _ _ _ _ _ us hl => match us, hl with | [_, _, _], _ => rfl⟩
  have D__law_changes : Df K mg "_law_changes" s__law_changes ["_law_story"] := ⟨f__law_changes, _, fun_mk (st := s__law_changes) l__law_changes c__law_changes k__law_changes, PySem.W.mg_of X G a__law_changes, (fun_mk (st := s__law_changes) l__law_changes c__law_changes k__law_changes).binds fun _ _ _ _ _ _ us hl => match us, hl with | [_], _ => rfl⟩
  have D__law_back : Df K mg "_law_back" s__law_back ["_law_change_here", "_law_gap"] := ⟨f__law_back, _, fun_mk (st := s__law_back) l__law_back c__law_back k__law_back, PySem.W.mg_of X G a__law_back, (fun_mk (st := s__law_back) l__law_back c__law_back k__law_back).binds fun _ _ _ _ _ _ us hl => match us, hl with | [_, _], _ => rfl⟩
  have D__law_raised : Df K mg "_law_raised" s__law_raised ["_law_story", "_law_value"] := ⟨f__law_raised, _, fun_mk (st := s__law_raised) l__law_raised c__law_raised k__law_raised, PySem.W.mg_of X G a__law_raised, (fun_mk (st := s__law_raised) l__law_raised c__law_raised k__law_raised).binds fun _ _ _ _ _ _ us hl => match us, hl with | [_, _], _ => rfl⟩
  have D__law_right : Df K mg "_law_right" s__law_right ["_law_story", "_law_first", "_law_changes_here", "_law_moments"] := ⟨f__law_right, _, fun_mk (st := s__law_right) l__law_right c__law_right k__law_right, PySem.W.mg_of X G a__law_right, (fun_mk (st := s__law_right) l__law_right c__law_right k__law_right).binds fun _ _ _ _ _ _ us hl => match us, hl with | [_, _, _, _], _ => rfl⟩
  have FD_InvalidNumber : FunD K "__init__" "InvalidNumber.__init__" (defArgs s_InvalidNumber___init__) (defBody s_InvalidNumber___init__) (defScope s_InvalidNumber___init__) [.non] [] f_x_InvalidNumber _ := ⟨⟨_, _, _, _, _, _, _, _, _, _, rfl, l_x_InvalidNumber, c_x_InvalidNumber, .inr ⟨by simp, T_x_InvalidNumber, _, [.none], _, rfl, lT_InvalidNumber, rfl, .cons rfl .nil⟩, .inl rfl⟩, k_x_InvalidNumber⟩
  have BD_InvalidNumber := exc_binds FD_InvalidNumber (fld := "value") fun _ _ _ _ _ _ _ us its hu hi => match us, its, hu, hi with | [_, _], [_], _, _ => ⟨_, rfl, rfl⟩
  have XF_InvalidNumber : ExcF K mg "InvalidNumber" "value" C_InvalidNumber :=
    { g := PySem.W.mg_of X G g_InvalidNumber, T := ⟨⟨_, _, _, _, _, _, _, _, _, _, _, _, _, _, _, xL_InvalidNumber, ve_own⟩, sa_InvalidNumber, eC_InvalidNumber, tC_InvalidNumber, kC_InvalidNumber⟩, no := no_InvalidNumber, xf := ⟨ga_InvalidNumber, gg_InvalidNumber, eC_InvalidNumber, hC_InvalidNumber⟩,
      te := exm_self eC_InvalidNumber iC_InvalidNumber tC_InvalidNumber sC_InvalidNumber, init := ⟨f_x_InvalidNumber, _, _, _, _, _, _, _, _, in_InvalidNumber, ti_InvalidNumber, FD_InvalidNumber, sc_InvalidNumber___init__, BD_InvalidNumber⟩ }
  have Cl_S : Cls K CSt := ⟨pg_S, hd_S, po_S, sa_S⟩
  have FDS : FunD K "__init__" "Story.__init__" (defArgs s_Story___init__) (defBody s_Story___init__) (defScope s_Story___init__) [.non] [] f_Si _ := ⟨⟨_, _, _, _, _, _, _, _, _, _, rfl, l_Si, c_Si, .inr ⟨by simp, T_Si, _, [.none], _, rfl, lT_S, rfl, .cons rfl .nil⟩, .inl rfl⟩, k_Si⟩
  obtain ⟨d0S, v0S, b0S⟩ := FDS.binds1 (ps := ["self", "first", "changes"]) 3 1 (by simp) rfl fun _ _ _ _ _ _ _ us its hu hi => match us, its, hu, hi with | [_, _, _], [_], _, _ => ⟨_, rfl, rfl⟩
  cases v0S
  have Fn_Sl := fun_mk (st := s_Story___len__) l_Sl c_Sl k_Sl
  have Bn_Sl := Fn_Sl.binds (ps := ["self"]) fun _ _ _ _ _ _ us hl => match us, hl with | [_], _ => rfl
  have Fn_Sg := fun_mk (st := s_Story___getitem__) l_Sg c_Sg k_Sg
  have Bn_Sg := Fn_Sg.binds (ps := ["self", "at"]) fun _ _ _ _ _ _ us hl => match us, hl with | [_, _], _ => rfl
  have Fn_Sa := fun_mk (st := s_Story___iadd__) l_Sa c_Sa k_Sa
  have Bn_Sa := Fn_Sa.binds (ps := ["self", "other"]) fun _ _ _ _ _ _ us hl => match us, hl with | [_, _], _ => rfl
  have Fn_Se := fun_mk (st := s_Story___eq__) l_Se c_Se k_Se
  have Bn_Se := Fn_Se.binds (ps := ["self", "other"]) fun _ _ _ _ _ _ us hl => match us, hl with | [_, _], _ => rfl
  have Fn_St := fun_mk (st := s_Story_at) l_St c_St k_St
  have Bn_St := Fn_St.binds (ps := ["self", "k"]) fun _ _ _ _ _ _ us hl => match us, hl with | [_, _], _ => rfl
  have Fn_Su := fun_mk (st := s_Story_turned) l_Su c_Su k_Su
  have Bn_Su := Fn_Su.binds (ps := ["self", "moments"]) fun _ _ _ _ _ _ us hl => match us, hl with | [_, _], _ => rfl
  have F_Sf := fun_mk (st := s_Story_first) l_Sf c_Sf k_Sf
  have SC : StoryC K mg CSt := ⟨Cl_S, n1_S, n2_S, n3_S, PySem.W.mg_of X G g_S, mk_S, kc_S, ⟨f_Si, _, in_S, if_S, FDS, b0S⟩, i1_S, i2_S, i3_S, i4_S⟩
  have SM : StoryM K CSt := ⟨⟨p_Sf, f_Sf, _, ⟨at_Sf, gt_Sf, tk_Sf, ⟨_, rc_Sf⟩⟩, F_Sf, F_Sf.binds (ps := ["self"]) fun _ _ _ _ _ _ us hl => match us, hl with | [_], _ => rfl⟩, ⟨f_Sl, _, at_Sl, fn_Sl, Fn_Sl, Bn_Sl⟩, ⟨f_Sg, _, at_Sg, fn_Sg, fi_Sg, Fn_Sg, Bn_Sg⟩, ⟨f_Sa, _, sf_S, at_Sa, fn_Sa, Fn_Sa, Bn_Sa⟩, ⟨f_Se, _, at_Se, fn_Se, Fn_Se, Bn_Se⟩, ⟨f_St, _, ⟨at_St, fn_St, k_St⟩, Fn_St, Bn_St⟩, ⟨f_Su, _, ⟨at_Su, fn_Su, k_Su⟩, Fn_Su, Bn_Su⟩, kit_own, nf_own⟩
  have T0 : Txt K mg := ⟨N_isinstance, N_int, N_bool, N_str, N_sorted, V_LETTERS, N_tuple, N_list, N_set, D_is_whole⟩
  have L : TxtL K mg := ⟨N_range, N_sum, D__law_purse, D__law_draw⟩
  have NN : TxtN K mg := ⟨N_len, N_all, V_LONGEST_NAME, D_is_name, D__law_name, D__law_names⟩
  have I : TxtI K mg := ⟨D_is_place⟩
  have BW : TxtB K mg := ⟨D__law_world⟩
  have C : TxtC16 K mg := ⟨D_is_place_list, D_is_change, D_goes, D_comes, D_is_possible, D_carry_out, D_opposite⟩
  have S : TxtS16 K mg := ⟨D_may_come, D__standing_behind, D_check_index, D_check_least⟩
  have L4 : TxtL16 K mg := ⟨D__law_step, D__law_change, D__law_course, D__law_changes, D__law_back, D__law_raised, D__law_right⟩
  have TV : TxtV16 K mg := ⟨N_max⟩
  exact ⟨PySem.W.fnOf "law" "law" (defArgs s_law) (defBody s_law) (defScope s_law) .none kV_law dc_law pm_law an_law cd_law ct_law, fun s v => .of_eq rfl, fun base _ _ => ok_law T0 L NN I BW C S SC SM TV L4 XF_InvalidNumber (fun_mk (st := s_law) l_law c_law k_law)⟩
theorem walk {l : PySem.W.OpenLaw} {q : Program} {loose : List Str} {XP : (Str → Option Value) → Heap → Prop} {YP : World → Heap → Prop} {d : DefRec} {K : Params → PySem.W.Frag} (hn : l.most = some 63) (hdf : d.params.defaults = [])
    (hY : ∀ (w : World) (h : Heap), YP w h → (K w.params).In h)
    (F : ∀ (w : World) (mg : Str → Option Value) (fa : Addr) (h : Heap), (K w.params).In h → h.Ns mainGlobals mg → mg d.name = some (.ref fa) →
      ∃ fd : FuncData, (∀ (s : Shared) (u : Value), BindsTo s fd ⟨[u], []⟩ [("_law_script", u)]) ∧ ∀ base : Heap, (K w.params).In base → base.Ns mainGlobals mg → FnOk l.prog w (K w.params) mg base CX0 10 fa fd ["_law_script"] (spLaw (K w.params))) :
    PySem.W.WalkO q loose XP YP l.row.toRowW d [] (fun f vs => PySem.call f vs) :=
  L2.walk_of (n := 63) (k := 10) (x := "_law_script") (CX := fun _ => CX0) (sp := fun w => spLaw (K w.params)) hn (by decide) hdf ⟨rfl, by decide, by decide⟩ hY F (fun _ _ a ns hl _ hS => ⟨a, ns, rfl, hS, hl, fun _ => rfl⟩) fun _ _ _ _ _ z => z
end Bt
open PySem PySem.W PyProof.Rows
set_option maxRecDepth 100000 in
set_option maxHeartbeats 0 in
theorem PySem.Challenge.cw_betweenlists_k16_stories_turned_holds : PySem.Challenge.rw_betweenlists_k16_stories_turned.Holds := by
  w_on; o_law; k_head; (case hw => w_witness2)
  k_fill
  refine Bt.walk (l := PySem.Challenge.rw_betweenlists_k16_stories_turned) rfl rfl (fun w h Y => PySem.W.kIn_of Y) ?F
  case F =>
    intro w mg fa h KX G hmg
    refine' Bt.all_mk KX G hmg ?z_isinstance ?z_int ?z_bool ?z_str ?z_sorted ?z_tuple ?z_list ?z_set ?z_range ?z_sum ?z_len ?z_all ?z_max ?v_LETTERS ?v_LONGEST_NAME ?a_is_whole ?l_is_whole ?c_is_whole ?k_is_whole ?a_is_name ?l_is_name ?c_is_name ?k_is_name ?a_is_place ?l_is_place ?c_is_place ?k_is_place ?a_is_place_list ?l_is_place_list ?c_is_place_list ?k_is_place_list ?a_is_change ?l_is_change ?c_is_change ?k_is_change ?a_goes ?l_goes ?c_goes ?k_goes ?a_comes ?l_comes ?c_comes ?k_comes ?a_is_possible ?l_is_possible ?c_is_possible ?k_is_possible ?a_carry_out ?l_carry_out ?c_carry_out ?k_carry_out ?a_opposite ?l_opposite ?c_opposite ?k_opposite ?a_check_least ?l_check_least ?c_check_least ?k_check_least ?a_check_index ?l_check_index ?c_check_index ?k_check_index ?a_may_come ?l_may_come ?c_may_come ?k_may_come ?a__standing_behind ?l__standing_behind ?c__standing_behind ?k__standing_behind ?a__law_purse ?l__law_purse ?c__law_purse ?k__law_purse ?a__law_draw ?l__law_draw ?c__law_draw ?k__law_draw ?a__law_name ?l__law_name ?c__law_name ?k__law_name ?a__law_names ?l__law_names ?c__law_names ?k__law_names ?a__law_world ?l__law_world ?c__law_world ?k__law_world ?a__law_step ?l__law_step ?c__law_step ?k__law_step ?a__law_change ?l__law_change ?c__law_change ?k__law_change ?a__law_course ?l__law_course ?c__law_course ?k__law_course ?a__law_changes ?l__law_changes ?c__law_changes ?k__law_changes ?a__law_back ?l__law_back ?c__law_back ?k__law_back ?a__law_raised ?l__law_raised ?c__law_raised ?k__law_raised ?a__law_right ?l__law_right ?c__law_right ?k__law_right ?a_law ?l_law ?c_law ?k_law ?g_InvalidNumber ?xL_InvalidNumber ?sa_InvalidNumber ?ga_InvalidNumber ?gg_InvalidNumber ?no_InvalidNumber ?in_InvalidNumber ?ti_InvalidNumber ?l_x_InvalidNumber ?c_x_InvalidNumber ?k_x_InvalidNumber ?lT_InvalidNumber ?kC_InvalidNumber ?eC_InvalidNumber ?tC_InvalidNumber ?hC_InvalidNumber ?iC_InvalidNumber ?sC_InvalidNumber ?g_S ?pg_S ?hd_S ?po_S ?sa_S ?mk_S ?kc_S ?n1_S ?n2_S ?n3_S ?in_S ?if_S ?l_Si ?c_Si ?k_Si ?lT_S ?i1_S ?i2_S ?i3_S ?i4_S ?cC_S ?tC_S ?at_Sl ?fn_Sl ?l_Sl ?c_Sl ?k_Sl ?at_Sg ?fn_Sg ?l_Sg ?c_Sg ?k_Sg ?fi_Sg ?at_Sa ?fn_Sa ?l_Sa ?c_Sa ?k_Sa ?sf_S ?at_Se ?fn_Se ?l_Se ?c_Se ?k_Se ?at_St ?fn_St ?l_St ?c_St ?k_St ?at_Su ?fn_Su ?l_Su ?c_Su ?k_Su ?at_Sf ?gt_Sf ?tk_Sf ?rc_Sf ?l_Sf ?c_Sf ?k_Sf
    (case z_isinstance => k_is); (case z_int => k_is); (case z_bool => k_is); (case z_str => k_is); (case z_sorted => k_is); (case z_tuple => k_is)
    (case z_list => k_is); (case z_set => k_is); (case z_range => k_is); (case z_sum => k_is); (case z_len => k_is); (case z_all => k_is)
    (case z_max => k_is); (case v_LETTERS => k_is); (case v_LONGEST_NAME => k_is); (case a_is_whole => k_is); (case l_is_whole => k_is); (case c_is_whole => k_is)
    (case k_is_whole => k_is); (case a_is_name => k_is); (case l_is_name => k_is); (case c_is_name => k_is); (case k_is_name => k_is); (case a_is_place => k_is)
    (case l_is_place => k_is); (case c_is_place => k_is); (case k_is_place => k_is); (case a_is_place_list => k_is); (case l_is_place_list => k_is); (case c_is_place_list => k_is)
    (case k_is_place_list => k_is); (case a_is_change => k_is); (case l_is_change => k_is); (case c_is_change => k_is); (case k_is_change => k_is); (case a_goes => k_is)
    (case l_goes => k_is); (case c_goes => k_is); (case k_goes => k_is); (case a_comes => k_is); (case l_comes => k_is); (case c_comes => k_is)
    (case k_comes => k_is); (case a_is_possible => k_is); (case l_is_possible => k_is); (case c_is_possible => k_is); (case k_is_possible => k_is); (case a_carry_out => k_is)
    (case l_carry_out => k_is); (case c_carry_out => k_is); (case k_carry_out => k_is); (case a_opposite => k_is); (case l_opposite => k_is); (case c_opposite => k_is)
    (case k_opposite => k_is); (case a_check_least => k_is); (case l_check_least => k_is); (case c_check_least => k_is); (case k_check_least => k_is); (case a_check_index => k_is)
    (case l_check_index => k_is); (case c_check_index => k_is); (case k_check_index => k_is); (case a_may_come => k_is); (case l_may_come => k_is); (case c_may_come => k_is)
    (case k_may_come => k_is); (case a__standing_behind => k_is); (case l__standing_behind => k_is); (case c__standing_behind => k_is); (case k__standing_behind => k_is); (case a__law_purse => k_is)
    (case l__law_purse => k_is); (case c__law_purse => k_is); (case k__law_purse => k_is); (case a__law_draw => k_is); (case l__law_draw => k_is); (case c__law_draw => k_is)
    (case k__law_draw => k_is); (case a__law_name => k_is); (case l__law_name => k_is); (case c__law_name => k_is); (case k__law_name => k_is); (case a__law_names => k_is)
    (case l__law_names => k_is); (case c__law_names => k_is); (case k__law_names => k_is); (case a__law_world => k_is); (case l__law_world => k_is); (case c__law_world => k_is)
    (case k__law_world => k_is); (case a__law_step => k_is); (case l__law_step => k_is); (case c__law_step => k_is); (case k__law_step => k_is); (case a__law_change => k_is)
    (case l__law_change => k_is); (case c__law_change => k_is); (case k__law_change => k_is); (case a__law_course => k_is); (case l__law_course => k_is); (case c__law_course => k_is)
    (case k__law_course => k_is); (case a__law_changes => k_is); (case l__law_changes => k_is); (case c__law_changes => k_is); (case k__law_changes => k_is); (case a__law_back => k_is)
    (case l__law_back => k_is); (case c__law_back => k_is); (case k__law_back => k_is); (case a__law_raised => k_is); (case l__law_raised => k_is); (case c__law_raised => k_is)
    (case k__law_raised => k_is); (case a__law_right => k_is); (case l__law_right => k_is); (case c__law_right => k_is); (case k__law_right => k_is); (case a_law => k_is)
    (case l_law => k_is); (case c_law => k_is); (case k_law => k_is); (case g_InvalidNumber => k_is); (case xL_InvalidNumber => k_is); (case sa_InvalidNumber => k_is)
    (case ga_InvalidNumber => k_is); (case gg_InvalidNumber => k_is); (case no_InvalidNumber => k_is); (case in_InvalidNumber => k_is); (case ti_InvalidNumber => k_is); (case l_x_InvalidNumber => k_is)
    (case c_x_InvalidNumber => k_is); (case k_x_InvalidNumber => k_is); (case lT_InvalidNumber => k_is); (case kC_InvalidNumber => k_is); (case eC_InvalidNumber => k_is); (case tC_InvalidNumber => k_is)
    (case hC_InvalidNumber => k_is); (case iC_InvalidNumber => k_is); (case sC_InvalidNumber => first | rfl | k_is); (case g_S => k_is); (case pg_S => k_is); (case hd_S => k_is)
    (case po_S => k_is); (case sa_S => k_is); (case mk_S => k_is); (case kc_S => k_is); (case n1_S => k_is); (case n2_S => k_is)
    (case n3_S => k_is); (case in_S => k_is); (case if_S => k_is); (case l_Si => k_is); (case c_Si => k_is); (case k_Si => k_is)
    (case lT_S => k_is); (case i1_S => k_is); (case i2_S => k_is); (case i3_S => k_is); (case i4_S => k_is); (case cC_S => k_is)
    (case tC_S => k_is); (case at_Sl => k_is); (case fn_Sl => k_is); (case l_Sl => k_is); (case c_Sl => k_is); (case k_Sl => k_is)
    (case at_Sg => k_is); (case fn_Sg => k_is); (case l_Sg => k_is); (case c_Sg => k_is); (case k_Sg => k_is); (case fi_Sg => k_is)
    (case at_Sa => k_is); (case fn_Sa => k_is); (case l_Sa => k_is); (case c_Sa => k_is); (case k_Sa => k_is); (case sf_S => k_is)
    (case at_Se => k_is); (case fn_Se => k_is); (case l_Se => k_is); (case c_Se => k_is); (case k_Se => k_is); (case at_St => k_is)
    (case fn_St => k_is); (case l_St => k_is); (case c_St => k_is); (case k_St => k_is); (case at_Su => k_is); (case fn_Su => k_is)
    (case l_Su => k_is); (case c_Su => k_is); (case k_Su => k_is); (case at_Sf => k_is); (case gt_Sf => k_is); (case tk_Sf => k_is)
    (case rc_Sf => k_is); (case l_Sf => k_is); (case c_Sf => k_is); (case k_Sf => k_is)
