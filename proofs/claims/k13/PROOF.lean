import PyProof.Rows.All
import Wide.All
import OpenK.AllK
import Wide.FinOn
import HandS.ForMost
import HandS.Exc
import HandS.TryOnly
import HandS.ExcOwn
import HandS.WordsExc
import HandS.IsInst
import HandS.Wide
import HandS.Style
import PyProof.CollectStr
import PyProof.Rows.RuleB_pow
import HandS.Codes
import HandS.ExcInit
import HandS.ExcField
import HandS.Property
import HandS.Defaults
import PyProof.TupleOfStr
import HandS.Star
import HandS.CallSlots
import HandS.Nested
import HandS.FromBytesMap
import KE.SortKeyHeap
import HandS.ExcValue
import KE.LtData
import PySem.Challenge.RW_betweenlists_k13_stories_made
import HandS.Text
import KE.SortData
import PyProof.NeKinds
import KE.KDictPairs
import KE.KDictItemsList
import HandS.Dict
import HandS.Iter
import HandS.ListItems
import KE.KDictWalk
import HandS.TupSets
import HandS.SetBool
import KE.DataCmp
import OpenK.KMeth
import OpenK.KOps
import KE.KOpsOwn
import HandS.DictComp
import PyProof.DictMoreH
import KE.KDictSum
import KE.KDictCopyH
import HandS.TupMul
import HandS.OwnEq
import HandS.MakeKwOnly
import HandS.Deep
import HandS.TryMany
set_option Elab.async false
set_option linter.all false
set_option maxRecDepth 100000
set_option maxHeartbeats 4000000
namespace Bt
open PySem PySem.Spec PyProof.Rows L2
/-! ### heaps that grow, or that change at one place -/
/-- all but what stands at p is as it was -/
def But (p : Addr) (H H' : Hp) : Prop := ∀ b o, b ≠ p → H b = some o → H' b = some o
theorem But.refl {p : Addr} {H : Hp} : But p H H := fun _ _ _ h => h
theorem But.trans {p : Addr} {H H1 H2 : Hp} (a : But p H H1) (b : But p H1 H2) : But p H H2 := fun c o n h => b c o n (a c o n h)
theorem But.of {p : Addr} {H H' : Hp} (a : Same H H') : But p H H' := fun c o _ h => a c o h
theorem But.upd {p : Addr} {H : Hp} {o : HO} : But p H (upd H p o) := fun b u n h => by rw [upd_ne n]; exact h
theorem Same.new {H : Hp} {p : Addr} {o : HO} (h : H p = none) : Same H (upd H p o) := fun a u e => by
  rw [upd_ne (ne_of_none e h)]; exact e
theorem But.new {q p : Addr} {H : Hp} {o : HO} (h : H p = none) : But q H (L2.upd H p o) := But.of (Same.new h)
theorem But.free {p : Addr} {H H' : Hp} (e : But p H H') {l : Addr} (n : l ≠ p) (h : H' l = none) : H l = none := by
  cases q : H l with
  | none => rfl
  | some o =>
    rw [e l o n q] at h
    cases h
theorem sz {n : Nat} (h : n ≤ 100000) : n ≤ sizeLine := Nat.le_trans h (by decide)
theorem szlt {n : Nat} (h : n < 100000) : n < sizeLine := Nat.lt_of_lt_of_le h (by decide)

/-! ### operators, of several kinds at once -/
section
variable {X : Cx}
def rAddStr : R2 := fun x y H Q => ∃ i j, x = .str i ∧ y = .str j ∧ i.length + j.length ≤ sizeLine ∧ Q (.str (i ++ j)) H
def rAddU : R2 := fun x y H Q => rI0 (fun i j => .int (i + j)) x y H Q ∨ (rAddStr x y H Q ∨ rCat x y H Q)
theorem op_addU : OpR X (binaryOp .Add) rAddU := OpR.or op_add (OpR.or op_add_str op_cat)
def rSub : R2 := rI0 fun i j => .int (i - j)
theorem op_subU : OpR X (binaryOp .Sub) rSub := op_sub
def rMod : R2 := rI (fun _ j => 0 < j) fun i j => .int (i % j)
theorem op_modU : OpR X (binaryOp .Mod) rMod := op_mod
def rFdiv : R2 := rI CDiv fun i j => .int (i / j)
theorem op_fdivU : OpR X (binaryOp .FloorDiv) rFdiv := op_fdiv
def rMulI : R2 := rI CMul fun i j => .int (i * j)
def rMulU : R2 := fun x y H Q => rMulI x y H Q ∨ (rI CMulW (fun i j => .int (i * j)) x y H Q ∨ rRep x y H Q)
theorem op_mulU : OpR X (binaryOp .Mult) rMulU := OpR.or op_mul (OpR.or op_mulW op_rep)
def rLtI : R2 := rI0 fun i j => .bl (decide (i < j))
def rLeI : R2 := rI0 fun i j => .bl (decide (i ≤ j))
def rGtI : R2 := rI0 fun i j => .bl (decide (j < i))
def rGeI : R2 := rI0 fun i j => .bl (decide (j ≤ i))
theorem op_ltI : OpR X (compareOp .Lt) rLtI := op_lt
theorem op_leI : OpR X (compareOp .LtE) rLeI := op_le
theorem op_gtI : OpR X (compareOp .Gt) rGtI := op_gt
theorem op_geI : OpR X (compareOp .GtE) rGeI := op_ge
def rEqU (K : PySem.W.Frag) : R2 := fun x y H Q => rEq x y H Q ∨ rEqD K x y H Q
theorem op_eqU (hu : X.A.units + 64 < cLine) : OpR X (compareOp .Eq) (rEqU X.K) := OpR.or op_eq (op_eqD hu)
def rNeU (K : PySem.W.Frag) : R2 := fun x y H Q => rNe x y H Q ∨ rNeD K x y H Q
theorem op_neU (hu : X.A.units + 64 < cLine) : OpR X (compareOp .NotEq) (rNeU X.K) := OpR.or op_ne (op_neD hu)
end
section
variable {H : Hp} {Q : VK} {i j : Int} {x y : V} {σ : L2.St} {K : PySem.W.Frag}
theorem q_var {n : Nat} {v : V} (h : σ[n]? = some (some v)) (q : Q v H) : tVar n σ H Q := ⟨v, h, q⟩
theorem q_add (q : Q (.int (i + j)) H) : rAddU (.int i) (.int j) H Q := .inl ⟨i, j, rfl, rfl, q⟩
theorem q_addS {a b : Str} (h : a.length + b.length ≤ sizeLine) (q : Q (.str (a ++ b)) H) : rAddU (.str a) (.str b) H Q := .inr (.inl ⟨a, b, rfl, rfl, h, q⟩)
theorem q_cat {l b : Addr} {xs zs : List V} (hl : H l = some (.lst xs)) (hb : H b = some (.lst zs)) (hz : xs.length + zs.length ≤ sizeLine) (q : ∀ p H', H p = none → Same H H' → H' p = some (.lst (xs ++ zs)) → Q (.ref p) H') : rAddU (.ref l) (.ref b) H Q :=
  .inr (.inr ⟨l, b, xs, zs, rfl, rfl, hl, hb, hz, fun p n => q p _ n (Same.new n) upd_same⟩)
theorem q_sub (q : Q (.int (i - j)) H) : rSub (.int i) (.int j) H Q := ⟨i, j, rfl, rfl, q⟩
theorem q_mod (h : 0 < j) (q : Q (.int (i % j)) H) : rMod (.int i) (.int j) H Q := ⟨i, j, rfl, rfl, h, q⟩
theorem q_fdiv (h : 0 < j) (h2 : j < 1073741824) (q : Q (.int (i / j)) H) : rFdiv (.int i) (.int j) H Q := ⟨i, j, rfl, rfl, ⟨h, h2⟩, q⟩
theorem q_mulL (h : -(2 ^ 64) < i ∧ i < 2 ^ 64) (q : Q (.int (i * j)) H) : rMulU (.int i) (.int j) H Q := .inl ⟨i, j, rfl, rfl, .inl h, q⟩
theorem q_mulR (h : -(2 ^ 64) < j ∧ j < 2 ^ 64) (q : Q (.int (i * j)) H) : rMulU (.int i) (.int j) H Q := .inl ⟨i, j, rfl, rfl, .inr h, q⟩
theorem q_lt (q : Q (.bl (decide (i < j))) H) : rLtI (.int i) (.int j) H Q := ⟨i, j, rfl, rfl, q⟩
theorem q_le (q : Q (.bl (decide (i ≤ j))) H) : rLeI (.int i) (.int j) H Q := ⟨i, j, rfl, rfl, q⟩
theorem q_gt (q : Q (.bl (decide (j < i))) H) : rGtI (.int i) (.int j) H Q := ⟨i, j, rfl, rfl, q⟩
theorem q_ge (q : Q (.bl (decide (j ≤ i))) H) : rGeI (.int i) (.int j) H Q := ⟨i, j, rfl, rfl, q⟩
theorem q_eq (h : scal x y = true) (q : Q (.bl (decide (x = y))) H) : rEqU K x y H Q := .inl ⟨h, q⟩
theorem q_ne (h : scal x y = true) (q : Q (.bl (!decide (x = y))) H) : rNeU K x y H Q := .inl ⟨h, q⟩
theorem q_eqD {d e : PyData} (hd : Dp K H x d) (he : Dp K H y e) (sd : SeqAt.shaped d = true) (se : SeqAt.shaped e = true) (q : Q (.bl (PyData.eqv d e)) H) : rEqU K x y H Q := .inr ⟨d, e, hd, he, sd, se, q⟩
theorem q_neD {d e : PyData} (hd : Dp K H x d) (he : Dp K H y e) (sd : SeqAt.shaped d = true) (se : SeqAt.shaped e = true) (q : Q (.bl (!PyData.eqv d e)) H) : rNeU K x y H Q := .inr ⟨d, e, hd, he, sd, se, q⟩
theorem q_ixL {p : Addr} {xs : List V} {v : V} (h : SqL K H p xs) (ha : atI xs i = some v) (q : Q v H) : rIx K (.ref p) (.int i) H Q := .inl ⟨p, xs, i, v, rfl, rfl, h, ha, q⟩
theorem q_ixT {p : Addr} {xs : List V} {v : V} (h : SqT K H p xs) (ha : atI xs i = some v) (q : Q v H) : rIx K (.ref p) (.int i) H Q := .inr (.inl ⟨p, xs, i, v, rfl, rfl, h, ha, q⟩)
theorem q_ixS {z : Str} {c : Nat} (hz : z.length ≤ sizeLine) (ha : atI z.cps.toList i = some c) (q : Q (.str ⟨#[c]⟩) H) : rIx K (.str z) (.int i) H Q := .inr (.inr ⟨z, i, c, rfl, rfl, hz, ha, q⟩)
theorem q_test {b : Bool} {R : Bool → Prop} (q : R b) : ∃ k, V.bl b = .bl k ∧ R k := ⟨b, rfl, q⟩
end

/-- a display's new object -/
def rNewT (Q : VK) (xs : List V) (H : Hp) : Prop := xs.length ≤ sizeLine ∧ ∀ p, H p = none → Q (.ref p) (upd H p (.tup xs))
def rNewL (Q : VK) (xs : List V) (H : Hp) : Prop := xs.length ≤ sizeLine ∧ ∀ p, H p = none → Q (.ref p) (upd H p (.lst xs))
/-! ### steps: one lemma a word -/
section
variable {σ : L2.St} {H : Hp} {Q : VK} {R : Bool → Hp → Prop} {D : Ends} {ta tb tc te to : TE} {t u : TS} {c d : TT} {ts tr : TA} {r r' : R2} {g : TG} {K : PySem.W.Frag} {v : V} {n i : Nat}
theorem s_seq (h : t { D with nx := u D } σ H) : tSeq t u D σ H := h
theorem s_next (h : D.nx σ H) : tNext D σ H := h
theorem s_drop (h : te σ H fun _ H1 => D.nx σ H1) : tDrop te D σ H := h
theorem s_ret (h : te σ H D.rt) : tRet te D σ H := h
theorem s_retN (h : D.rt .non H) : tRetN D σ H := h
theorem s_ifS (h : c σ H fun b H1 => if b = true then t D σ H1 else u D σ H1) : tIfS c t u D σ H := h
theorem s_asg (h : te σ H fun x H1 => g x σ H1 D.nx) : tAsg te g D σ H := h
theorem s_gname {N : L2.St → Hp → Prop} (h : N (σ.set i (some v)) H) : gName i v σ H N := h
theorem s_var (h : σ[i]? = some (some v)) (q : Q v H) : tVar i σ H Q := ⟨v, h, q⟩
theorem s_c (q : Q v H) : tC v σ H Q := q
theorem s_op (h : ta σ H fun x H1 => tb σ H1 fun y H2 => r x y H2 Q) : tOp r ta tb σ H Q := h
theorem s_test (h : te σ H fun x H' => ∃ k, x = .bl k ∧ R k H') : tTest te σ H R := h
theorem s_B (h : te σ H fun x H' => ∃ k, x = .bl k ∧ R k H') : tB te σ H R := h
theorem s_andT (h : c σ H fun b H1 => if b = true then d σ H1 R else R false H1) : tAnd c d σ H R := h
theorem s_orT (h : c σ H fun b H1 => if b = true then R true H1 else d σ H1 R) : tOr c d σ H R := h
theorem s_notT (h : c σ H fun b H1 => R (!b) H1) : tNot c σ H R := h
theorem s_andV (h : ta σ H fun x H1 => ∃ c, x = .bl c ∧ if c = true then tb σ H1 Q else Q (.bl false) H1) : tAndV ta tb σ H Q := h
theorem s_orV (h : ta σ H fun x H1 => ∃ c, x = .bl c ∧ if c = true then Q (.bl true) H1 else tb σ H1 Q) : tOrV ta tb σ H Q := h
theorem s_notV (h : ta σ H fun x H1 => ∃ c, x = .bl c ∧ Q (.bl (!c)) H1) : tNotV ta σ H Q := h
theorem s_ifV (h : c σ H fun b H1 => if b = true then ta σ H1 Q else tb σ H1 Q) : tIf c ta tb σ H Q := h
theorem s_chain (h : ta σ H fun x H1 => tb σ H1 fun y H2 => r x y H2 fun z H3 => ∃ k, z = .bl k ∧ (if k = true then tc σ H3 fun w' H4 => r' y w' H4 Q else Q (.bl false) H3)) : tChain r r' ta tb tc σ H Q := h
theorem s_nil {R : List V → Hp → Prop} (q : R [] H) : tNil σ H R := q
theorem s_cons {R : List V → Hp → Prop} (h : te σ H fun x H1 => ts σ H1 fun xs H2 => R (x :: xs) H2) : tCons te ts σ H R := h
/-- a display: the new object by what is known of it -/
theorem s_tup (h : ts σ H fun xs H1 => rNewT Q xs H1) : tTup ts σ H Q := h
theorem s_lst (h : ts σ H fun xs H1 => rNewL Q xs H1) : tLst ts σ H Q := h
theorem q_newT {xs : List V} (hl : xs.length ≤ sizeLine) (q : ∀ p H', H p = none → Same H H' → H' p = some (.tup xs) → Q (.ref p) H') : rNewT Q xs H := ⟨hl, fun p n => q p _ n (Same.new n) upd_same⟩
theorem q_newL {xs : List V} (hl : xs.length ≤ sizeLine) (q : ∀ p H', H p = none → Same H H' → H' p = some (.lst xs) → Q (.ref p) H') : rNewL Q xs H := ⟨hl, fun p n => q p _ n (Same.new n) upd_same⟩
theorem new_by {o : HO} {R : Addr → Hp → Prop} (h : ∀ p H', H p = none → Same H H' → H' p = some o → R p H') : ∀ p, H p = none → R p (upd H p o) := fun p n => h p _ n (Same.new n) upd_same
theorem s_call {sp : Sp} {dvs : List V} {E : XK} (h : ts σ H fun vs H1 => sp (vs ++ dvs) H1 Q E) : tCall sp dvs E ts σ H Q := h
theorem s_CB {f : List V → Hp → VK → Prop} (h : ts σ H fun vs H1 => f vs H1 Q) : tCB f ts σ H Q := h
theorem s_BM {T : String} {f : V → List V → Hp → VK → Prop} (h : to σ H fun x H1 => tyV K T x H1 ∧ ts σ H1 fun xs H2 => f x xs H2 Q) : tBM K T f to ts σ H Q := h
theorem s_sl {f : V → Option Int → Option Int → Hp → VK → Prop} {tl th : TO} (h : te σ H fun x H1 => tl σ H1 fun l H2 => th σ H2 fun u H3 => f x l u H3 Q) : tSl f te tl th σ H Q := h
theorem s_noPart {R : Option Int → Hp → Prop} (q : R none H) : tNoPart σ H R := q
theorem s_part {R : Option Int → Hp → Prop} (h : te σ H fun x H1 => ∃ i, x = .int i ∧ R (some i) H1) : tPart te σ H R := h
theorem s_gsub {f : TSet} {N : L2.St → Hp → Prop} (h : to σ H fun o H1 => te σ H1 fun i H2 => f o i v H2 fun H3 => N σ H3) : gSub to te f v σ H N := h
theorem s_int {j : Int} {R : Int → Prop} (q : R j) : ∃ i, V.int j = .int i ∧ R i := ⟨j, rfl, q⟩
theorem s_ifT {A B : Prop} (h : A) : if true = true then A else B := by rw [if_pos rfl]; exact h
theorem s_ifF {A B : Prop} (h : B) : if false = true then A else B := by rw [if_neg Bool.false_ne_true]; exact h
theorem s_if {k : Bool} {A B : Prop} (h : k = true → A) (h' : k = false → B) : if k = true then A else B := by
  cases k with
  | true => exact s_ifT (h rfl)
  | false => exact s_ifF (h' rfl)
theorem q_setL {p : Addr} {xs : List V} {k : Int} {j : Nat} {R : Hp → Prop} (h : H p = some (.lst xs)) (hj : ixN xs.length k = some j) (q : R (upd H p (.lst (xs.set j v)))) : rSetL (.ref p) (.int k) v H R := ⟨p, xs, k, j, rfl, rfl, h, hj, q⟩
theorem s_if1 {k : Bool} {A B : Prop} (e : k = true) (h : A) : if k = true then A else B := by subst e; exact s_ifT h
theorem s_if0 {k : Bool} {A B : Prop} (e : k = false) (h : B) : if k = true then A else B := by subst e; exact s_ifF h
theorem s_ifD {p : Prop} {inst : Decidable p} {A B : Prop} (h : p → A) (h' : ¬ p → B) : if @decide p inst = true then A else B := by
  by_cases z : p
  · rw [decide_eq_true z]; exact s_ifT (h z)
  · rw [decide_eq_false z]; exact s_ifF (h' z)
end
end Bt
namespace Bt
open PySem PySem.Spec PyProof.Rows L2
section
variable {X : Cx}
/-! ### a power of any base -/
def CPowW (i j : Int) : Prop := 0 ≤ j ∧ (Builtin.Int.intBits i : Int) * j ≤ 2 ^ 27
theorem op_powW : OpR X (binaryOp .Pow) (rI CPowW fun i j => .int (i ^ j.toNat)) := opI fun _ _ _ _ _ _ _ hc q => pow_int hc.1 hc.2 q
/-! ### text[::-1] -/
def revT (z : Str) : Str := ⟨((Builtin.Str.strSliceIndices none none (-1) z.length).filterMap (z.cps[·]?)).toArray⟩
def tRevS (te : TE) : TE := fun σ H Q => te σ H fun x H1 => ∃ z, x = .str z ∧ (revT z).length ≤ sizeLine ∧ Q (.str (revT z)) H1
theorem pe_revS {e : Expr} {te : TE} {k : Nat} {p1 p2 p3 pos : Pos} (he : PE X e te) : PE X (.Subscript e (.Slice none none (some (.UnaryOp .USub (.Constant (.int 1) k p1) p2)) p3) pos) (tRevS te) := by
  refine ⟨fun pins s σ H Q I h => ?_⟩
  refine Subscript_ (thn (he.run pins s σ H _ I h) fun v s1 ⟨x, H1, I1, r1, q1⟩ => ?_)
  obtain ⟨z, ex, hz, q⟩ := q1
  subst ex
  obtain ⟨t, rfl⟩ := r1
  have hst : PO X (some (.UnaryOp .USub (.Constant (.int 1) k p1) p2)) (tPart (tUn (rU fun i => .int (-i)) (tC (.int 1)))) := po_some (pe_un un_neg pe_int)
  refine wpAny_Slice (thn (po_none.run pins s1 σ H1 (fun o H2 => o = none ∧ H2 = H1) I1 ⟨rfl, rfl⟩) fun vl s2 ⟨l, H2, I2, pl, el, e2⟩ => ?_)
  subst el e2
  refine thn (po_none.run pins s2 σ H2 (fun o H3 => o = none ∧ H3 = H2) I2 ⟨rfl, rfl⟩) fun vu s3 ⟨u, H3, I3, pu, eu, e3⟩ => ?_
  subst eu e3
  refine thn (hst.run pins s3 σ H3 (fun o H4 => o = some (-1) ∧ H4 = H3) I3 ⟨1, rfl, -1, rfl, rfl, rfl⟩) fun vs s4 ⟨o, H4, I4, ps, eo, e4⟩ => ?_
  subst eo e4
  have I5 : Inv X pins σ H4 { s4 with heap := s4.heap.push { cls := .type "slice", data := .fields #[vl, vu, vs] } } := I4.kept (t' := s4.toks) fun b ob q => Heap.get?_push_of_some _ q
  obtain ⟨l, rfl, el⟩ := IsPart.raw pl
  obtain ⟨u, rfl, eu⟩ := IsPart.raw pu
  obtain ⟨st, rfl, es⟩ := IsPart.raw ps
  show wpAny (model X.prog X.w) X.A (subscriptTail e (.Slice none none (some (.UnaryOp .USub (.Constant (.int 1) k p1) p2)) p3) (.str z t) (.ref s4.heap.objs.size)) (EP X pins σ Q) X.xe { s4 with heap := s4.heap.push { cls := .type "slice", data := .fields #[partValue l, partValue u, partValue st] } }
  have e1 : ((st.map (·.1)).getD 1) = -1 := by rw [es]; rfl
  refine tail_any (ops := [.ref s4.heap.objs.size, .str z t]) (typeIs_str _ _ _) (F.slot_str_getitem.lookup) ?_ (by with_unfolding_all rfl)
  refine wpAny_getItem_str_slice (l := l) (u := u) (st := st) (Heap.IsSliceOf.new _ _ _ _) (by rw [e1]; rfl) ?_
  show Made.post (if ((((st.map (·.1)).getD 1) == 1 && (Builtin.Str.strSliceIndices (l.map (·.1)) (u.map (·.1)) ((st.map (·.1)).getD 1) z.length).length == z.length) = true) then Made.val (.str z t)
    else Made.str ⟨((Builtin.Str.strSliceIndices (l.map (·.1)) (u.map (·.1)) ((st.map (·.1)).getD 1) z.length).filterMap (z.cps[·]?)).toArray⟩) (EP X pins σ Q) _
  rw [e1, el, eu, if_neg (by simp)]
  exact ⟨hz, .str _, H4, I5.tok _, ⟨_, rfl⟩, q⟩
end
/-! ### sorted(text) -/
/-- the signs of a text, each as a text -/
def signs (z : Str) : List Str := z.cps.toList.map fun c => ⟨#[c]⟩
theorem strs_of_signs {z : Str} {acc : Array Value} (h : ItemsOf (SignAt z) acc z.cps.size) : StrsAre acc.toList (signs z) := by
  have key : ∀ (l : List Value) (m : List Nat), l.length = m.length → (∀ (j : Nat) (v : Value) (c : Nat), l[j]? = some v → m[j]? = some c → ∃ u, v = .str ⟨#[c]⟩ u) → StrsAre l (m.map fun c => ⟨#[c]⟩) := by
    intro l
    induction l with
    | nil =>
      intro m hl _
      cases m with
      | nil => exact .nil
      | cons a r => cases hl
    | cons x l ih =>
      intro m hl hm
      cases m with
      | nil => cases hl
      | cons c r =>
        obtain ⟨u, e⟩ := hm 0 x c rfl rfl
        rw [e]
        exact .cons _ _ (ih r (Nat.succ.inj hl) fun j v d h1 h2 => hm (j + 1) v d (by simpa using h1) (by simpa using h2))
  refine key _ _ (by rw [Array.length_toList, Array.length_toList, h.1]) fun j v c h1 h2 => ?_
  obtain ⟨d, u, e1, e2⟩ := h.2 j v (by rw [← Array.getElem?_toList]; exact h1)
  rw [← Array.getElem?_toList, h2] at e1
  cases e1
  exact ⟨u, e2⟩
section
variable {X : Cx}
def rSortTx : List V → Hp → VK → Prop := fun vs H Q => ∃ z : Str, vs = [V.str z] ∧ z.length < 64 ∧ ∀ (ys : List Str) (p : Addr), ys.Perm (signs z) → sortedS ys = true → H p = none → Q (.ref p) (upd H p (.lst (ys.map V.str)))
theorem cr_sortedTx (hc : X.calm = true) : CallR X (.builtin "sorted") rSortTx := by
  intro pins s σ H vs us Q I r h
  obtain ⟨z, rfl, h64, q⟩ := h
  obtain ⟨u, rfl, rx⟩ := vals1 r
  obtain ⟨t, rfl⟩ := rx
  have hz : z.cps.size ≤ sizeLine := sz (Nat.le_of_lt (Nat.lt_trans h64 (by decide)))
  refine PySem.Calls.call_function_entry kind_sorted plain_sorted entry_sorted (args_sorted1 _) ?_
  unfold Builtin.«sorted»
  refine wpAny_bind (m := checkCount "sorted" 1 1 _) (wpAny_pure ?_)
  refine wpAny_bind (wpAny_collect_str (show X.A.in1.handled = none from I.ok.hd hc) z t (fun s' acc k eg ed eo hacc => ?_) hz)
  have hS := strs_of_signs hacc
  have hlen : acc.toList.length < 64 := by rw [Array.length_toList, hacc.1]; exact h64
  refine wpAny_bind (wpAny_newList ?_ (sz (by omega)))
  obtain ⟨hp, g, d, tk, os⟩ := s'
  dsimp only at eg ed eo
  subst eg ed eo
  have ho : (hp.push (seqObj "list" acc.toList.toArray 0)).get? hp.objs.size = some (seqObj "list" acc.toList.toArray 0) := Heap.get?_push_size _ rfl
  refine wpAny_bind (wpAny_holding (wpAny_call_entry slot_list_sort ⟨_, ho, rfl⟩ entry_list_sort (list_sort_treeK strKind_oneLt ho hS.keysOf (fun v₁ v₂ rest e => keyKind_strs (by rw [← e]; exact hS)) hlen fun st' a1 a2 => ⟨_, rfl, ?_⟩) (args_list_sort _)))
  obtain ⟨ss', h1, h2, h3⟩ := sorted_out_str hS a1 a2
  obtain ⟨ep, he⟩ := sortedHeap_at (vs := acc.toList) (out := (arrOf st').map (·.2)) (n := 0) ho
  have I1 : Inv X pins σ H ⟨hp, s.gens, s.drawn, tk, s.os⟩ := I.kept (t' := tk) k
  have old : ∀ b o, hp.get? b = some o → (sortedHeap (hp.push (seqObj "list" acc.toList.toArray 0)) hp.objs.size acc.toList ((arrOf st').map (·.2))).get? b = some o := fun b o e2 => by
    have hlt := Heap.lt_size e2
    rw [sortedHeap_old (Nat.ne_of_lt hlt) (by rw [size_push']; exact Nat.lt_succ_of_lt hlt), Heap.get?_push_ne _ _ _ (Nat.ne_of_lt hlt)]
    exact e2
  refine wpAny_pure ⟨_, rfl, ?_⟩
  have hl2 : (ss'.map V.str).length ≤ sizeLine := by rw [List.length_map, h2.length_eq]; exact sz (by unfold signs; rw [List.length_map, Array.length_toList]; exact Nat.le_of_lt (Nat.lt_trans h64 (by decide)))
  exact ⟨.ref _, upd H hp.objs.size (.lst (ss'.map V.str)), I1.laid (t' := tk) old (Nat.le_refl _) ⟨hl2, ((arrOf st').map (·.2)).toList, ep, vals_of_strs h1, he⟩, rfl, q ss' _ h2 h3 (I1.hok.fresh (Nat.le_refl _))⟩
end
end Bt
namespace Bt
open PySem PySem.Spec PyProof.Rows L2
variable {X : Cx}
/-! ### tuple(text) -/
theorem vals_of_signs {z : Str} {acc : Array Value} (h : ItemsOf (SignAt z) acc z.cps.size) : Vals ((signs z).map V.str) acc.toList := vals_of_strs (strs_of_signs h)
def rTupTx : List V → Hp → VK → Prop := fun vs H Q => ∃ z : Str, vs = [V.str z] ∧ z.length ≤ sizeLine ∧ ∀ p, H p = none → Q (.ref p) (upd H p (.tup ((signs z).map V.str)))
theorem q_tupTx {H : Hp} {Q : VK} {z : Str} (h : z.length ≤ sizeLine) (q : ∀ p H', H p = none → Same H H' → H' p = some (.tup ((signs z).map V.str)) → Q (.ref p) H') : rTupTx [.str z] H Q := ⟨z, rfl, h, fun p n => q p _ n (Same.new n) upd_same⟩
theorem call_tupleTx (hc : X.calm = true) : CallR X (.type "tuple") rTupTx := by
  intro pins s σ H vs us Q I r h
  obtain ⟨z, rfl, hz, q⟩ := h
  obtain ⟨u, rfl, rx⟩ := vals1 r
  obtain ⟨t, rfl⟩ := rx
  refine call_tuple_str (I.ok.hd hc) z t (fun h' tk acc k hacc => ?_) hz
  have I1 : Inv X pins σ H { s with heap := h', toks := tk } := I.kept (t' := tk) k
  have hl : ((signs z).map V.str).length ≤ sizeLine := by
    unfold signs
    rw [List.length_map, List.length_map, Array.length_toList]
    exact hz
  refine ⟨.ref h'.objs.size, _, I1.laid (t' := tk) (a := h'.objs.size) (o := .tup ((signs z).map V.str)) (fun b o e => Heap.get?_push_of_some _ e) (Nat.le_refl _) ⟨hl, acc.toList, vals_of_signs hacc, ?_⟩, rfl, q _ (I1.hok.fresh (Nat.le_refl _))⟩
  have e : acc.toList.toArray = acc := by simp
  rw [e]
  exact IsTup.new _ _
/-! ### C(e, ..), C's __init__ may raise; what is raised is wished for at the caller's slots -/
section
variable {CX : CXT} {k : Nat} {C f : Addr} {fd : FuncData} {ps : List Str} {sp : Sp} {dvs : List V} {ds : List Value} {E : L2.St → XK} {x : Str} {p pos : Pos} {e : Expr} {es : List Expr} {t : TA}
def tMakeS (C : Addr) (sp : Sp) (dvs : List V) (E : L2.St → XK) (t : TA) : TE := fun σ H Q => t σ H fun vs H1 => ∀ x dx, H1 x = none → H1 dx = none → dx ≠ x →
  sp (.ref x :: (vs ++ dvs)) (upd (upd H1 dx (.own x)) x (.ins C dx [])) (fun v H2 => v = .non ∧ Q (.ref x) H2) (E σ)
theorem run_makeS {pins : List (Addr × Obj)} {σ : L2.St} {H : Hp} {s : Shared} {Q : VK} {us : List Value} {vs : List V} (M : Mk X.K C f) (F : FnOk X.prog X.w X.K X.mg X.base CX k f fd ps sp) (hr : Room (k + 1) X.A) (hb : Binds X.K fd ps ds) (hd : Vals dvs ds)
    (hx : PassesAt CX X σ (E σ)) (I : Inv X pins σ H s) (r : Vals vs us)
    (h : ∀ x dx, H x = none → H dx = none → dx ≠ x → sp (.ref x :: (vs ++ dvs)) (upd (upd H dx (.own x)) x (.ins C dx [])) (fun v H2 => v = .non ∧ Q (.ref x) H2) (E σ)) :
    wpAny (model X.prog X.w) X.A (call (.ref C) us) (EP X pins σ Q) X.xe s := by
  have hq := h (s.heap.objs.size + 1) s.heap.objs.size (I.hok.fresh (Nat.le_succ _)) (I.hok.fresh (Nat.le_refl _)) (Nat.ne_of_lt (Nat.lt_succ_self _))
  have I2 := Inv.made (C := C) I
  have r2 : Vals (V.ref (s.heap.objs.size + 1) :: (vs ++ dvs)) (Value.ref (s.heap.objs.size + 1) :: (us ++ ds)) := .cons rfl (r.append hd)
  have hl : (Value.ref (s.heap.objs.size + 1) :: us ++ ds).length = ps.length := by
    have e := r2.length
    rw [F.len _ _ _ _ hq] at e
    exact e.symm
  refine wpAny_call (make_map (f := f) I.kIn M.makes M.init (beq_iff_eq.mp M.fn) (codeAny_mono (F.run _ X.stack _ _ ⟨Value.ref (s.heap.objs.size + 1) :: us, []⟩ (Value.ref (s.heap.objs.size + 1) :: (us ++ ds)) _ _ (E σ) (hr.make C us [])
    (I2.env0.make C us []) (hb _ (Value.ref (s.heap.objs.size + 1) :: us) I2.kIn hl) r2 hq) fun r s' hq' => ?_))
  cases r with
  | error e => exact hx pins _ _ e s' I2 hq'
  | ok fl =>
    cases fl with
    | ret u =>
      obtain ⟨v, H', I3, rv, ev, q3⟩ := I2.after hq'
      subst ev
      exact ⟨rv, ⟨V.ref (s.heap.objs.size + 1), H', I3, rfl, q3⟩⟩
    | next => exact False.elim hq'
    | brk => exact False.elim hq'
    | cont => exact False.elim hq'
theorem pe_makeS (M : Mk X.K C f) (F : FnOk X.prog X.w X.K X.mg X.base CX k f fd ps sp) (hr : Room (k + 1) X.A) (hg : Gl X x) (hm : X.mg x = some (.ref C)) (hb : Binds X.K fd ps ds) (hd : Vals dvs ds) (hx : ∀ σ, PassesAt CX X σ (E σ))
    (ha : PA X (e :: es) t) (hdb : (x == ("__debug__" : Str)) = false := by decide) (he : starEach (e :: es) X.env = (false, eval e X.env) :: starEach es X.env := by rfl) (hpl : (backTo pos (starEach es X.env)).any (·.1) = false := by rfl) :
    PE X (.Call (.Name x p) (e :: es) [] pos) (tMakeS C sp dvs E t) := by
  refine ⟨fun pins s σ H Q I h => ?_⟩
  refine wpAny_Call_Name_kw (ld_glob I hg hm ?_ hdb)
  refine PySem.W.callWith_K (h₀ := X.base) I.ok.mod.kin M.kp (thn (ha.run pos pins s σ H _ I h) fun us s1 ⟨vs, H1, I1, r, q⟩ => ⟨I1.kIn, ?_⟩) he hpl
  exact run_makeS M F hr hb hd (hx σ) I1 r q
end
/-! ### a comprehension over a text -/
theorem lc_str {z : Str} {g : TG} {tt : TT} {te : TE} {vs : List Nat} {σ : L2.St} {H1 : Hp} {D : Addr} {Qd : Hp → Prop} (Pv : Nat → Hp → Prop) (h0 : Pv 0 (upd H1 D (.lst [])))
    (hs : ∀ i (c : Nat) H, z.cps.toList[i]? = some c → Pv i H → g (.str ⟨#[c]⟩) (wipe σ vs) H fun σ2 H2 => wipe σ2 vs = wipe σ vs ∧ tt σ2 H2 fun b H3 =>
      if b = true then te σ2 H3 fun y H4 => ∃ acc, H4 D = some (.lst acc) ∧ acc.length < sizeLine ∧ Pv (i + 1) (upd H4 D (.lst (acc ++ [y]))) else Pv (i + 1) H3) (hd : ∀ H, Pv z.cps.size H → Qd H) :
    ∃ W : Nat → Nat → Hp → Prop, (∃ m, W 0 m (upd H1 D (.lst []))) ∧ ∀ i m H, W i m H →
      ((Its z).stop i H ∧ Qd H) ∨ ((Its z).go i H ∧ ∃ Nx : Hp → Prop, (∀ H', Nx H' → ∃ m', m' < m ∧ W (i + 1) m' H') ∧ ∀ x H', (Its z).yld i H x H' → g x (wipe σ vs) H' fun σ2 H2 => wipe σ2 vs = wipe σ vs ∧ tt σ2 H2 fun b H3 =>
        if b = true then te σ2 H3 fun y H4 => ∃ acc, H4 D = some (.lst acc) ∧ acc.length < sizeLine ∧ Nx (upd H4 D (.lst (acc ++ [y]))) else Nx H3) := by
  refine ⟨fun i m H => m = z.cps.size - i ∧ i ≤ z.cps.size ∧ Pv i H, ⟨z.cps.size, by simp, Nat.zero_le _, h0⟩, ?_⟩
  rintro i m H ⟨rfl, hi, p⟩
  by_cases hlt : i < z.cps.size
  · refine .inr ⟨hlt, Pv (i + 1), fun H' p' => ⟨z.cps.size - (i + 1), by omega, rfl, hlt, p'⟩, fun x H' y => ?_⟩
    obtain ⟨e, c, hc, ex⟩ := y
    subst e ex
    exact hs i c _ (by rw [Array.getElem?_toList]; exact hc) p
  · have e : i = z.cps.size := by omega
    subst e
    exact .inl ⟨Nat.le_refl _, hd H p⟩
theorem s_lc {wi : TI} {g : TG} {tt : TT} {te : TE} {vs : List Nat} {σ : L2.St} {H : Hp} {Q : VK} (h : wi σ H fun J H1 => ∀ D, H1 D = none → ∃ W : Nat → Nat → Hp → Prop, (∃ m, W 0 m (upd H1 D (.lst []))) ∧ ∀ i m H, W i m H →
  (J.stop i H ∧ Q (.ref D) H) ∨ (J.go i H ∧ ∃ Nx : Hp → Prop, (∀ H', Nx H' → ∃ m', m' < m ∧ W (i + 1) m' H') ∧ ∀ x H', J.yld i H x H' → g x (wipe σ vs) H' fun σ2 H2 => wipe σ2 vs = wipe σ vs ∧ tt σ2 H2 fun b H3 =>
    if b = true then te σ2 H3 fun y H4 => ∃ acc, H4 D = some (.lst acc) ∧ acc.length < sizeLine ∧ Nx (upd H4 D (.lst (acc ++ [y]))) else Nx H3)) : tLc wi g tt te vs σ H Q := h
theorem s_yes {σ : L2.St} {H : Hp} {R : Bool → Hp → Prop} (h : R true H) : tYes σ H R := h
theorem same_mut {H H' : Hp} {p : Addr} {o : HO} (e : Same H H') (h : H p = none) : Same H (upd H' p o) := fun a u ha => by
  rw [upd_ne (ne_of_none ha h)]
  exact e a u ha
theorem take_map_more {α β : Type} {f : α → β} {l : List α} {j : Nat} {x : α} (h : l[j]? = some x) : (l.take (j + 1)).map f = (l.take j).map f ++ [f x] := by
  rw [List.take_add_one, h, List.map_append]
  rfl
theorem s_iStr {te : TE} {σ : L2.St} {H : Hp} {R : It → Hp → Prop} (h : te σ H fun v H1 => ∃ x, v = .str x ∧ R (Its x) H1) : iStr te σ H R := h
theorem s_M0 {to : TE} {r : V → List V → Hp → VK → Prop} {σ : L2.St} {H : Hp} {Q : VK} (h : to σ H fun x H1 => (∃ a, x = .str a) ∧ r x [] H1 Q) : tM0 r to σ H Q := h
/-! ### x == y, x an instance of an own class with __eq__ -/
def rEqOwn (K : PySem.W.Frag) (C : Addr) (sp : Sp) (E : XK) : R2 := fun x y H Q => ∃ a dx fs t, x = .ref a ∧ H a = some (.ins C dx fs) ∧ TyX K H y t ∧ PySem.W.notFirst K C t = true ∧ sp [x, y] H (fun v H' => ∃ b, v = .bl b ∧ Q v H') E
theorem op_eqOwn {CX : CXT} {n : Nat} {C f : Addr} {fd : FuncData} {ps : List Str} {sp : Sp} {E : XK} (F : FnOk X.prog X.w X.K X.mg X.base CX n f fd ps sp) (hr : Room n X.A)
    (hs : PySem.W.findIn X.K (.ref C) "__eq__" = some (some (.ref f))) (hf : PySem.W.isFn X.K (.ref f) = true) (hb : Binds X.K fd ps []) (hx : Passes CX X E) : OpR X (compareOp .Eq) (rEqOwn X.K C sp E) := by
  intro pins s σ H x y v u Q I rx ry hq
  obtain ⟨a, dx, fs, t, rfl, ha, ty, hn, hsp⟩ := hq
  cases rx
  obtain ⟨mA, J, _⟩ := ins_get I.hok ha
  obtain ⟨od, J, _⟩ := J.look
  obtain ⟨m, hF⟩ := I.fr
  obtain ⟨P, Z, p, _⟩ := kit_of I ry ty
  show wpAny (model X.prog X.w) X.A (richCompare .Eq (.ref a) u) (EP X pins σ Q) X.xe s
  refine PySem.W.cmp_K (op := .Eq) (tb := t) hr.units0 hF I.ok.mod.kin J (Z.ty _ _ I.kIn p) hn hs hf ?_
  have hl := F.len _ _ _ _ hsp
  have r2 : Vals [V.ref a, y] [Value.ref a, u] := .cons rfl (.cons ry .nil)
  refine wpAny_call (codeAny_mono (F.run X.A X.stack s H ⟨[.ref a, u], []⟩ [.ref a, u] [.ref a, y] _ E hr I.env0 (by
    have := hb s [.ref a, u] I.kIn (by simpa using hl)
    simpa using this) r2 hsp) fun r s' hq => ?_)
  cases r with
  | error e => exact hx pins σ H s e s' I hq
  | ok fl =>
    cases fl with
    | ret w =>
      obtain ⟨z, H', I', rz, b, ez, q⟩ := I.after hq
      subst ez
      cases rz
      exact ⟨.bl b, H', I', rfl, q⟩
    | next => exact False.elim hq
    | brk => exact False.elim hq
    | cont => exact False.elim hq
end Bt
namespace Bt
open PySem PyProof.Rows
/-! ### letters -/
abbrev sg (c : Nat) : Str := ⟨#[c]⟩
def alphaS : Str := "abcdefghijklmnopqrstuvwxyz"
def alpha : List Nat := (List.range 26).map (97 + ·)
theorem alphaS_cps : alphaS.cps.toList = alpha := by decide +kernel
theorem alpha_len : alpha.length = 26 := by decide
theorem mem_alpha {c : Nat} : c ∈ alpha ↔ 97 ≤ c ∧ c ≤ 122 := by
  unfold alpha
  rw [List.mem_map]
  constructor
  · rintro ⟨a, h, rfl⟩
    have := List.mem_range.mp h
    omega
  · rintro ⟨h1, h2⟩
    exact ⟨c - 97, List.mem_range.mpr (by omega), by omega⟩
theorem alpha_nd : alpha.Nodup := by decide
/-- the letters of a form -/
def Letters (z : Str) : Prop := z.cps.toList.Perm alpha
instance {z : Str} : Decidable (Letters z) := inferInstanceAs (Decidable (List.Perm _ _))
theorem rising_pw : ∀ (cs : List Nat) (p : Nat), risingS (sg p) (cs.map sg) = true → (p :: cs).Pairwise (· ≤ ·)
  | [], p, _ => List.pairwise_singleton _ _
  | c :: cs, p, h => by
    have h' : (!Spec.ltCps [c] [p] && risingS (sg c) (cs.map sg)) = true := h
    obtain ⟨h1, h2⟩ := Bool.and_eq_true_iff.mp h'
    have ih := rising_pw cs c h2
    have hpc : p ≤ c := by
      rw [ltCps_eq] at h1
      rcases Nat.lt_or_ge c p with k | k
      · have : ([c] : List Nat) < [p] := List.Lex.rel k
        simp [this] at h1
      · exact k
    refine List.pairwise_cons.mpr ⟨fun a ha => ?_, ih⟩
    rcases List.mem_cons.mp ha with e | ha
    · rw [e]; exact hpc
    · exact Nat.le_trans hpc ((List.pairwise_cons.mp ih).1 a ha)
theorem sorted_pw (cs : List Nat) (h : sortedS (cs.map sg) = true) : cs.Pairwise (· ≤ ·) := by
  cases cs with
  | nil => exact List.Pairwise.nil
  | cons c cs => exact rising_pw cs c h
theorem sg_inj : Function.Injective sg := fun a b h => by
  have : (#[a] : Array Nat) = #[b] := congrArg Str.cps h
  simpa using this
theorem signs_eq (z : Str) : signs z = z.cps.toList.map sg := rfl
theorem perm_signs {z : Str} {ys : List Str} (h : ys.Perm (signs z)) : ∃ cs : List Nat, ys = cs.map sg ∧ cs.Perm z.cps.toList := by
  let f : Str → Nat := fun s => s.cps.toList.headD 0
  have fs : ∀ c, f (sg c) = c := fun c => rfl
  refine ⟨ys.map f, ?_, ?_⟩
  · rw [List.map_map]
    have : ∀ y ∈ ys, (sg ∘ f) y = y := fun y hy => by
      have := h.mem_iff.mp hy
      rw [signs_eq, List.mem_map] at this
      obtain ⟨c, _, rfl⟩ := this
      rfl
    exact ((List.map_congr_left this).trans (List.map_id _)).symm
  · have := h.map f
    rw [signs_eq, List.map_map] at this
    have e : (z.cps.toList).map (f ∘ sg) = z.cps.toList := (List.map_congr_left (fun c _ => fs c)).trans (List.map_id _)
    rw [e] at this
    exact this
theorem eqvAll_strs : ∀ (xs ys : List Str), PyData.eqvAll (xs.map .str) (ys.map .str) = decide (xs = ys)
  | [], [] => by simp [PyData.eqvAll]
  | [], y :: ys => by simp [PyData.eqvAll]
  | x :: xs, [] => by simp [PyData.eqvAll]
  | x :: xs, y :: ys => by
    have ih := eqvAll_strs xs ys
    simp only [List.map_cons, PyData.eqvAll, PyData.eqv, ih]
    by_cases h1 : x = y <;> by_cases h2 : xs = ys <;> simp [h1, h2]
theorem sorted_eq_iff {z w : Str} {ys ws : List Str} (h1 : ys.Perm (signs z)) (s1 : sortedS ys = true) (h2 : ws.Perm (signs w)) (s2 : sortedS ws = true) :
    PyData.eqv (.list (ys.map .str)) (.list (ws.map .str)) = decide (z.cps.toList.Perm w.cps.toList) := by
  obtain ⟨cs, rfl, p1⟩ := perm_signs h1
  obtain ⟨ds, rfl, p2⟩ := perm_signs h2
  have q1 := sorted_pw cs s1
  have q2 := sorted_pw ds s2
  show PyData.eqvAll _ _ = _
  rw [eqvAll_strs]
  apply decide_eq_decide.mpr
  constructor
  · intro e
    have e2 : cs = ds := by
      have := congrArg (List.map fun s : Str => s.cps.toList.headD 0) e
      simpa [List.map_map, Function.comp_def] using this
    subst e2
    exact p1.symm.trans p2
  · intro e
    have p : cs.Perm ds := (p1.trans e).trans p2.symm
    rw [p.eq_of_pairwise (fun a b _ _ h1 h2 => Nat.le_antisymm h1 h2) q1 q2]
end Bt
namespace Bt
open PySem PySem.Spec PyProof.Rows L2
/-! ### a def as it stands behind the top, by its name alone -/
structure Df (K : PySem.W.Frag) (mg : Str → Option Value) (x : Str) (st : Stmt) (ps : List Str) : Prop where
  ex : ∃ (f : Addr) (fd : FuncData), Fun K x x st f fd ∧ mg x = some (.ref f) ∧ Binds K fd ps []
/-- a def that raises nothing, with its promise -/
structure Cal (P : Program) (w : World) (K : PySem.W.Frag) (mg : Str → Option Value) (base : Heap) (k : Nat) (x : Str) (sp : Sp) : Prop where
  ex : ∃ (f : Addr) (fd : FuncData) (ps : List Str), FnOk P w K mg base CX0 k f fd ps sp ∧ mg x = some (.ref f) ∧ PySem.W.keepIn K (.ref f) = true ∧ Binds K fd ps []
/-- one that may raise -/
structure CalX (P : Program) (w : World) (K : PySem.W.Frag) (mg : Str → Option Value) (base : Heap) (k : Nat) (x : Str) (sp : Sp) : Prop where
  ex : ∃ (f : Addr) (fd : FuncData) (ps : List Str), FnOk P w K mg base (L2.CX P w) k f fd ps sp ∧ mg x = some (.ref f) ∧ PySem.W.keepIn K (.ref f) = true ∧ Binds K fd ps []
section
variable {P : Program} {w : World} {K : PySem.W.Frag} {mg : Str → Option Value} {base : Heap} {x : Str} {st : Stmt} {N ps : List Str} {k : Nat} {sp : Sp}
theorem Df.cal (D : Df K mg x st ps) (S : FnScope N ps (defScope st)) (len : ∀ vs H Q E, sp vs H Q E → vs.length = ps.length)
    (hbody : ∀ (f : Addr) (cdv : Value) (A : Around) (outer : List Env) (s : Shared) (H : Hp) (vs : List V) (Q : VK) (E : XK), Room k (A.deeper (envOfC x (defScope st) s.heap.objs.size f cdv)) → sp vs H Q E →
      ∃ t, PSs (cxOf CX0 P w K mg base N x (defScope st) f cdv A outer s H E).nox (defBody st) t ∧ t { nx := fun _ H' => Q .non H', rt := Q } (start N vs) H) : Cal P w K mg base (k + 1) x sp := by
  obtain ⟨f, fd, F, g, b⟩ := D.ex
  exact ⟨⟨f, fd, ps, F.ok S len (hbody f), g, F.kp, b⟩⟩
theorem Df.calX (D : Df K mg x st ps) (S : FnScope N ps (defScope st)) (len : ∀ vs H Q E, sp vs H Q E → vs.length = ps.length)
    (hbody : ∀ (f : Addr) (cdv : Value) (A : Around) (outer : List Env) (s : Shared) (H : Hp) (vs : List V) (Q : VK) (E : XK), Room k (A.deeper (envOfC x (defScope st) s.heap.objs.size f cdv)) → sp vs H Q E →
      ∃ t, PSs (cxOf (L2.CX P w) P w K mg base N x (defScope st) f cdv A outer s H E) (defBody st) t ∧ t { nx := fun _ H' => Q .non H', rt := Q } (start N vs) H) : CalX P w K mg base (k + 1) x sp := by
  obtain ⟨f, fd, F, g, b⟩ := D.ex
  exact ⟨⟨f, fd, ps, F.okX S len (hbody f), g, F.kp, b⟩⟩
end
section
variable {X : Cx} {k j : Nat} {x : Str} {sp : Sp} {p pos : Pos} {e : Expr} {es : List Expr} {t : TA}
theorem pe_c (c : Cal X.prog X.w X.K X.mg X.base k x sp) (hr : Room j X.A) (hk : k ≤ j) (hg : Gl X x) (ha : PA X (e :: es) t)
    (hdb : (x == ("__debug__" : Str)) = false := by decide) (he : starEach (e :: es) X.env = (false, eval e X.env) :: starEach es X.env := by rfl) (hpl : (backTo pos (starEach es X.env)).any (·.1) = false := by rfl) :
    PE X (.Call (.Name x p) (e :: es) [] pos) (tCall sp [] E0 t) := by
  obtain ⟨f, fd, ps, F, hm, kp, b⟩ := c.ex
  exact pe_call F (hr.mono hk) hg hm kp b .nil pass0 ha hdb he hpl
/-- a def that may raise, called where it does not -/
theorem pe_cx0 (c : CalX X.prog X.w X.K X.mg X.base k x sp) (hr : Room j X.A) (hk : k ≤ j) (hg : Gl X x) (ha : PA X (e :: es) t)
    (hdb : (x == ("__debug__" : Str)) = false := by decide) (he : starEach (e :: es) X.env = (false, eval e X.env) :: starEach es X.env := by rfl) (hpl : (backTo pos (starEach es X.env)).any (·.1) = false := by rfl) :
    PE X (.Call (.Name x p) (e :: es) [] pos) (tCall sp [] E0 t) := by
  obtain ⟨f, fd, ps, F, hm, kp, b⟩ := c.ex
  exact pe_call F (hr.mono hk) hg hm kp b .nil passL ha hdb he hpl
end
/-! ### kinds of values -/
/-- a value of a built-in kind, with its type's name -/
def Ty (K : PySem.W.Frag) (H : Hp) (x : V) (T : String) : Prop := TyX K H x (.type T)
theorem kit_is {K : PySem.W.Frag} {a b : String} (h : (a == b) = true) : PySem.W.kitOne K (.type a) (.type b) = some true := kit_ty (by
  have e : a = b := by simpa using h
  subst e
  unfold kitB
  rw [if_pos (by simp)])
/-- the kinds that data have, and what isinstance says of them -/
inductive Kd : String → Prop where
  | non : Kd "NoneType" | bl : Kd "bool" | int : Kd "int" | str : Kd "str" | lst : Kd "list" | tup : Kd "tuple" | dct : Kd "dict"
def subKd (a b : String) : Bool := a == b || (a == "bool" && b == "int")
theorem kit_kd {K : PySem.W.Frag} {a b : String} (ha : Kd a) (hb : Kd b) : PySem.W.kitOne K (.type a) (.type b) = some (subKd a b) := by
  cases ha <;> cases hb <;> exact kit_ty (by decide +kernel)
/-- a plain value: data at its top -/
def Pl (K : PySem.W.Frag) (H : Hp) (x : V) (T : String) : Prop := TyX K H x (.type T) ∧ Kd T
theorem q_isi {K : PySem.W.Frag} {H : Hp} {Q : VK} {x : V} {a b : String} (h : Pl K H x a) (hb : Kd b) (q : Q (.bl (subKd a b)) H) : rIsi K [x, .ty b] H Q :=
  ⟨x, .ty b, .type a, .type b, subKd a b, rfl, .ty b, h.1, kit_kd h.2 hb, q⟩
theorem Pl.non {K : PySem.W.Frag} {H : Hp} : Pl K H .non "NoneType" := ⟨.base .non, .non⟩
theorem Pl.bl {K : PySem.W.Frag} {H : Hp} {b : Bool} : Pl K H (.bl b) "bool" := ⟨.base (.bl b), .bl⟩
theorem Pl.int {K : PySem.W.Frag} {H : Hp} {i : Int} : Pl K H (.int i) "int" := ⟨.base (.int i), .int⟩
theorem Pl.str {K : PySem.W.Frag} {H : Hp} {z : Str} : Pl K H (.str z) "str" := ⟨.base (.str z), .str⟩
theorem Pl.lst {K : PySem.W.Frag} {H : Hp} {a : Addr} {xs : List V} (h : H a = some (.lst xs)) : Pl K H (.ref a) "list" := ⟨.base (.lst h), .lst⟩
theorem Pl.tup {K : PySem.W.Frag} {H : Hp} {a : Addr} {xs : List V} (h : H a = some (.tup xs)) : Pl K H (.ref a) "tuple" := ⟨.base (.tup h), .tup⟩
theorem TyX.mono {K : PySem.W.Frag} {H H' : Hp} {x : V} {t : Value} (S : Same H H') (h : TyX K H x t) : TyX K H' x t := by
  cases h with
  | base b =>
    cases b with
    | non => exact .base .non
    | bl z => exact .base (.bl z)
    | int z => exact .base (.int z)
    | str z => exact .base (.str z)
    | flt z => exact .base (.flt z)
    | lst e => exact .base (.lst (S _ _ e))
    | frz e => exact .base (.frz (S _ _ e))
    | tup e => exact .base (.tup (S _ _ e))
    | dK e => exact .base (.dK (S _ _ e))
    | dT e => exact .base (.dT (S _ _ e))
    | ins e cl ha hn htk hm => exact .base (.ins (S _ _ e) cl ha hn htk hm)
  | byt b => exact .byt b
  | set e => exact .set (S _ _ e)
  | kList e c => exact .kList e c
  | kTuple e c => exact .kTuple e c
  | kDict e c => exact .kDict e c
  | fTuple e => exact .fTuple (S _ _ e)
  | fDict e => exact .fDict (S _ _ e)
theorem Pl.mono {K : PySem.W.Frag} {H H' : Hp} {x : V} {T : String} (S : Same H H') (h : Pl K H x T) : Pl K H' x T := ⟨TyX.mono S h.1, h.2⟩
theorem ty_ne {a b : String} {p : Prop} (e : Value.type a = Value.type b) (h : a ≠ b) : p := absurd (Value.type.inj e) h
theorem Pl.is_str {K : PySem.W.Frag} {H : Hp} {z : Str} {T : String} (h : Pl K H (.str z) T) : T = "str" := by
  have key : ∀ t, TyX K H (.str z) t → t = .type "str" := fun t h => by
    cases h with
    | base b => cases b; rfl
  exact Value.type.inj (key _ h.1)
theorem Pl.is_int {K : PySem.W.Frag} {H : Hp} {z : Int} {T : String} (h : Pl K H (.int z) T) : T = "int" := by
  have key : ∀ t, TyX K H (.int z) t → t = .type "int" := fun t h => by
    cases h with
    | base b => cases b; rfl
  exact Value.type.inj (key _ h.1)
theorem Pl.is_bl {K : PySem.W.Frag} {H : Hp} {z : Bool} {T : String} (h : Pl K H (.bl z) T) : T = "bool" := by
  have key : ∀ t, TyX K H (.bl z) t → t = .type "bool" := fun t h => by
    cases h with
    | base b => cases b; rfl
  exact Value.type.inj (key _ h.1)
theorem Pl.of_str {K : PySem.W.Frag} {H : Hp} {x : V} {T : String} (h : Pl K H x T) (e : T = "str") : ∃ z, x = .str z := by
  have key : ∀ t, TyX K H x t → t = .type "str" → ∃ z, x = .str z := fun t h e => by
    cases h with
    | base b =>
      cases b with
      | str z => exact ⟨z, rfl⟩
      | ins _ _ _ _ _ _ => cases e
      | _ => exact ty_ne e (by decide)
    | _ => exact ty_ne e (by decide)
  exact key _ h.1 (by rw [e])
theorem Pl.of_int {K : PySem.W.Frag} {H : Hp} {x : V} {T : String} (h : Pl K H x T) (e : T = "int") : ∃ z, x = .int z := by
  have key : ∀ t, TyX K H x t → t = .type "int" → ∃ z, x = .int z := fun t h e => by
    cases h with
    | base b =>
      cases b with
      | int z => exact ⟨z, rfl⟩
      | ins _ _ _ _ _ _ => cases e
      | _ => exact ty_ne e (by decide)
    | _ => exact ty_ne e (by decide)
  exact key _ h.1 (by rw [e])
/-- the object at a stands where the abstract heap has grown -/
theorem q_sortTx {H : Hp} {Q : VK} {z : Str} (h : z.length < 64) (q : ∀ (ys : List Str) (p : Addr) H', H p = none → Same H H' → H' p = some (.lst (ys.map V.str)) → ys.Perm (signs z) → sortedS ys = true → Q (.ref p) H') : rSortTx [.str z] H Q :=
  ⟨z, rfl, h, fun ys p h1 h2 n => q ys p _ n (Same.new n) upd_same h1 h2⟩
theorem dp_strs {K : PySem.W.Frag} {H : Hp} : ∀ ys : List Str, DpAll K H (ys.map V.str) (ys.map PyData.str)
  | [] => .nil
  | y :: ys => .cons (.str y) (dp_strs ys)
theorem dp_lst_strs {K : PySem.W.Frag} {H : Hp} {p : Addr} {ys : List Str} (h : H p = some (.lst (ys.map V.str))) : Dp K H (.ref p) (.list (ys.map PyData.str)) := .lst (SqL.of h) (dp_strs ys)
def Asc (z : Str) : Prop := ∀ c ∈ z.cps.toList, c < 128
theorem Asc.ok {z : Str} (h : Asc z) : PyData.strOk z = true := by
  unfold PyData.strOk
  rw [← Array.all_toList, List.all_eq_true]
  intro c hc
  have := h c hc
  exact decide_eq_true (by omega)
theorem canLay_strs : ∀ (ys : List Str), (∀ y ∈ ys, Asc y) → PyData.canLayAll0 (ys.map PyData.str) = true
  | [], _ => rfl
  | y :: ys, h => by
    simp only [List.map_cons, PyData.canLayAll0, PyData.canLay0, Bool.and_eq_true]
    exact ⟨(h y List.mem_cons_self).ok, canLay_strs ys fun z hz => h z (List.mem_cons_of_mem _ hz)⟩
theorem depth_strs : ∀ (ys : List Str), PyData.depthAll (ys.map PyData.str) = 0
  | [] => rfl
  | y :: ys => by simp only [List.map_cons, PyData.depthAll, PyData.depth, depth_strs ys]; rfl
theorem shaped_strs {ys : List Str} (h : ∀ y ∈ ys, Asc y) : SeqAt.shaped (.list (ys.map PyData.str)) = true := by
  unfold SeqAt.shaped
  rw [Bool.and_eq_true]
  refine ⟨?_, ?_⟩
  · simp only [PyData.canLay0]; exact canLay_strs ys h
  · simp only [PyData.depth, depth_strs]; decide
theorem asc_signs {z : Str} (h : Asc z) : ∀ y ∈ signs z, Asc y := fun y hy c hc => by
  unfold signs at hy
  obtain ⟨d, hd, rfl⟩ := List.mem_map.mp hy
  have : c = d := by simpa using hc
  subst this
  exact h _ hd
theorem shaped_sorted {z : Str} {ys : List Str} (h : Asc z) (p : ys.Perm (signs z)) : SeqAt.shaped (.list (ys.map PyData.str)) = true := shaped_strs fun y hy => asc_signs h y (p.mem_iff.mp hy)
theorem asc_alpha : Asc alphaS := fun c hc => by
  rw [alphaS_cps] at hc
  have := (mem_alpha.mp hc).2
  omega
end Bt
namespace Bt
open PySem PySem.Spec PyProof.Rows L2
theorem SqT_mono {K : PySem.W.Frag} {H H' : Hp} {a : Addr} {xs : List V} (e : Same H H') (h : SqT K H a xs) : SqT K H' a xs := by
  rcases h with (h | ⟨o, h⟩) | h
  · exact .inl (.inl (e _ _ h))
  · exact .inl (.inr ⟨o, e _ _ h⟩)
  · exact .inr h
mutual
theorem Dp.mono {K : PySem.W.Frag} {H H' : Hp} (S : Same H H') : ∀ {v : V} {d : PyData}, Dp K H v d → Dp K H' v d
  | _, _, .non => .non
  | _, _, .bl b => .bl b
  | _, _, .int i => .int i
  | _, _, .str x => .str x
  | _, _, .lst h r => .lst (S.seq h) (DpAll.mono S r)
  | _, _, .tup h r => .tup (SqT_mono S h) (DpAll.mono S r)
theorem DpAll.mono {K : PySem.W.Frag} {H H' : Hp} (S : Same H H') : ∀ {vs : List V} {ds : List PyData}, DpAll K H vs ds → DpAll K H' vs ds
  | _, _, .nil => .nil
  | _, _, .cons h r => .cons (Dp.mono S h) (DpAll.mono S r)
end
/-! ### an own error with one field, stored by its __init__ -/
def spExc (C : Addr) (fld : Str) : Sp := fun vs H Q _ => ∃ a v, vs = [.ref a, v] ∧ H a = some (exo a C none) ∧ ∀ dx, H dx = none → dx ≠ a → Q .non (upd (upd H dx (exd dx [(fld, v)])) a (exo a C (some dx)))
structure ExcF (K : PySem.W.Frag) (mg : Str → Option Value) (x fld : Str) (C : Addr) : Prop where
  g : mg x = some (.ref C)
  T : OexC K C
  no : PySem.W.findIn K (.ref C) fld = some none
  xf : XfC K C
  te : PySem.W.exmOne K (.ref C) (.ref C) = some true
  init : ∃ (f : Addr) (fd : FuncData) (qual : Str) (params : Arguments) (scope : Scope) (q1 q2 q3 q4 : Pos),
    PySem.W.findIn K (.ref C) "__init__" = some (some (.ref f)) ∧ PySem.W.typeIn K (.ref f) = some (.type "function") ∧
    FunD K "__init__" qual params [.Assign [.Attribute (.Name "self" q1) fld q2] (.Name fld q3) q4] scope [.non] [] f fd ∧ FnScope ["self", fld] ["self", fld] scope ∧ Binds K fd ["self", fld] []
section
variable {P : Program} {w : World} {K : PySem.W.Frag} {mg : Str → Option Value} {base : Heap} {x fld : Str} {C : Addr}
theorem exc_init {f : Addr} {fd : FuncData} {qual : Str} {params : Arguments} {scope : Scope} {q1 q2 q3 q4 : Pos} (T : OexC K C) (no : PySem.W.findIn K (.ref C) fld = some none)
    (F : FunD K "__init__" qual params [.Assign [.Attribute (.Name "self" q1) fld q2] (.Name fld q3) q4] scope [.non] [] f fd) (S : FnScope ["self", fld] ["self", fld] scope) (hd : (fld == ("__debug__" : Str)) = false) (hcd : (fld == ("__classdict__" : Str)) = false) :
    FnOk P w K mg base CX0 1 f fd ["self", fld] (spExc C fld) := by
  refine F.ok S (fun vs H Q E h => ?_) (fun cdv A outer s H vs Q E hr h => ?_)
  · obtain ⟨a, v, rfl, _⟩ := h
    rfl
  · obtain ⟨a, v, rfl, ha, k⟩ := h
    have v1 : Vis scope "self" := (S.par "self" List.mem_cons_self).elim .inl fun z => .inr (.inl z)
    have v2 : Vis scope fld := (S.par fld (List.mem_cons_of_mem _ List.mem_cons_self)).elim .inl fun z => .inr (.inl z)
    refine ⟨_, pss_one (ps_ost (pe_var (i := 0) rfl v1 (by decide) (by decide)) (pe_var (i := 1) rfl v2 hd hcd) (by rfl)), ?_⟩
    exact ⟨v, rfl, .ref a, rfl, a, C, rfl, T, no, .inl ⟨ha, fun dx n ne => k dx n ne⟩⟩
end
section
variable {X : Cx} {x fld : Str} {C : Addr} {k : Nat} {W : WX} {e : Expr} {te : TE} {p pos pos2 : Pos}
/-- what is wished may be weakened -/
def tMono (te : TE) : TE := fun σ H Q => ∃ Q' : VK, te σ H Q' ∧ ∀ v H1, Q' v H1 → Q v H1
theorem PE.mono (he : PE X e te) : PE X e (tMono te) := ⟨fun pins s σ H Q I h => by
  obtain ⟨Q', h1, h2⟩ := h
  refine thn (he.run pins s σ H Q' I h1) fun u s' z => ?_
  obtain ⟨v, H', I', r, q⟩ := z
  exact ⟨v, H', I', r, h2 v H' q⟩⟩
/-- raise C(e) -/
def tRaise1 (C : Addr) (fld : Str) (W : WX) (te : TE) : TS := fun _ σ H => te σ H fun v H1 => ∀ d H3, H1 d = none → Same H1 H3 → H3 d = some (.xd [(fld, v)]) → W (.ref C) (some d) σ H3
theorem ps_raise1 (hc : X.calm = true) (B : ExcF X.K X.mg x fld C) (hr : Room k X.A) (hk : 2 ≤ k) (tk : Takes X W) (he : PE X e te) (hg : Gl X x := by rfl) (hd : (fld == ("__debug__" : Str)) = false := by decide) (hcd : (fld == ("__classdict__" : Str)) = false := by decide)
    (hdb : (x == ("__debug__" : Str)) = false := by decide) (h1 : starEach (e :: []) X.env = (false, eval e X.env) :: starEach [] X.env := by rfl) (h2 : (backTo pos (starEach [] X.env)).any (·.1) = false := by rfl) :
    PS X (.Raise (some (.Call (.Name x p) [e] [] pos)) none pos2) (tRaise1 C fld W te) := by
  obtain ⟨f, fd, qual, params, scope, q1, q2, q3, q4, i1, i2, F, S, b⟩ := B.init
  have m := pmk_oex (sp := spExc C fld) (dvs := []) (p := p) (pos := pos) B.T i1 i2 (exc_init B.T B.no F S hd hcd) (hr.mono hk) b .nil pass0 hg B.g (pa_cons (PE.mono he) pa_nil h1) hdb h1 h2
  have q := ps_raise (pos := pos2) hc tk m
  refine ⟨fun pins s σ H D I h => q.run pins s σ H D I ?_⟩
  have key : ∀ v H1, (∀ d H3, H1 d = none → Same H1 H3 → H3 d = some (.xd [(fld, v)]) → W (.ref C) (some d) σ H3) →
      ([v].length ≤ 1000 ∧ ∀ a, H1 a = none → spExc C fld (.ref a :: ([v] ++ [])) (upd H1 a (exo a C none))
        (fun v H2 => v = .non ∧ ∃ (d : Addr) (fs : List (Str × V)), H2 a = some (exo a C (some d)) ∧ H2 d = some (exd d fs) ∧ H1 d = none ∧ W (.ref C) (some d) σ (upd (del H2 a) d (.xd fs))) (fun _ _ _ => False)) := fun v H1 z => by
    refine ⟨by show 1 ≤ 1000; decide, fun a ha => ⟨a, v, rfl, upd_same, fun dx n ne => ⟨rfl, dx, _, upd_same, by rw [upd_ne ne, upd_same], ?_, ?_⟩⟩⟩
    · rw [upd_ne ne] at n; exact n
    · have n1 : H1 dx = none := by rw [upd_ne ne] at n; exact n
      refine z dx _ n1 (fun b o e => ?_) upd_same
      have nb : b ≠ dx := ne_of_none e n1
      have na : b ≠ a := ne_of_none e ha
      rw [upd_ne nb, del_ne na, upd_ne na, upd_ne nb, upd_ne na]
      exact e
  exact ⟨_, h, fun v H1 z => key v H1 z⟩
theorem s_raise1 {C : Addr} {fld : Str} {W : WX} {te : TE} {D : Ends} {σ : L2.St} {H : Hp} (h : te σ H fun v H1 => ∀ d H3, H1 d = none → Same H1 H3 → H3 d = some (.xd [(fld, v)]) → W (.ref C) (some d) σ H3) : tRaise1 C fld W te D σ H := h
end
end Bt
namespace Bt
open PySem PySem.Spec PyProof.Rows L2
theorem app_cps (a b : Str) : (a ++ b).cps.toList = a.cps.toList ++ b.cps.toList := by
  show (a.cps ++ b.cps).toList = _
  simp
theorem len_cps (z : Str) : z.length = z.cps.toList.length := (Array.length_toList).symm
theorem app_len (a b : Str) : (a ++ b).length = a.length + b.length := by
  rw [len_cps, len_cps, len_cps, app_cps, List.length_append]
theorem cut_cps (z : Str) (lo hi : Option Int) : (cutS z lo hi).cps.toList = (z.cps.toList.drop (HT.sIx z.length 0 lo)).take (HT.sIx z.length z.length hi - HT.sIx z.length 0 lo) := rfl
theorem cut_from {z : Str} {i : Int} (h0 : 0 ≤ i) : (cutS z (some i) none).cps.toList = z.cps.toList.drop i.toNat := by
  obtain ⟨k, rfl⟩ : ∃ k : Nat, i = k := ⟨i.toNat, by omega⟩
  rw [cut_cps, HT.sIx_nat, HT.sIx_none, Int.toNat_natCast, len_cps]
  rcases Nat.le_total k z.cps.toList.length with h | h
  · rw [Nat.min_eq_left h, List.take_of_length_le (by rw [List.length_drop]; omega)]
  · rw [Nat.min_eq_right h, List.drop_of_length_le (Nat.le_refl _), List.drop_of_length_le h, List.take_nil]
theorem cut_to {z : Str} {j : Int} (h0 : 0 ≤ j) : (cutS z none (some j)).cps.toList = z.cps.toList.take j.toNat := by
  obtain ⟨k, rfl⟩ : ∃ k : Nat, j = k := ⟨j.toNat, by omega⟩
  rw [cut_cps, HT.sIx_nat, HT.sIx_none, Int.toNat_natCast, len_cps, List.drop_zero, Nat.sub_zero]
  rcases Nat.le_total k z.cps.toList.length with h | h
  · rw [Nat.min_eq_left h]
  · rw [Nat.min_eq_right h, List.take_of_length_le (Nat.le_refl _), List.take_of_length_le h]
theorem cut_mid {z : Str} {i j : Int} (h0 : 0 ≤ i) (h1 : 0 ≤ j) (h2 : i ≤ z.length) (h3 : j ≤ z.length) : (cutS z (some i) (some j)).cps.toList = (z.cps.toList.drop i.toNat).take (j.toNat - i.toNat) := by
  obtain ⟨k, rfl⟩ : ∃ k : Nat, i = k := ⟨i.toNat, by omega⟩
  obtain ⟨m, rfl⟩ : ∃ k : Nat, j = k := ⟨j.toNat, by omega⟩
  rw [cut_cps, HT.sIx_nat, HT.sIx_nat, Int.toNat_natCast, Int.toNat_natCast, Nat.min_eq_left (by omega), Nat.min_eq_left (by omega)]
theorem Letters.len {z : Str} (h : Letters z) : z.length = 26 := by rw [len_cps, h.length_eq, alpha_len]
theorem Letters.asc {z : Str} (h : Letters z) : Asc z := fun c hc => by
  have := (mem_alpha.mp (h.mem_iff.mp hc)).2
  omega
theorem letters_alpha : Letters alphaS := by unfold Letters; rw [alphaS_cps]
theorem letters_rev : Letters (revT alphaS) := by decide +kernel
theorem perm_rot {l : List Nat} (k : Nat) : (l.drop k ++ l.take k).Perm l := by
  refine List.perm_append_comm.trans ?_
  rw [List.take_append_drop]
theorem letters_rot {z a b : Str} {k : Nat} (h : Letters z) (ha : a.cps.toList = z.cps.toList.drop k) (hb : b.cps.toList = z.cps.toList.take k) : Letters (a ++ b) := by
  unfold Letters
  rw [app_cps, ha, hb]
  exact (perm_rot k).trans h
theorem perm_pull {l : List Nat} {t a : Nat} {c : Nat} (hta : t ≤ a) (hc : l[a]? = some c) : (l.take t ++ [c] ++ ((l.drop t).take (a - t) ++ l.drop (a + 1))).Perm l := by
  obtain ⟨ha, ec⟩ := List.getElem?_eq_some_iff.mp hc
  have e1 : l = l.take t ++ ((l.drop t).take (a - t) ++ (c :: l.drop (a + 1))) := by
    have h1 : l.drop t = (l.drop t).take (a - t) ++ (l.drop t).drop (a - t) := (List.take_append_drop _ _).symm
    have h2 : (l.drop t).drop (a - t) = l.drop a := by rw [List.drop_drop]; congr 1; omega
    have h3 : l.drop a = c :: l.drop (a + 1) := by rw [List.drop_eq_getElem_cons ha, ec]
    rw [← h3, ← h2, ← h1, List.take_append_drop]
  have e2 : (l.take t ++ [c] ++ ((l.drop t).take (a - t) ++ l.drop (a + 1))).Perm (l.take t ++ ((l.drop t).take (a - t) ++ (c :: l.drop (a + 1)))) := by
    rw [List.append_assoc]
    refine List.Perm.append_left _ ?_
    show ([c] ++ ((l.drop t).take (a - t) ++ l.drop (a + 1))).Perm _
    exact (List.perm_middle (a := c) (l₁ := (l.drop t).take (a - t)) (l₂ := l.drop (a + 1))).symm
  rw [← e1] at e2
  exact e2
theorem letters_pull {z x y r : Str} {t a c : Nat} (h : Letters z) (hta : t ≤ a) (hc : z.cps.toList[a]? = some c) (hx : x.cps.toList = z.cps.toList.take t) (hy : y.cps.toList = [c]) (hr : r.cps.toList = (z.cps.toList.drop t).take (a - t) ++ z.cps.toList.drop (a + 1)) : Letters (x ++ y ++ r) := by
  unfold Letters
  rw [app_cps, app_cps, hx, hy, hr]
  exact (perm_pull hta hc).trans h
end Bt
namespace Bt
open PySem PySem.Spec PyProof.Rows L2
section
variable {X : Cx}
/-- a tuple == an instance of an own class: the class's own __eq__ answers -/
def rEqTupOwn (K : PySem.W.Frag) (C : Addr) (sp : Sp) (E : XK) : R2 := fun x y H Q => ∃ t xs a dx fs, x = .ref t ∧ H t = some (.tup xs) ∧ y = .ref a ∧ H a = some (.ins C dx fs) ∧ sp [y, x] H (fun v H' => ∃ b, v = .bl b ∧ Q v H') E
theorem op_eqTupOwn {CX : CXT} {n : Nat} {C f : Addr} {fd : FuncData} {ps : List Str} {sp : Sp} {E : XK} (F : FnOk X.prog X.w X.K X.mg X.base CX n f fd ps sp) (hr : Room n X.A)
    (hs : PySem.W.findIn X.K (.ref C) "__eq__" = some (some (.ref f))) (hf : PySem.W.isFn X.K (.ref f) = true) (hb : Binds X.K fd ps []) (hx : Passes CX X E)
    (hsub : PySem.W.subIn X.K (.ref C) (.type "tuple") = some false) (hmro : PySem.W.mroIn X.K C (.type "tuple") = some false) : OpR X (compareOp .Eq) (rEqTupOwn X.K C sp E) := by
  intro pins s σ H x y v u Q I rx ry hq
  obtain ⟨t, xs, a, dx, fs, rfl, ht, rfl, ha, hsp⟩ := hq
  cases rx
  cases ry
  obtain ⟨mA, J, _⟩ := ins_get I.hok ha
  obtain ⟨od, J, _⟩ := J.look
  obtain ⟨m, hF⟩ := I.fr
  obtain ⟨its, r, pl, hz⟩ := I.tuple (.inl (.inl ht))
  have XK := I.kIn
  have hT : s.TypeIs (.ref t) "tuple" := pl.typeIs
  show wpAny (model X.prog X.w) X.A (richCompare .Eq (.ref t) (.ref a)) (EP X pins σ Q) X.xe s
  have inst : PySem.W.Looks (model X.prog X.w) s.heap (isInstance (.ref a) (.type "tuple")) false := J.type.andThen (PySem.W.looks_mroIn XK hmro)
  unfold richCompare
  simp only [oneThing_ref]
  refine wpAny_holding (wpAny_bind (wpAny_cRoomFor hr.units0 ?_))
  refine wpAny_bind (wpAny_typeOf hT (wpAny_bind (J.type.here ?_)))
  rw [if_pos (by rfl)]
  refine wpAny_bind ((PySem.W.looks_subIn XK hsub).here ?_)
  simp only [Bool.false_eq_true, if_false]
  refine wpAny_bind (wpAny_tryCompare_declines hT PySem.F.slot_tuple_eq (wpAny_call_entry PySem.F.slot_tuple_eq hT PySem.F.entry_tuple_eq ?_ (PySem.F.args_tuple_eq_2 _ _)))
  have hl := F.len _ _ _ _ hsp
  have r2 : Vals [V.ref a, V.ref t] [Value.ref a, Value.ref t] := .cons rfl (.cons rfl .nil)
  have back : ∀ s' : Shared, s' = s → wpAny (model X.prog X.w) X.A (tryCompare (.ref a) "__eq__" (.ref t)) (fun r s' => ∃ v, r = some v ∧ EP X pins σ Q v s') X.xe s' := fun s' e => by
    subst e
    unfold tryCompare
    refine wpAny_bind (PySem.W.ifBound_K XK J hs hf (wpAny_call (codeAny_mono (F.run X.A X.stack s' H ⟨[.ref a, .ref t], []⟩ [.ref a, .ref t] [.ref a, .ref t] _ E hr I.env0 (by
      have := hb s' [.ref a, .ref t] I.kIn (by simpa using hl)
      simpa using this) r2 hsp) fun r s' hq => ?_)))
    cases r with
    | error e => exact hx pins σ H _ e s' I hq
    | ok fl =>
      cases fl with
      | ret w =>
        obtain ⟨z, H', I', rz, b, ez, q⟩ := I.after hq
        subst ez
        cases rz
        exact wpAny_pure ⟨_, rfl, .bl b, H', I', rfl, q⟩
      | next => exact False.elim hq
      | brk => exact False.elim hq
      | cont => exact False.elim hq
  have step : ∀ s' : Shared, s' = s → wpAny (model X.prog X.w) X.A.in1 (Builtin.«tuple.__eq__» ⟨[.ref t, .ref a], []⟩) (fun fin s'' => fin = Fin.done (Flow.ret Value.notImplemented) ∧ s'' = s) X.xe s' := fun s' e => by
    subst e
    obtain ⟨hp, g, d, tk, os⟩ := s'
    unfold Builtin.«tuple.__eq__»
    wp_delta
    repeat (first | with_reducible refine inst.at ?_ | wp_step)
    exact ⟨rfl, rfl⟩
  refine wpAny_mono (step s rfl) (fun fin s' z => ?_) fun _ _ x => x
  obtain ⟨e1, e2⟩ := z
  subst e1 e2
  refine ⟨_, rfl, rfl, ?_⟩
  rw [if_pos (by rfl)]
  refine wpAny_bind (wpAny_mono (back _ rfl) (fun r s' z => ?_) fun _ _ x => x)
  obtain ⟨v, rfl, q⟩ := z
  exact wpAny_pure q
end
/-- for i, x in enumerate(xs) -/
theorem for_enum {K : PySem.W.Frag} {a : Addr} {xs : List V} {g : TG} {tb : TS} {D : Ends} {σ : L2.St} {H : Hp} (Pv : Nat → L2.St → Hp → Prop) (h0 : Pv 0 σ H) (hl : ∀ i σ H, i ≤ xs.length → Pv i σ H → SqL K H a xs)
    (hs : ∀ i x σ H T, xs[i]? = some x → Pv i σ H → H T = none → g (.ref T) σ (upd H T (.tup [.int (i : Nat), x])) fun σ2 H2 => tb { D with nx := Pv (i + 1), ct := Pv (i + 1), bk := D.nx } σ2 H2) (hd : ∀ σ H, Pv xs.length σ H → D.nx σ H) :
    ∃ W : Nat → Nat → L2.St → Hp → Prop, (∃ m, W 0 m σ H) ∧ ∀ i m σ H, W i m σ H →
      ((Ite K a).stop i H ∧ D.nx σ H) ∨ ((Ite K a).go i H ∧ ∃ N : L2.St → Hp → Prop, (∀ σ' H', N σ' H' → ∃ m', m' < m ∧ W (i + 1) m' σ' H') ∧ ∀ x H', (Ite K a).yld i H x H' → g x σ H' fun σ2 H2 => tb { D with nx := N, ct := N, bk := D.nx } σ2 H2) := by
  refine ⟨fun i m σ H => m = xs.length - i ∧ i ≤ xs.length ∧ Pv i σ H, ⟨xs.length, by simp, Nat.zero_le _, h0⟩, ?_⟩
  rintro i m σ H ⟨rfl, hi, p⟩
  have q := hl i σ H hi p
  by_cases hlt : i < xs.length
  · refine .inr ⟨⟨xs, xs[i], q, by simp [hlt]⟩, Pv (i + 1), fun σ' H' p' => ⟨xs.length - (i + 1), by omega, rfl, hlt, p'⟩, fun x H' y => ?_⟩
    obtain ⟨T, x0, e1, nT, e2, y⟩ := y
    subst e1 e2
    exact hs i x0 σ _ T (y xs q) p nT
  · have e : i = xs.length := by omega
    subst e
    exact .inl ⟨⟨xs, q, Nat.le_refl _⟩, hd σ H p⟩
theorem s_iList {K : PySem.W.Frag} {te : TE} {σ : L2.St} {H : Hp} {R : It → Hp → Prop} (h : te σ H fun x H1 => ∃ a, x = .ref a ∧ (∃ xs, SqL K H1 a xs) ∧ R (Itl K a) H1) : iList K te σ H R := h
theorem s_iEnum {K : PySem.W.Frag} {ts : TA} {σ : L2.St} {H : Hp} {R : It → Hp → Prop} (h : ts σ H fun vs H1 => ∃ a xs, vs = [.ref a] ∧ SqL K H1 a xs ∧ R (Ite K a) H1) : iEnum K ts σ H R := h
theorem same_but {p : Addr} {H0 H1 H2 : Hp} (S : Same H0 H1) (n : H0 p = none) (b : But p H1 H2) : Same H0 H2 := fun c o h => b c o (ne_of_none h n) (S c o h)
theorem s_par {i j : Nat} {ta : TA} {D : Ends} {σ : L2.St} {H : Hp} (h : ta σ H fun vs H1 => ∃ v w, vs = [v, w] ∧ D.nx ((σ.set i (some v)).set j (some w)) H1) : tPar i j ta D σ H := h
theorem s_gcons {t : TG} {u : TGs} {v : V} {r : List V} {σ : L2.St} {H : Hp} {N : L2.St → Hp → Prop} (h : t v σ H fun σ' H' => u r σ' H' N) : gCons t u (v :: r) σ H N := ⟨v, r, rfl, h⟩
theorem s_gnil {σ : L2.St} {H : Hp} {N : L2.St → Hp → Prop} (h : N σ H) : gNil [] σ H N := ⟨rfl, h⟩
theorem q_gtup {K : PySem.W.Frag} {n : Nat} {t : TGs} {a : Addr} {xs : List V} {σ : L2.St} {H : Hp} {N : L2.St → Hp → Prop} (h : SqT K H a xs) (hl : xs.length = n) (q : t xs σ H N) : gTup K n t (.ref a) σ H N := ⟨a, xs, rfl, h, hl, q⟩
theorem q_slL {K : PySem.W.Frag} {a : Addr} {xs : List V} {lo hi : Option Int} {H : Hp} {Q : VK} (h : SqL K H a xs) (q : ∀ p H', H p = none → Same H H' → H' p = some (.lst (cutV xs lo hi)) → Q (.ref p) H') : rSlL K (.ref a) lo hi H Q := ⟨a, xs, rfl, h, fun p n => q p _ n (Same.new n) upd_same⟩
theorem q_append {l : Addr} {xs : List V} {y : V} {H : Hp} {Q : VK} (h : H l = some (.lst xs)) (hl : xs.length < sizeLine) (q : ∀ H', But l H H' → H' l = some (.lst (xs ++ [y])) → Q .non H') : rAppend (.ref l) [y] H Q := ⟨l, xs, y, rfl, rfl, h, hl, q _ But.upd upd_same⟩
/-- a for over J from here on -/
def ForIt (J : It) (g : TG) (tb : TS) (D : Ends) (σ : L2.St) (H : Hp) : Prop := ∃ W : Nat → Nat → L2.St → Hp → Prop, (∃ m, W 0 m σ H) ∧ ∀ i m σ H, W i m σ H →
  (J.stop i H ∧ D.nx σ H) ∨ (J.go i H ∧ ∃ N : L2.St → Hp → Prop, (∀ σ' H', N σ' H' → ∃ m', m' < m ∧ W (i + 1) m' σ' H') ∧ ∀ x H', J.yld i H x H' → g x σ H' fun σ2 H2 => tb { D with nx := N, ct := N, bk := D.nx } σ2 H2)
theorem s_for {wi : TI} {g : TG} {tb : TS} {D : Ends} {σ : L2.St} {H : Hp} (h : wi σ H fun J H1 => ForIt J g tb D σ H1) : tFor wi g tb D σ H := h
section
variable {K : PySem.W.Frag} {a : Addr} {xs : List V} {g : TG} {tb : TS} {D : Ends} {σ : L2.St} {H : Hp}
theorem q_forL (Pv : Nat → L2.St → Hp → Prop) (h0 : Pv 0 σ H) (hl : ∀ i σ H, i ≤ xs.length → Pv i σ H → SqL K H a xs)
    (hs : ∀ i x σ H, xs[i]? = some x → Pv i σ H → g x σ H fun σ2 H2 => tb { D with nx := Pv (i + 1), ct := Pv (i + 1), bk := D.nx } σ2 H2) (hd : ∀ σ H, Pv xs.length σ H → D.nx σ H) : ForIt (Itl K a) g tb D σ H := for_list Pv h0 hl hs hd
theorem q_forE (Pv : Nat → L2.St → Hp → Prop) (h0 : Pv 0 σ H) (hl : ∀ i σ H, i ≤ xs.length → Pv i σ H → SqL K H a xs)
    (hs : ∀ i x σ H T, xs[i]? = some x → Pv i σ H → H T = none → g (.ref T) σ (upd H T (.tup [.int (i : Nat), x])) fun σ2 H2 => tb { D with nx := Pv (i + 1), ct := Pv (i + 1), bk := D.nx } σ2 H2) (hd : ∀ σ H, Pv xs.length σ H → D.nx σ H) : ForIt (Ite K a) g tb D σ H := for_enum Pv h0 hl hs hd
theorem q_forR {lo : Int} {n : Nat} (Pv : Nat → L2.St → Hp → Prop) (h0 : Pv 0 σ H)
    (hs : ∀ i σ H, i < n → Pv i σ H → g (.int (lo + i)) σ H fun σ2 H2 => tb { D with nx := Pv (i + 1), ct := Pv (i + 1), bk := D.nx } σ2 H2) (hd : ∀ σ H, Pv n σ H → D.nx σ H) : ForIt (Itr lo n) g tb D σ H := for_range Pv h0 hs hd
end
theorem s_rng1 {ta : TA} {σ : L2.St} {H : Hp} {R : It → Hp → Prop} (h : ta σ H fun vs H1 => ∃ j : Int, vs = [.int j] ∧ -(2 ^ 62) ≤ j ∧ j < 2 ^ 62 ∧ R (Itr 0 j.toNat) H1) : iRng1 ta σ H R := h
end Bt
namespace Bt
open PySem PySem.Spec PyProof.Rows L2
/-! ### sum of a tuple of ints -/
theorem sum_tup {prog : Program} {w : World} {A : Around} {E : Value → Shared → Prop} {s : Shared} {l : Addr} {its : List Value} {ns : List Int} {Q : Value → Shared → Prop} (hh : A.handled = none) (hl : IsTup s.heap l its.toArray) (hi : IntsAre its ns)
    (h : ∀ h' tk t', (∀ b o, s.heap.get? b = some o → h'.get? b = some o) → Q (.int ns.sum t') { s with heap := h', toks := tk }) : wpAny (model prog w) A (call (.builtin "sum") [.ref l]) Q E s := by
  obtain ⟨xs, e⟩ := hi.allInts.items
  have hn : numsOf (intItems xs).toList = ns := by rw [← e]; exact hi.numsOf
  rw [nums_intItems] at hn
  rw [e] at hl
  have hlt : l < s.heap.objs.size := by obtain ⟨_, e, _⟩ := hl; exact Heap.lt_size e
  refine call_sum_walkG (iter_tuple hl ?_)
  refine ⟨_, _, _, _, _, _, numAt xs, rfl, Walks.tuple (A := A.in1) hh _ l (Nat.ne_of_lt hlt) (intItems xs), ⟨⟨_, Heap.get?_push_size _ rfl, rfl, rfl⟩, ?_⟩, fun b hb => ?_, (fun _ _ => intItems_at), fun h' tk t' hk => ?_⟩
  · obtain ⟨o, ho, hc, n, hd⟩ := hl
    exact ⟨o, Heap.get?_push_of_some _ ho, hc, n, hd⟩
  · show b < (s.heap.push _).objs.size
    rw [Heap.size_push]
    rcases List.mem_cons.mp hb with rfl | hb
    · exact Nat.lt_succ_self _
    · rw [List.mem_singleton.mp hb]
      exact Nat.lt_succ_of_lt hlt
  · have := h h' tk t' fun b o e => hk b o (fun hm => by
      rw [List.mem_singleton.mp hm] at e
      exact absurd (Heap.lt_size e) (Nat.lt_irrefl _)) (Heap.get?_push_of_some _ e)
    rw [preSum_eq, List.take_of_length_le (by simp [intItems]), hn]
    exact this
def rSumT (K : PySem.W.Frag) : List V → Hp → VK → Prop := fun vs H Q => ∃ (a : Addr) (ns : List Int), vs = [V.ref a] ∧ SqT K H a (ns.map V.int) ∧ Q (.int ns.sum) H
theorem cr_sumT {X : Cx} (hc : X.calm = true) : CallR X (.builtin "sum") (rSumT X.K) := by
  intro pins s σ H vs us Q I r h
  obtain ⟨a, ns, rfl, hs, q⟩ := h
  obtain ⟨its, rv, hl, _⟩ := I.tuple hs
  rw [Vals.ref1 r]
  exact sum_tup (I.ok.hd hc) hl rv.ints fun h' tk t' hk => ⟨.int _, H, I.kept hk, ⟨_, rfl⟩, q⟩
theorem q_sumT {K : PySem.W.Frag} {H : Hp} {Q : VK} {a : Addr} {ns : List Int} (h : SqT K H a (ns.map V.int)) (q : Q (.int ns.sum) H) : rSumT K [.ref a] H Q := ⟨a, ns, rfl, h, q⟩
def rSumL (K : PySem.W.Frag) : List V → Hp → VK → Prop := fun vs H Q => ∃ (a : Addr) (ns : List Int), vs = [V.ref a] ∧ SqL K H a (ns.map V.int) ∧ Q (.int ns.sum) H
theorem cr_sumL {X : Cx} (hc : X.calm = true) : CallR X (.builtin "sum") (rSumL X.K) := cr_sum hc
theorem q_sumL {K : PySem.W.Frag} {H : Hp} {Q : VK} {a : Addr} {ns : List Int} (h : SqL K H a (ns.map V.int)) (q : Q (.int ns.sum) H) : rSumL K [.ref a] H Q := ⟨a, ns, rfl, h, q⟩
def rTupL (K : PySem.W.Frag) : List V → Hp → VK → Prop := fun xs H Q => ∃ p ys, xs = [.ref p] ∧ ((SqL K H p ys ∧ ∀ l, H l = none → Q (.ref l) (upd H l (.tup ys))) ∨ (SqT K H p ys ∧ Q (.ref p) H))
theorem call_tupL {X : Cx} : CallR X (.type "tuple") (rTupL X.K) := call_tuple_of
theorem q_tupL {K : PySem.W.Frag} {H : Hp} {Q : VK} {p : Addr} {ys : List V} (h : SqL K H p ys) (q : ∀ l H', H l = none → Same H H' → H' l = some (.tup ys) → Q (.ref l) H') : rTupL K [.ref p] H Q := ⟨p, ys, rfl, .inl ⟨h, fun l n => q l _ n (Same.new n) upd_same⟩⟩
end Bt
namespace Bt
open PySem PySem.Spec PyProof.Rows L2
/-! ### o(e, ..), o an instance with an own __call__ that may raise; what is raised is wished for at the caller's slots -/
section
variable {X : Cx} {CX : CXT} {k : Nat} {C g : Addr} {fd : FuncData} {ps : List Str} {sp : Sp} {E : L2.St → XK} {pos : Pos} {fe e : Expr} {es : List Expr} {tf : TE} {t : TA}
def tCallOS (C : Addr) (sp : Sp) (E : L2.St → XK) (tf : TE) (t : TA) : TE := fun σ H Q => tf σ H fun y H1 => ∃ a, y = V.ref a ∧ t σ H1 fun vs H2 => (∃ dx fs, H2 a = some (.ins C dx fs)) ∧ sp (V.ref a :: vs) H2 Q (E σ)
theorem run_callOS {pins : List (Addr × Obj)} {σ : L2.St} {H : Hp} {s : Shared} {Q : VK} {a : Addr} {us : List Value} {vs : List V} (c : StX.CallO X.K C g) (F : FnOk X.prog X.w X.K X.mg X.base CX k g fd ps sp) (hr : Room k X.A) (hb : Binds X.K fd ps [])
    (hx : PassesAt CX X σ (E σ)) (I : Inv X pins σ H s) (hi : ∃ dx fs, H a = some (.ins C dx fs)) (r : Vals vs us) (h : sp (V.ref a :: vs) H Q (E σ)) : wpAny (model X.prog X.w) X.A (call (.ref a) us) (EP X pins σ Q) X.xe s := by
  obtain ⟨ox, od, J, hd⟩ := StX.insC_at I (.inr hi)
  have r2 : Vals (V.ref a :: vs) (Value.ref a :: us) := .cons rfl r
  have hl : ((Value.ref a :: us) ++ []).length = ps.length := by rw [List.append_nil, ← r2.length]; exact F.len _ _ _ _ h
  have hb' := hb s (Value.ref a :: us) I.kIn hl
  rw [List.append_nil] at hb'
  refine wpAny_call (PySem.W.kco_code I.kIn J hd c.at_ c.fn c.fi (codeAny_mono (F.run X.A X.stack s H ⟨Value.ref a :: us, []⟩ (Value.ref a :: us) (V.ref a :: vs) Q (E σ) hr I.env0 hb' r2 h) fun r s' hq => ?_))
  cases r with
  | error e => exact hx pins H s e s' I hq
  | ok fl =>
    cases fl with
    | ret u => exact I.after hq
    | next => exact False.elim hq
    | brk => exact False.elim hq
    | cont => exact False.elim hq
theorem pe_callOS (hf : PE X fe tf) (c : StX.CallO X.K C g) (F : FnOk X.prog X.w X.K X.mg X.base CX k g fd ps sp) (hr : Room k X.A) (hb : Binds X.K fd ps []) (hx : ∀ σ, PassesAt CX X σ (E σ)) (ha : PA X (e :: es) t)
    (ht : eval (.Call fe (e :: es) [] pos) X.env = (do callWith pos (← eval fe X.env) [] (backTo pos (starEach (e :: es) X.env)) (backToKw pos (keywordEach [] X.env))) := by rfl)
    (he : starEach (e :: es) X.env = (false, eval e X.env) :: starEach es X.env := by rfl) (hpl : (backTo pos (starEach es X.env)).any (·.1) = false := by rfl) : PE X (.Call fe (e :: es) [] pos) (tCallOS C sp E tf t) := by
  refine ⟨fun pins s σ H Q I h => ?_⟩
  refine Call_ (thn (hf.run pins s σ H _ I h) fun u s1 ⟨y, H1, I1, ry, a, ey, q⟩ => ?_) ht
  subst ey
  obtain rfl : u = Value.ref a := ry
  refine StX.callO_with (thn (ha.run pos pins s1 σ H1 _ I1 q) fun us s2 ⟨vs, H2, I2, r, hi, q2⟩ => ?_) he hpl
  obtain ⟨ox, od, J, hd⟩ := StX.insC_at I2 (.inr hi)
  exact ⟨⟨C, ox, od, J, hd⟩, run_callOS c F hr hb (hx σ) I2 hi r q2⟩
theorem s_callOS {σ : L2.St} {H : Hp} {Q : VK} (h : tf σ H fun y H1 => ∃ a, y = V.ref a ∧ t σ H1 fun vs H2 => (∃ dx fs, H2 a = some (.ins C dx fs)) ∧ sp (V.ref a :: vs) H2 Q (E σ)) : tCallOS C sp E tf t σ H Q := h
end
end Bt
namespace Bt
open PySem PySem.Spec PyProof.Rows L2 LamX NdefX
/-! ### a lambda as a value -/
structure LF where
  qual : Str
  params : Arguments
  body : Expr
  scope : Scope
  cl : List (Str × Addr)
  c : Addr
abbrev LF.fd (F : LF) (pm ctv : Value) : FuncData := PySem.W.kla_fn "<lambda>" F.qual F.params F.body F.scope F.cl pm (.ref F.c) ctv
def FnL (f : Addr) (F : LF) : HO := .ext fun h => ∃ (od : Option Addr) (sl : Array (Option Value)) (pm ctv : Value), h.get? f = some (⟨.type "function", od, .func (F.fd pm ctv), sl⟩ : Obj)
theorem fnL_at {P : Program} {w : World} {H : Hp} {h : Heap} {f : Addr} {F : LF} (hok : HOk P w H h) (e : H f = some (FnL f F)) : ∃ (od : Option Addr) (sl : Array (Option Value)) (pm ctv : Value), h.get? f = some (⟨.type "function", od, .func (F.fd pm ctv), sl⟩ : Obj) := by
  obtain ⟨z, _, _⟩ := hok f _ e
  exact z
section
variable {X : Cx} {pins : List (Addr × Obj)} {σ : L2.St} {H : Hp} {s : Shared}
theorem inv_lf {F : LF} {o : Obj} {t' : Nat} {pm ctv : Value} {h : Heap} (I : Inv X pins σ H { s with heap := h, toks := t' }) (ho : o = { cls := .type "function", data := .func (F.fd pm ctv) }) :
    Inv X pins σ (upd H h.objs.size (FnL h.objs.size F)) { s with heap := h.push o, toks := t' } := by
  subst ho
  refine I.laid (t' := t') (a := h.objs.size) (fun b u e => Heap.get?_push_of_some _ e) (Nat.le_refl _) ?_
  have e : (h.push ({ cls := .type "function", data := .func (F.fd pm ctv) } : Obj)).get? h.objs.size = some ({ cls := .type "function", data := .func (F.fd pm ctv) } : Obj) := Heap.get?_push_size _ rfl
  exact ⟨⟨_, _, pm, ctv, e⟩, ⟨_, e⟩, fun h1 h2 ⟨od, sl, p, t, z⟩ st => ⟨od, sl, p, t, st _ z⟩⟩
/-- the heap with one more row in the table at P: the code object c' of the place pos -/
def putT (H : Hp) (P c' : Addr) (ps : Array Value) (pos : Pos) (q : Str) : Hp := upd (upd H P (.tbl (ps ++ #[rawInt pos.line, rawInt pos.col, .ref c']))) c' (CodeO c' q)
section
variable {P c' : Addr} {ps : Array Value} {pos : Pos} {q : Str}
theorem putT_code : putT H P c' ps pos q c' = some (CodeO c' q) := upd_same
theorem putT_tab (hP : H P = some (.tbl ps)) (nC : H c' = none) : putT H P c' ps pos q P = some (.tbl (ps ++ #[rawInt pos.line, rawInt pos.col, .ref c'])) := (upd_ne (ne_of_none hP nC)).trans upd_same
theorem putT_ne {b : Addr} (h1 : b ≠ P) (h2 : b ≠ c') : putT H P c' ps pos q b = H b := (upd_ne h2).trans (upd_ne h1)
theorem putT_old (hP : H P = some (.tbl ps)) (nC : H c' = none) : ExtN H (putT H P c' ps pos q) := fun b o e n =>
  (putT_ne (fun z => by subst z; exact n ps (Option.some.inj (e.symm.trans hP))) (ne_of_none e nC)).trans e
theorem putT_none {b : Addr} (e : putT H P c' ps pos q b = none) : H b = none := upd_none (upd_none e)
theorem putT_tabs {T : List NTab} {nm : Nat → Nat → Str} (hT : TabsN T H) (hP : H P = some (.tbl ps)) (nC : H c' = none) (ok : TriplesOk ps.toList) (own : ∀ (p' : Pos) (cv : Value), codeAmong p' ps.toList = some cv → ∃ d, cv = .ref d ∧ H d = some (CodeO d (nm p'.line p'.col)))
    (hq : nm pos.line pos.col = q) (hu : ∀ p ∈ T, p.1 = P → p.2 = nm) : TabsN T (putT H P c' ps pos q) := by
  have lift : ∀ {d : Addr} {r : Str}, H d = some (CodeO d r) → putT H P c' ps pos q d = some (CodeO d r) := fun e => putT_old hP nC _ _ e codeO_ne
  rintro ⟨R, mm⟩ hp
  by_cases hR : R = P
  · subst hR
    obtain rfl : mm = nm := hu _ hp rfl
    refine ⟨_, putT_tab hP nC, ?_⟩
    rw [show (ps ++ #[rawInt pos.line, rawInt pos.col, Value.ref c']).toList = ps.toList ++ [rawInt pos.line, rawInt pos.col, .ref c'] by simp]
    refine ⟨TriplesOk_snoc _ _ _ _ ok, fun p' cv hcv => (among_app2 _ ok hcv).elim (fun old => ?_) (fun new => ?_)⟩
    · obtain ⟨d, ed, hd⟩ := own p' cv old
      exact ⟨d, ed, lift hd⟩
    · obtain ⟨ec, el, ek⟩ := new
      exact ⟨c', ec, by rw [putT_code, ← hq, el, ek]⟩
  · obtain ⟨qs, t1, t2, t3⟩ := hT _ hp
    refine ⟨qs, (putT_ne hR (ne_of_none t1 nC)).trans t1, t2, fun p' cv hcv => ?_⟩
    obtain ⟨d, ed, hd⟩ := t3 p' cv hcv
    exact ⟨d, ed, lift hd⟩
end
/-- what the maker of a lambda goes on with -/
def LamK (T : List NTab) (H : Hp) (mk : Addr → LF) (f c' : Addr) (H1 : Hp) : Prop :=
  ExtN H H1 ∧ (∀ b, H1 b = none → H b = none) ∧ TabsN T H1 ∧ H f = none ∧ H1 f = some (FnL f (mk c')) ∧ H1 c' = some (CodeO c' (mk c').qual)
theorem lamK_of {T : List NTab} {H H0 : Hp} {mk : Addr → LF} {f c' : Addr} (old : ExtN H H0) (bk : ∀ b, H0 b = none → H b = none) (ht : TabsN T H0) (hc : H0 c' = some (CodeO c' (mk c').qual)) (nf : H0 f = none) : LamK T H mk f c' (upd H0 f (FnL f (mk c'))) := by
  have st : ∀ {b : Addr} {o : HO}, H0 b = some o → upd H0 f (FnL f (mk c')) b = some o := fun e => (upd_ne (ne_of_none e nf)).trans e
  exact ⟨fun b o e n => st (old b o e n), fun b e => bk b (upd_none e), ht.ext fun _ _ e => st e, bk f nf, upd_same, st hc⟩
theorem lam_makeN {T : List NTab} {nm : Nat → Nat → Str} {c P : Addr} {params : Arguments} {body : Expr} {scope : Scope} {pos : Pos} {mk : Addr → LF} {E : Value → Shared → Prop} {Q : Value → Shared → Prop} (I : Inv X pins σ H s) (TB : TabB X.base X.mg c P) (hcode : X.env.code = .ref c)
    (hm : (P, nm) ∈ T) (hu : ∀ p ∈ T, p.1 = P → p.2 = nm) (hT : TabsN T H) (hdef : defaultsOf params X.env = ([], [])) (hfree : ∀ y ∈ scope.names, y.2 = .free → ∃ c, X.env.cells.lookup y.1 = some c)
    (hmk : ∀ d, mk d = ⟨X.env.qual ++ "<lambda>", params, body, scope, cloFrom X.env.cells scope.names [], d⟩) (hn : nm pos.line pos.col = X.env.qual ++ "<lambda>")
    (go : ∀ (f c' : Addr) (H1 : Hp) (s' : Shared), Inv X pins σ H1 s' → LamK T H mk f c' H1 → Q (.ref f) s') :
    wpAny (model X.prog X.w) X.A (eval (.Lambda params body scope pos) X.env) Q E s := by
  have tab := hT _ hm
  obtain ⟨ps, hP, ok, own⟩ := (tab : TabN H P nm)
  have gP := I.hok P _ hP
  have code := TB.code.keeps I.bk
  have glob := I.mod.glob.keeps I.bk
  have bm := TB.bm.keeps I.bk
  have qual : ∀ d, (mk d).qual = X.env.qual ++ "<lambda>" := fun d => by rw [hmk]
  refine PySem.W.kla_eval hdef ?_
  rcases hc : codeAmong pos ps.toList with _ | cv
  · refine PySem.W.kla_makeFunction (closure_ok hfree) I.ok.glob glob hcode code gP ok hc TB.gP bm ?_
    intro c' ctv g tk keep up lt rec_ row
    obtain ⟨d0, oc, vs, t, e0, l1, l2, l3⟩ := rec_
    cases e0
    have nC : H c' = none := I.hok.fresh up
    have J : Inv X pins σ (putT H P c' ps pos (X.env.qual ++ "<lambda>")) { s with heap := g, toks := tk } := inv_table I hP (fun b o n e => keep b o n e) row up ⟨oc, vs, t, l1, l2, l3⟩
    have nf := J.hok.fresh (Nat.le_refl g.objs.size)
    refine go _ c' _ _ (inv_lf (F := mk c') J (by rw [hmk])) (lamK_of (putT_old hP nC) (fun _ e => putT_none e) (putT_tabs hT hP nC ok own hn hu) ?_ nf)
    rw [qual]
    exact putT_code
  · obtain ⟨d, rfl, hd⟩ := own pos cv hc
    refine PySem.W.kla_makeFunctionHit (closure_ok hfree) I.ok.glob glob hcode code gP ok hc bm ?_
    intro ctv g tk keep _
    have J : Inv X pins σ H { s with heap := g, toks := tk } := I.kept keep
    refine go _ d _ _ (inv_lf (F := mk d) J (by rw [hmk])) (lamK_of (fun _ _ e _ => e) (fun _ e => e) hT ?_ (J.hok.fresh (Nat.le_refl g.objs.size)))
    rw [qual, ← hn]
    exact hd
end
def tLamV (T : List NTab) (mk : Addr → LF) : TE := fun σ H Q => TabsN T H ∧ ∀ (f c' : Addr) (H1 : Hp), LamK T H mk f c' H1 → Q (.ref f) H1
theorem pe_lambda {X : Cx} {T : List NTab} {nm : Nat → Nat → Str} {c P : Addr} {params : Arguments} {body : Expr} {scope : Scope} {pos : Pos} (TB : TabB X.base X.mg c P) (hcode : X.env.code = .ref c) (hm : (P, nm) ∈ T) (hn : nm pos.line pos.col = X.env.qual ++ "<lambda>") (hu : ∀ p ∈ T, p.1 = P → p.2 = nm)
    (hfree : ∀ y ∈ scope.names, y.2 = .free → X.env.scope.names.lookup y.1 = some .cell ∨ X.env.scope.names.lookup y.1 = some .free) (hdef : defaultsOf params X.env = ([], []) := by rfl) :
    PE X (.Lambda params body scope pos) (tLamV T fun d => ⟨X.env.qual ++ "<lambda>", params, body, scope, cloFrom X.env.cells scope.names [], d⟩) := by
  refine ⟨fun pins s σ H Q I h => ?_⟩
  obtain ⟨hT, go⟩ := h
  exact lam_makeN I TB hcode hm hu hT hdef (fun y hy e => (hfree y hy e).elim (fun z => I.ok.has _ (.inl z)) fun z => I.ok.has _ (.inr z)) (fun _ => rfl) hn fun f c' H1 s' J k => ⟨.ref f, H1, J, rfl, go f c' H1 k⟩
end Bt
namespace Bt
open PySem PySem.Spec PyProof.Rows L2 LamX NdefX
/-! ### a lambda's run -/
abbrev LF.nf (F : LF) : NF := ⟨"<lambda>", F.qual, F.params, [], F.scope, F.cl, F.c⟩
theorem lam_run {CX : CXT} {P : Program} {w : World} {K : PySem.W.Frag} {mg : Str → Option Value} {base : Heap} {N ps fr : List Str} {F : LF} {f : Addr} {k : Nat} {A : Around} {outer : List Env} {s : Shared} {H : Hp} {us : List Value} {vs : List V} {ws : List (Option V)} {Q : VK} {E : XK} {t : TE}
    (S : NScope N ps fr F.scope) (hb : ∀ (pm ctv : Value) (xs : List Value), xs.length = ps.length → bindArgs (F.fd pm ctv) ⟨xs, []⟩ = pure (ps.zip xs)) (hl : vs.length = ps.length) (hr : Room (k + 1) A) (e0 : Env0 P w K mg base A outer s H)
    (hf : H f = some (FnL f F)) (hc : H F.c = some (CodeO F.c F.qual)) (C : CellsAt F.cl fr ws s.heap H) (r : Vals vs us)
    (body : PE (ncx CX P w K mg base N F.nf f A outer s H E) F.body t) (q : t (startF N vs ws) H Q) : codeAny (model P w) A (.call (.ref f) ⟨us, []⟩) (CR CX outer P w H s Q E) s := by
  have lim := e0.mod.nolimit.keeps fun b o e => (e0.bs b o e).1
  obtain ⟨_, _, pm, ctv, at_⟩ := fnL_at e0.hok hf
  refine PySem.W.kla_callFunE hr.depth at_ rfl S.co S.gen rfl (codeO_at e0.hok hc) ?_
  rw [hb pm ctv us (r.length.symm.trans hl)]
  refine wpAny_pure (wpAny_newFunctionEnv S.nocell (fun y hy => S.par y.1 (List.of_mem_zip hy).1) (fun g hns hsb => ⟨lim.fresh _ hsb, ?_⟩) S.kind)
  have old : ∀ b o, s.heap.get? b = some o → g.get? b = some o := fun b o e => hsb.extBut b o (Nat.ne_of_lt (Heap.lt_size e)) (Heap.get?_push_of_some _ e)
  have J := inv_startN (CX := CX) (F := F.nf) (f := f) (E := E) (tk := s.toks + (ps.zip us).length) S hr.hd e0 hl r C hns old
  refine PySem.W.kla_codeExpr (wpAny_mono (body.run [] _ _ H Q J q) (fun v s' z => ?_) fun _ _ z => z)
  obtain ⟨x, H', J', rv, qv⟩ := z
  exact ⟨x, H', J'.os, J'.bare, J'.base, J'.hok, rv, qv⟩
end Bt
namespace Bt
open PySem PySem.Spec PyProof.Rows L2 LamX NdefX
open FbM (Rec rec_new)
open PySem.W (EachIs AllAlike Sortable KeyedOut KeepsBut dataLe dataKind sortVals copyHeap)
/-! ### sorted(xs, key=f), f an own def or lambda: the turns, the state carried by the frame's invariant -/
section
variable {X : Cx} {pins : List (Addr × Obj)} {σ : L2.St} {H : Hp} {s : Shared} {a kS : Addr} {e1 : Nat} {bs : List Str} {k : Str → PyData} {q : Addr}
/-- the state behind the keys ds -/
structure KeySt (X : Cx) (pins : List (Addr × Obj)) (σ : L2.St) (H : Hp) (a kS : Addr) (e1 : Nat) (ds : List PyData) (s : Shared) : Prop where
  ex : ∃ (Hn : Hp) (kA : Array Value) (e : Nat), Inv X pins σ Hn s ∧ Same H Hn ∧ Hn a = none ∧ Hn kS = none ∧ s.heap.get? a = some (seqObj "list" #[] e1) ∧ s.heap.get? kS = some (seqObj "list" kA e) ∧
    EachIs (fun v d => ∃ y, RelV y v ∧ Dp X.K Hn y d) kA.toList ds
/-- one key: from any state of the frame, the heap grown -/
def KeyRun (X : Cx) (pins : List (Addr × Obj)) (σ : L2.St) (H : Hp) (q : Addr) (bs : List Str) (k : Str → PyData) : Prop :=
  ∀ (b : Str) (u : Value), b ∈ bs → RelV (.str b) u → ∀ (s' : Shared) (Hn : Hp), Inv X pins σ Hn s' → Same H Hn →
    codeAny (model X.prog X.w) X.A.in1.in1 (.call (.ref q) ⟨[u], []⟩) (CR CX0 X.stack X.prog X.w Hn s' (fun y H2 => Same Hn H2 ∧ Dp X.K H2 y (k b)) E0) s'
theorem same_none {H H' : Hp} {b : Addr} (S : Same H H') (h : H' b = none) : H b = none := by
  cases e : H b with
  | none => rfl
  | some o =>
    rw [S b o e] at h
    cases h
theorem key_loop {P : PySem.Fin → Shared → Prop} {E : Value → Shared → Prop} (ra : Rec X pins a) (rk : Rec X pins kS) (hka : kS ≠ a) {us : List Value} (hv : Vals (bs.map V.str) us) (hz : us.length ≤ 1000) (turn : KeyRun X pins σ H q bs k)
    (st : KeySt X pins σ H a kS e1 [] s) (done : ∀ s' Hn kA e, Inv X pins σ Hn s' → Same H Hn → Hn a = none → Hn kS = none → s'.heap.get? a = some (seqObj "list" #[] e1) → s'.heap.get? kS = some (seqObj "list" kA e) →
      EachIs (fun v d => ∃ y, RelV y v ∧ Dp X.K Hn y d) kA.toList (bs.map k) → wpAny (model X.prog X.w) X.A.in1.in1 (ksk_end a false us.toArray e1 (.ref kS) kA) P E s') :
    wpAny (model X.prog X.w) X.A.in1.in1 (ksk_rest a (.ref q) false us.toArray e1 (.ref kS)) P E s := by
  have hlen : us.length = bs.length := by rw [← hv.length, List.length_map]
  unfold ksk_rest
  refine wpAny_bind (wpAny_rule ?_)
  first
    | rw [List.forIn_toArray]
    | rw [← Array.forIn_toList]
  refine wpAny_bind (ksk_fold (fun i s' => KeySt X pins σ H a kS e1 ((bs.map k).take i) s') us 0 s (by rw [List.take_zero]; exact st) ?turns ?last)
  case turns =>
    intro j u s' hu S
    simp only [Nat.zero_add] at S ⊢
    have hj : j < bs.length := by
      have := (List.getElem?_eq_some_iff.mp hu).1
      omega
    have hb : bs[j]? = some bs[j] := List.getElem?_eq_getElem hj
    have hx : (bs.map V.str)[j]? = some (V.str bs[j]) := by rw [List.getElem?_map, hb]; rfl
    obtain ⟨u', hu', ru⟩ := hv.get hx
    have e : u' = u := Option.some.inj (hu'.symm.trans hu)
    subst e
    obtain ⟨Hn, kA, e, I, sm, na, nk, ga, gk, ks⟩ := S
    have hkz : kA.size ≤ 1000 := by
      have h1 := ks.length
      rw [Array.length_toList, List.length_take] at h1
      omega
    refine wpAny_bind (wpAny_attempt (wpAny_call (codeAny_mono (turn _ _ (List.mem_of_getElem? hb) ru s' Hn I sm) fun rr s2 hrr => ?_)))
    cases rr with
    | error er => exact False.elim hrr
    | ok fl =>
      cases fl with
      | next => exact False.elim hrr
      | brk => exact False.elim hrr
      | cont => exact False.elim hrr
      | ret v =>
        obtain ⟨y, H2, os, bare, un, hok, ry, sm2, dy⟩ := (show CE X.stack X.prog X.w Hn s' _ v s2 from hrr)
        have I2 : Inv X pins σ H2 s2 := I.call' os un hok bare (fun b z => absurd z List.not_mem_nil)
        have ga2 := un.keep _ _ ga na ra.fr List.not_mem_nil
        have gk2 := un.keep _ _ gk nk rk.fr List.not_mem_nil
        have na2 : H2 a = none := un.free _ _ ga na List.not_mem_nil
        have nk2 : H2 kS = none := un.free _ _ gk nk List.not_mem_nil
        have sb := Heap.SameBut.update s2.heap kS (Obj.mapSeq (·.push v))
        obtain ⟨c2, hc2⟩ : ∃ c2, (s2.heap.update kS (Obj.mapSeq (·.push v))).get? kS = some (seqObj "list" (kA.push v) c2) := ⟨_, get?_update_seq gk2 (·.push v)⟩
        refine wpAny_bind (listUpdate_at gk2 rfl ?_ (sz (by omega)) (by rw [Array.size_push]; exact Nat.le_succ_of_le (szlt (by omega))))
        have I3 : Inv X pins σ H2 { s2 with heap := s2.heap.update kS (Obj.mapSeq (·.push v)) } := rk.turn (t' := s2.toks) I2 nk2 fun c o hc e => sb.extBut c o hc e
        refine wpAny_pure ⟨rfl, H2, kA.push v, c2, I3, fun b o z => sm2 _ _ (sm _ _ z), na2, nk2, (sb.2 a hka.symm).trans ga2, hc2, ?_⟩
        have ek : (bs.map k).take (j + 1) = (bs.map k).take j ++ [k bs[j]] := by
          rw [List.take_add_one, List.getElem?_map, hb]
          simp
        have ea : (kA.push v).toList = kA.toList ++ [v] := by simp
        rw [ea, ek]
        exact PySem.W.each_snoc ⟨y, ry, dy⟩ (ks.mono fun v d z => by
          obtain ⟨y', r', d'⟩ := z
          exact ⟨y', r', Dp.mono sm2 d'⟩)
  case last =>
    intro s' S
    obtain ⟨Hn, kA, e, I, sm, na, nk, ga, gk, ks⟩ := S
    have e3 : (bs.map k).take (0 + us.length) = bs.map k := List.take_of_length_le (by rw [List.length_map]; omega)
    rw [e3] at ks
    refine wpAny_bind (listItems_at gk rfl ?_)
    exact done s' Hn kA e I sm na nk ga gk ks
/-- the whole sort: the new list stands at D -/
theorem key_sorted {P : PySem.Fin → Shared → Prop} {E : Value → Shared → Prop} (ra : Rec X pins a) (rk : Rec X pins kS) (hka : kS ≠ a) {us : List Value} (hv : Vals (bs.map V.str) us) (hz : us.length ≤ 1000) (hal : AllAlike (bs.map k)) (hsk : Sortable (bs.map k)) (hu : ∀ b, b ∈ bs → X.A.in1.in1.units + (k b).depth < cLine) (turn : KeyRun X pins σ H q bs k)
    (st : KeySt X pins σ H a kS e1 [] s) (done : ∀ s' Hn, Inv X pins σ (upd Hn a (.lst ((bs.mergeSort (dataLe false k)).map V.str))) s' → Same H Hn → Hn a = none → P (.done (.ret .none)) s') :
    wpAny (model X.prog X.w) X.A.in1.in1 (ksk_rest a (.ref q) false us.toArray e1 (.ref kS)) P E s := by
  have hlen : us.length = bs.length := by rw [← hv.length, List.length_map]
  refine key_loop ra rk hka hv hz turn st fun s' Hn kA e I sm na nk ga gk ks => ?_
  have hsz : kA.size = us.length := by
    have h1 := ks.length
    rw [Array.length_toList, List.length_map] at h1
    omega
  have rd : EachIs (fun v d => ∃ as, Reads s'.heap v d as) kA.toList (bs.map k) := ks.mono fun v d z => by
    obtain ⟨y, r, dp⟩ := z
    exact Dp.reads I d y v dp r
  obtain ⟨G, g1, g2⟩ := restrict s'.heap fun b => decide (b ≠ kS) && decide (b ≠ a)
  obtain ⟨G0, f1, f2⟩ := restrict s'.heap fun b => decide (b ≠ kS)
  have gk0 : G.get? kS = none := g2 kS (by simp)
  have ga0 : G.get? a = none := g2 a (by simp)
  have gs : ∀ b o, b ≠ kS → b ≠ a → s'.heap.get? b = some o → G.get? b = some o := fun b o h1 h2 z => (g1 b (by simp [h1, h2])).trans z
  have gb : ∀ b o, G.get? b = some o → s'.heap.get? b = some o := fun b o z => by
    have h1 : b ≠ kS := fun q => by rw [q, gk0] at z; cases z
    have h2 : b ≠ a := fun q => by rw [q, ga0] at z; cases z
    exact (g1 b (by simp [h1, h2])).symm.trans z
  have fs : ∀ b o, b ≠ kS → s'.heap.get? b = some o → G0.get? b = some o := fun b o h1 z => (f1 b (by simp [h1])).trans z
  have fb : ∀ b o, G0.get? b = some o → b ≠ kS ∧ s'.heap.get? b = some o := fun b o z => by
    have h1 : b ≠ kS := fun q => by rw [q, f2 kS (by simp)] at z; cases z
    exact ⟨h1, (f1 b (by simp [h1])).symm.trans z⟩
  have I0 : Inv X pins σ Hn { s' with heap := G0 } := rk.turn (t' := s'.toks) I nk fs
  have I1 : Inv X pins σ Hn { s' with heap := G } := ra.turn (s := { s' with heap := G0 }) (h' := G) (t' := s'.toks) I0 na fun c o hc z => gs c o (fb c o z).1 hc (fb c o z).2
  have kp : KeepsBut a G s'.heap := fun b o _ z => gb b o z
  have eo : EachIs (fun v b => RelV (V.str b) v) us bs := by
    have key : ∀ {l : List Str} {vs : List Value}, Vals (l.map V.str) vs → EachIs (fun v b => RelV (V.str b) v) vs l := fun {l} => by
      induction l with
      | nil => intro vs r; cases r; exact .nil
      | cons x l ih => intro vs r; cases r with | cons h1 h2 => exact .cons h1 (ih h2)
    exact key hv
  have ou : EachIs (fun v b => RelV (V.str b) v) (sortVals (dataKind s'.heap (bs.map k)) false kA.toList us) (bs.mergeSort (dataLe false k)) := PySem.W.keyedOut_each k ⟨s'.heap, kA.toList, hal, rfl, rd⟩ eo
  refine PySem.W.keyH_end (κ := dataKind s'.heap (bs.map k)) (h₁ := G) (vs := us) kp gk0 gk ga hka (PySem.W.SortsAt.data (s := s') rd hal hsk fun d hd => ?_) hsz (sz (by omega)) fun h' tk c k3 n3 => ?_
  · obtain ⟨b, hb, rfl⟩ := List.mem_map.mp hd
    exact hu b hb
  · have J := Inv.laidN (t' := tk) (h' := h') (o := .lst ((bs.mergeSort (dataLe false k)).map V.str)) I1 (fun b u z => k3 b u (fun q => by rw [q] at z; exact nomatch (ga0.symm.trans z)) z) ga0 na ?_
    · exact done _ Hn J sm na
    · refine ⟨?_, _, c, ?_, n3⟩
      · rw [List.length_map, List.length_mergeSort]
        exact sz (by omega)
      · have key : ∀ {l : List Str} {vs : List Value}, EachIs (fun v b => RelV (V.str b) v) vs l → Vals (l.map V.str) vs := fun {l} => by
          induction l with
          | nil => intro vs r; cases r; exact .nil
          | cons x l ih => intro vs r; cases r with | cons h1 h2 => exact .cons h1 (ih h2)
        exact key ou
theorem sorted_key_inv {l : Addr} {Q : Value → Shared → Prop} {E : Value → Shared → Prop} (I : Inv X pins σ H s) (hl : SqL X.K H l (bs.map V.str)) (hz : bs.length ≤ 1000) (hal : AllAlike (bs.map k)) (hsk : Sortable (bs.map k)) (hu : ∀ b, b ∈ bs → X.A.in1.in1.units + (k b).depth < cLine) (turn : KeyRun X pins σ H q bs k)
    (go : ∀ D s' Hn, Inv X pins σ (upd Hn D (.lst ((bs.mergeSort (dataLe false k)).map V.str))) s' → Same H Hn → Hn D = none → Q (.ref D) s') :
    wpAny (model X.prog X.w) X.A (call (.builtin "sorted") [.ref l] [(Str.ofString "key", .ref q)]) Q E s := by
  obtain ⟨us, hv, pl, _⟩ := I.list hl
  have hlen : us.length = bs.length := by rw [← hv.length, List.length_map]
  refine PySem.W.sorted_of_sort pl.isList (sz (by omega)) (ksk_s1 _ _) (fun _ => ksk_l1 _ _) fun E' => ?_
  rw [ksk_t1]
  have ho := PySem.W.copyHeap_at s.heap us
  have old : ∀ b o, s.heap.get? b = some o → b ≠ s.heap.objs.size + 1 ∧ (copyHeap s.heap us).get? b = some o := fun b o e => ⟨Nat.ne_of_lt (Nat.lt_succ_of_lt (Heap.lt_size e)), PySem.W.copyHeap_old e⟩
  have la : s.heap.objs.size + 1 < (copyHeap s.heap us).objs.size := Heap.lt_size ho
  obtain ⟨e1, ho1⟩ : ∃ e1, ((copyHeap s.heap us).update (s.heap.objs.size + 1) (Obj.mapSeq fun _ => (#[] : Array Value))).get? (s.heap.objs.size + 1) = some (seqObj "list" #[] e1) := ⟨_, get?_update_seq ho fun _ => #[]⟩
  unfold ksk_tree
  refine wpAny_bind (listItems_at ho rfl ?_)
  refine wpAny_bind (listUpdate_at ho rfl ?_ (by rw [List.size_toArray]; exact sz (by omega)) (Nat.zero_le _))
  refine wpAny_bind (seqEpoch_at ho1 rfl ?_)
  refine wpAny_bind (wpAny_newTuple ?_ (by show us.length ≤ _; exact sz (by omega)))
  refine wpAny_bind (wpAny_newList ?_ (Nat.zero_le _))
  refine wpAny_holding ?_
  generalize hg : ((copyHeap s.heap us).update (s.heap.objs.size + 1) (Obj.mapSeq fun _ => (#[] : Array Value))).push (seqObj "tuple" us.toArray 0) = g
  have keep : ∀ b o, b ≠ s.heap.objs.size + 1 → (copyHeap s.heap us).get? b = some o → (g.push (seqObj "list" #[] 0)).get? b = some o := fun b o hb e => by
    rw [← hg]
    exact Heap.get?_push_of_some _ (Heap.get?_push_of_some _ ((Heap.get?_update_other _ _ (Ne.symm hb)).trans e))
  have ga : (g.push (seqObj "list" #[] 0)).get? (s.heap.objs.size + 1) = some (seqObj "list" #[] e1) := by
    rw [← hg]
    exact Heap.get?_push_of_some _ (Heap.get?_push_of_some _ ho1)
  have lg : (copyHeap s.heap us).objs.size ≤ g.objs.size := by
    rw [← hg, size_push', Heap.size_update]
    exact Nat.le_succ _
  have I1 : Inv X pins σ H { s with heap := g.push (seqObj "list" #[] 0) } := I.kept (t' := s.toks) fun b o e => keep b o (old b o e).1 (old b o e).2
  have na : H (s.heap.objs.size + 1) = none := I.hok.fresh (Nat.le_succ _)
  have nk : H g.objs.size = none := I.hok.fresh (Nat.le_trans (Nat.le_of_lt (Nat.lt_of_succ_lt la)) lg)
  refine key_sorted (a := s.heap.objs.size + 1) (kS := g.objs.size) (rec_new I (Nat.le_succ _)) (rec_new I (Nat.le_trans (Nat.le_of_lt (Nat.lt_of_succ_lt la)) lg)) (Nat.ne_of_gt (Nat.lt_of_lt_of_le la lg)) hv (by omega) hal hsk hu turn
    ⟨H, #[], 0, I1, fun _ _ e => e, na, nk, ga, Heap.get?_push_size _ rfl, .nil⟩ fun s' Hn J sm n => ⟨rfl, go _ s' Hn J sm n⟩
end
end Bt
namespace Bt
open PySem PySem.Spec PyProof.Rows L2 LamX NdefX
open PySem.W (AllAlike Sortable dataLe)
/-! ### the rule: sorted(xs, key=lambda x: ..) -/
/-- what the sort asks and gives: xs a list of texts, the keys by k -/
def rSK (K : PySem.W.Frag) (run : Hp → Str → VK → Prop) (x : V) (H : Hp) (Q : VK) : Prop := ∃ (l : Addr) (bs : List Str) (k : Str → PyData), x = .ref l ∧ SqL K H l (bs.map V.str) ∧ bs.length ≤ 1000 ∧ AllAlike (bs.map k) ∧ Sortable (bs.map k) ∧ (∀ b ∈ bs, (k b).depth ≤ 8) ∧
  (∀ b ∈ bs, ∀ Hn, Same H Hn → run Hn b fun y H3 => Same Hn H3 ∧ Dp K H3 y (k b)) ∧
  ∀ D Hn H3, Same H Hn → Hn D = none → Same Hn H3 → H3 D = some (.lst ((bs.mergeSort (dataLe false k)).map V.str)) → Q (.ref D) H3
def tSK (K : PySem.W.Frag) (T : List NTab) (mk : Addr → LF) (N' : List Str) (js : List Nat) (tb : TE) (ta : TA) : TE := fun σ H Q => ta σ H fun xs H1 => ∃ x, xs = [x] ∧ TabsN T H1 ∧ ∀ f c' H2, LamK T H1 mk f c' H2 → rSK K (fun Hn b R => tb (startF N' [.str b] (js.map (slotAt σ))) Hn R) x H2 Q
section
variable {X : Cx} {T : List NTab} {nm : Nat → Nat → Str} {c P : Addr} {params : Arguments} {body e : Expr} {scope : Scope} {p pos lpos kpos : Pos} {tb : TE} {ta : TA} {N' fr : List Str} {x : Str} {js : List Nat} {j : Nat}
theorem pe_sortKey (TB : TabB X.base X.mg c P) (hcode : X.env.code = .ref c) (hm : (P, nm) ∈ T) (hn : nm lpos.line lpos.col = X.env.qual ++ "<lambda>") (hu : ∀ p ∈ T, p.1 = P → p.2 = nm)
    (hfree : ∀ y ∈ scope.names, y.2 = .free → X.env.scope.names.lookup y.1 = some .cell ∨ X.env.scope.names.lookup y.1 = some .free) (S : NScope N' [x] fr scope) (hfr : ∀ y ∈ fr, (y, NameKind.free) ∈ scope.names) (hjs : js.map (fun j => X.N[j]?) = fr.map some)
    (hr : Room (j + 3) X.A) (hg : Gl X "sorted") (hs : X.mg "sorted" = none) (ha : PA X (e :: []) ta)
    (hbody : ∀ (d f : Addr) (s' : Shared) (Hn : Hp), Room j (X.A.in1.in1.deeper (envF (LF.nf ⟨X.env.qual ++ "<lambda>", params, body, scope, cloFrom X.env.cells scope.names [], d⟩) f s'.heap.objs.size)) →
      PE (ncx CX0 X.prog X.w X.K X.mg X.base N' (LF.nf ⟨X.env.qual ++ "<lambda>", params, body, scope, cloFrom X.env.cells scope.names [], d⟩) f X.A.in1.in1 X.stack s' Hn E0) body tb)
    (hb : ∀ (d : Addr) (pm ctv v : Value), bindArgs (LF.fd ⟨X.env.qual ++ "<lambda>", params, body, scope, cloFrom X.env.cells scope.names [], d⟩ pm ctv) ⟨[v], []⟩ = pure [(x, v)])
    (hdef : defaultsOf params X.env = ([], []) := by rfl) (h1 : backTo pos (starEach (e :: []) X.env) = (false, eval e X.env) :: backTo pos (starEach [] X.env) := by rfl) (h2 : (backTo pos (starEach (e :: []) X.env)).any (·.1) = false := by rfl)
    (h3 : (backToKw pos (keywordEach [⟨some "key", .Lambda params body scope lpos, kpos⟩] X.env)).all (·.1.isSome) = true := by rfl) (h4 : (backToKw pos (keywordEach [⟨some "key", .Lambda params body scope lpos, kpos⟩] X.env)).any (·.1.isNone) = false := by rfl)
    (h5 : (backToKw pos (keywordEach [⟨some "key", .Lambda params body scope lpos, kpos⟩] X.env)).filterMap (·.1) = [Str.ofString "key"] := by rfl) :
    PE X (.Call (.Name "sorted" p) [e] [⟨some "key", .Lambda params body scope lpos, kpos⟩] pos) (tSK X.K T (fun d => ⟨X.env.qual ++ "<lambda>", params, body, scope, cloFrom X.env.cells scope.names [], d⟩) N' js tb ta) := by
  have lam := pe_lambda (T := T) (params := params) (body := body) (pos := lpos) TB hcode hm hn hu hfree hdef
  refine ⟨fun pins s σ H Q I h => ?_⟩
  refine wpAny_Call_Name_kw (ld_blt I hg hs (by decide +kernel : bootBuiltins "sorted" = some (.builtin "sorted")) ?_ (by decide) (by decide))
  refine PyProof.Rows.callWith_kw (thn (ha.run pos pins s σ H _ I h) fun us s1 z1 => ?_) h1 h2 h3 h4
  obtain ⟨vs, H1, I1, r1, y, ey, tab, go⟩ := z1
  refine thn ((pk_cons lam pk_nil).run pos pins s1 σ H1 (fun zs H2 => ∃ f c', zs = [.ref f] ∧ LamK T H1 _ f c' H2) I1 ⟨tab, fun f c' H2 L => s_nil ⟨f, c', rfl, L⟩⟩) fun ws s2 z2 => ?_
  obtain ⟨zs, H2, I2, r2, f, c', ez, L⟩ := z2
  subst ey ez
  rw [h5]
  obtain ⟨l, bs, k, rfl, hl, hz, hal, hsk, hd, runs, fin⟩ := go f c' H2 L
  cases r1 with
  | @cons _ u _ ur ra rr =>
    cases rr
    cases r2 with
    | @cons _ w _ wr rf rw' =>
      cases rw'
      obtain rfl : u = Value.ref l := ra
      obtain rfl : w = Value.ref f := rf
      have ri : Room (j + 1) X.A.in1.in1 := (Room.in1 (k := j + 2) hr).in1
      refine sorted_key_inv I2 hl hz hal hsk (fun b hb => ?_) (fun b u hb' ru s' Hn J sm => ?_) fun D s' Hn J sm n => ⟨.ref D, _, J, rfl, fin D Hn _ sm n (Same.new n) upd_same⟩
      · have := hd b hb
        have := ri.units
        omega
      · have e0 := J.env0
        have e1 : Env0 X.prog X.w X.K X.mg X.base X.A.in1.in1 X.stack s' Hn := ⟨e0.1, e0.mod, e0.bs, e0.bsz, e0.funs, e0.frf, e0.hok, e0.bare⟩
        have Lf := L.2.2.2.2.1
        have Lc := L.2.2.2.2.2
        exact lam_run (us := [u]) (vs := [.str b]) S (fun pm ctv xs hx => by
          match xs, hx with
          | [v], _ => exact hb c' pm ctv v) rfl ri e1 (sm _ _ Lf) (sm _ _ Lc) (cells_of J (Caps.made J.ok hfree hfr hjs)) (.cons ru .nil) (hbody c' f s' Hn (ri.deeper _)) (runs b hb' Hn sm)
end
end Bt
namespace Bt
open PySem PySem.Spec PyProof.Rows L2 LamX NdefX
open PySem.W (AllAlike Sortable dataLe dataLt alike)
/-! ### heaps that grow but for the tables of code objects -/
theorem ext_lst {H H' : Hp} {a : Addr} {xs : List V} (S : ExtN H H') (h : H a = some (.lst xs)) : H' a = some (.lst xs) := S _ _ h fun _ z => nomatch z
theorem ext_tup {H H' : Hp} {a : Addr} {xs : List V} (S : ExtN H H') (h : H a = some (.tup xs)) : H' a = some (.tup xs) := S _ _ h fun _ z => nomatch z
theorem ext_ins {H H' : Hp} {a C dx : Addr} {fs : List (Str × V)} (S : ExtN H H') (h : H a = some (.ins C dx fs)) : H' a = some (.ins C dx fs) := S _ _ h fun _ z => nomatch z
theorem ext_xd {H H' : Hp} {a : Addr} {fs : List (Str × V)} (S : ExtN H H') (h : H a = some (.xd fs)) : H' a = some (.xd fs) := S _ _ h fun _ z => nomatch z
theorem ext_same {H H' : Hp} (S : Same H H') : ExtN H H' := ExtN.of S
theorem SqT_monoN {K : PySem.W.Frag} {H H' : Hp} {a : Addr} {xs : List V} (e : ExtN H H') (h : SqT K H a xs) : SqT K H' a xs := by
  rcases h with (h | ⟨o, h⟩) | h
  · exact .inl (.inl (ext_tup e h))
  · exact .inl (.inr ⟨o, e _ _ h fun _ z => nomatch z⟩)
  · exact .inr h
theorem SqL_monoN {K : PySem.W.Frag} {H H' : Hp} {a : Addr} {xs : List V} (e : ExtN H H') (h : SqL K H a xs) : SqL K H' a xs := by
  rcases h with (h | ⟨o, h⟩) | h
  · exact .inl (.inl (ext_lst e h))
  · exact .inl (.inr ⟨o, e _ _ h fun _ z => nomatch z⟩)
  · exact .inr h
mutual
theorem Dp.monoN {K : PySem.W.Frag} {H H' : Hp} (S : ExtN H H') : ∀ {v : V} {d : PyData}, Dp K H v d → Dp K H' v d
  | _, _, .non => .non
  | _, _, .bl b => .bl b
  | _, _, .int i => .int i
  | _, _, .str x => .str x
  | _, _, .lst h r => .lst (SqL_monoN S h) (DpAll.monoN S r)
  | _, _, .tup h r => .tup (SqT_monoN S h) (DpAll.monoN S r)
theorem DpAll.monoN {K : PySem.W.Frag} {H H' : Hp} (S : ExtN H H') : ∀ {vs : List V} {ds : List PyData}, DpAll K H vs ds → DpAll K H' vs ds
  | _, _, .nil => .nil
  | _, _, .cons h r => .cons (Dp.monoN S h) (DpAll.monoN S r)
end
theorem TyX.monoN {K : PySem.W.Frag} {H H' : Hp} {x : V} {t : Value} (S : ExtN H H') (h : TyX K H x t) : TyX K H' x t := by
  cases h with
  | base b =>
    cases b with
    | non => exact .base .non
    | bl z => exact .base (.bl z)
    | int z => exact .base (.int z)
    | str z => exact .base (.str z)
    | flt z => exact .base (.flt z)
    | lst e => exact .base (.lst (ext_lst S e))
    | frz e => exact .base (.frz (S _ _ e fun _ z => nomatch z))
    | tup e => exact .base (.tup (ext_tup S e))
    | dK e => exact .base (.dK (S _ _ e fun _ z => nomatch z))
    | dT e => exact .base (.dT (S _ _ e fun _ z => nomatch z))
    | ins e cl ha hn htk hm => exact .base (.ins (ext_ins S e) cl ha hn htk hm)
  | byt b => exact .byt b
  | set e => exact .set (S _ _ e fun _ z => nomatch z)
  | kList e c => exact .kList e c
  | kTuple e c => exact .kTuple e c
  | kDict e c => exact .kDict e c
  | fTuple e => exact .fTuple (S _ _ e fun _ z => nomatch z)
  | fDict e => exact .fDict (S _ _ e fun _ z => nomatch z)
theorem Pl.monoN {K : PySem.W.Frag} {H H' : Hp} {x : V} {T : String} (S : ExtN H H') (h : Pl K H x T) : Pl K H' x T := ⟨TyX.monoN S h.1, h.2⟩
/-- a list's object is written: the tables stay -/
theorem TabsN.but {T : List NTab} {H H' : Hp} {p : Addr} {xs : List V} (t : TabsN T H) (hp : H p = some (.lst xs)) (B : But p H H') : TabsN T H' := by
  rintro ⟨P, nm⟩ hm
  obtain ⟨ps, h1, h2, h3⟩ := t _ hm
  have ne : ∀ {b : Addr} {o : HO}, H b = some o → o ≠ .lst xs → b ≠ p := fun e n z => by
    rw [z, hp] at e
    exact n (Option.some.inj e).symm
  refine ⟨ps, B _ _ (ne h1 fun z => nomatch z) h1, h2, fun pos cv hc => ?_⟩
  obtain ⟨c, e1, e2⟩ := h3 pos cv hc
  exact ⟨c, e1, B _ _ (ne e2 fun z => by
    have z' : HO.ext _ = HO.lst xs := z
    cases z') e2⟩
/-! ### a def whose code object is known -/
structure FunC (K : PySem.W.Frag) (x qual : Str) (st : Stmt) (f : Addr) (fd : FuncData) (c : Addr) : Prop where
  ex : ∃ (oc : Value) (od : Option Addr) (kV doc pm : Value) (an : Option Addr) (ct : Value) (osl : Array (Option Value)),
    fd = PySem.W.fnOf x qual (defArgs st) (defBody st) (defScope st) .none kV doc pm an (.ref c) ct ∧ K.lookup f = some ⟨oc, od, .func fd, osl⟩ ∧ PySem.W.codeIn K (.ref c) qual = true
  kp : PySem.W.keepIn K (.ref f) = true
section
variable {P : Program} {w : World} {K : PySem.W.Frag} {mg : Str → Option Value} {base : Heap} {x qual : Str} {st : Stmt} {f c : Addr} {fd : FuncData} {N ps : List Str} {k : Nat} {sp : Sp}
theorem FunC.fn (F : FunC K x qual st f fd c) : Fun K x qual st f fd := by
  obtain ⟨oc, od, kV, doc, pm, an, ct, osl, rfl, lk, hc⟩ := F.ex
  exact ⟨⟨oc, od, kV, doc, pm, an, .ref c, ct, osl, rfl, lk, hc⟩, F.kp⟩
theorem FunC.ok (F : FunC K x qual st f fd c) (S : FnScope N ps (defScope st)) (len : ∀ vs H Q E, sp vs H Q E → vs.length = ps.length)
    (hbody : ∀ (A : Around) (outer : List Env) (s : Shared) (H : Hp) (vs : List V) (Q : VK) (E : XK), Room k (A.deeper (envOfC qual (defScope st) s.heap.objs.size f (.ref c))) → sp vs H Q E →
      ∃ t, PSs (cxOf CX0 P w K mg base N qual (defScope st) f (.ref c) A outer s H E).nox (defBody st) t ∧ t { nx := fun _ H' => Q .non H', rt := Q } (start N vs) H) : FnOk P w K mg base CX0 (k + 1) f fd ps sp := by
  obtain ⟨oc, od, kV, doc, pm, an, ct, osl, rfl, lk, hc⟩ := F.ex
  refine fn_of lk hc S len fun A outer s H vs Q E hr hs => ?_
  obtain ⟨t, h, q⟩ := hbody A outer s H vs Q E hr hs
  exact ⟨t, h.nox, q⟩
theorem FunC.okX (F : FunC K x qual st f fd c) (S : FnScope N ps (defScope st)) (len : ∀ vs H Q E, sp vs H Q E → vs.length = ps.length)
    (hbody : ∀ (A : Around) (outer : List Env) (s : Shared) (H : Hp) (vs : List V) (Q : VK) (E : XK), Room k (A.deeper (envOfC qual (defScope st) s.heap.objs.size f (.ref c))) → sp vs H Q E →
      ∃ t, PSs (cxOf (L2.CX P w) P w K mg base N qual (defScope st) f (.ref c) A outer s H E) (defBody st) t ∧ t { nx := fun _ H' => Q .non H', rt := Q } (start N vs) H) : FnOk P w K mg base (L2.CX P w) (k + 1) f fd ps sp := by
  obtain ⟨oc, od, kV, doc, pm, an, ct, osl, rfl, lk, hc⟩ := F.ex
  exact fn_of lk hc S len hbody
end
/-! ### keys of two kinds that sort alike -/
def kTup (g : Str → Int) (r : Str → List Int) (z : Str) : PyData := .tuple [.int (g z), .tuple ((r z).map .int)]
def kLst (g : Str → Int) (r : Str → List Int) (z : Str) : PyData := .tuple [.int (g z), .list ((r z).map .int)]
section
variable {g : Str → Int} {r : Str → List Int} {bs : List Str}
theorem alike_tup (xs ys : List Int) : alike (.tuple (xs.map .int)) (.tuple (ys.map .int)) = true := by simp [alike, PySem.W.alike_ints]
theorem alike_lst (xs ys : List Int) : alike (.list (xs.map .int)) (.list (ys.map .int)) = true := by simp [alike, PySem.W.alike_ints]
theorem kTup_alike : AllAlike (bs.map (kTup g r)) := AllAlike.of fun b b' => by
  show alike (.tuple [.int (g b), .tuple ((r b).map .int)]) (.tuple [.int (g b'), .tuple ((r b').map .int)]) = true
  rw [alike, PySem.W.alikeAll, PySem.W.alikeAll, alike_tup]
  simp [alike, PySem.W.alikeAll]
theorem kLst_alike : AllAlike (bs.map (kLst g r)) := AllAlike.of fun b b' => by
  show alike (.tuple [.int (g b), .list ((r b).map .int)]) (.tuple [.int (g b'), .list ((r b').map .int)]) = true
  rw [alike, PySem.W.alikeAll, PySem.W.alikeAll, alike_lst]
  simp [alike, PySem.W.alikeAll]
theorem kTup_sort : Sortable (bs.map (kTup g r)) := Sortable.tuples fun b => ⟨_, _, rfl⟩
theorem kLst_sort : Sortable (bs.map (kLst g r)) := Sortable.tuples fun b => ⟨_, _, rfl⟩
theorem kTup_depth (z : Str) : (kTup g r z).depth ≤ 8 := by
  show PyData.depth (.tuple [.int (g z), .tuple ((r z).map .int)]) ≤ 8
  simp only [PyData.depth, PyData.depthAll, PySem.W.depth_ints]
  decide
theorem kLst_depth (z : Str) : (kLst g r z).depth ≤ 8 := by
  show PyData.depth (.tuple [.int (g z), .list ((r z).map .int)]) ≤ 8
  simp only [PyData.depth, PyData.depthAll, PySem.W.depth_ints]
  decide
theorem key_lt (z z' : Str) : dataLt (kTup g r z) (kTup g r z') = dataLt (kLst g r z) (kLst g r z') := by
  unfold kTup kLst
  rw [PySem.W.dataLt_pair (by simp [alike]) (alike_tup _ _), PySem.W.dataLt_pair (by simp [alike]) (alike_lst _ _)]
  have e1 : PyData.eqv (.tuple ((r z).map .int)) (.tuple ((r z').map .int)) = PyData.eqv (.list ((r z).map .int)) (.list ((r z').map .int)) := by simp [PyData.eqv]
  have e2 : dataLt (.tuple ((r z).map .int)) (.tuple ((r z').map .int)) = dataLt (.list ((r z).map .int)) (.list ((r z').map .int)) := by rw [PySem.W.dataLt_tuple, PySem.W.dataLt_list]
  rw [e1, e2]
theorem key_le : dataLe false (kTup g r) = dataLe false (kLst g r) := by
  rw [PySem.W.dataLe_eq, PySem.W.dataLe_eq]
  funext a b
  show (!dataLt (kTup g r b) (kTup g r a)) = (!dataLt (kLst g r b) (kLst g r a))
  rw [key_lt]
end
end Bt
namespace Bt
open PySem PySem.Spec PyProof.Rows L2
/-! ### o.m(e, ..), m may raise: what is raised is wished for at the caller's slots -/
section
variable {X : Cx} {CX : CXT} {k : Nat} {C g : Addr} {fd : FuncData} {ps : List Str} {sp : Sp} {E : L2.St → XK} {pos apos : Pos} {o e : Expr} {es : List Expr} {to : TE} {t : TA} {m : Str}
def tMethE (C : Addr) (m : Str) (sp : Sp) (E : L2.St → XK) (to : TE) (t : TA) : TE := fun σ H Q => to σ H fun y H1 => ∃ a dx fs, y = V.ref a ∧ H1 a = some (.ins C dx fs) ∧ fs.lookup m = none ∧ t σ H1 fun vs H2 => sp (V.ref a :: vs) H2 Q (E σ)
theorem pe_methE {pl : Sem Bool} (ho : PE X o to) (c : Cls X.K C) (hm : Meth X.K C m g) (F : FnOk X.prog X.w X.K X.mg X.base CX k g fd ps sp) (hr : Room k X.A) (hb : Binds X.K fd ps []) (hx : ∀ σ, PassesAt CX X σ (E σ)) (ha : PA X (e :: es) t)
    (ht : eval (.Call (.Attribute o m apos) (e :: es) [] pos) X.env = (do
      let y ← eval o X.env
      standAt apos.atName
      let (f, first) ← holding [y] (getMethod y m pl)
      callWith pos f first (backTo pos (starEach (e :: es) X.env)) (backToKw pos (keywordEach [] X.env))) := by rfl)
    (hst : starEach (e :: es) X.env = (false, eval e X.env) :: starEach es X.env := by rfl) (hpl : (backTo pos (starEach es X.env)).any (·.1) = false := by rfl) :
    PE X (.Call (.Attribute o m apos) (e :: es) [] pos) (tMethE C m sp E to t) := by
  refine ⟨fun pins s σ H Q I h => ?_⟩
  refine PySem.W.methodCall_KW (pl := pl) (thn (ho.run pins s σ H _ I h) fun u s1 z => ?_) ht
  obtain ⟨y, H1, I1, ry, a, dx, fs, ey, ea, l, q⟩ := z
  subst ey
  obtain rfl : u = Value.ref a := ry
  refine getmeth_ok I1 ea c hm l (PySem.W.callWith_K (first := [.ref a]) (h₀ := X.base) I.ok.mod.kin hm.kp (thn (ha.run pos pins s1 σ H1 _ I1 q) fun us s2 z2 => ?_) hst hpl)
  obtain ⟨vs, H2, I2, r, q2⟩ := z2
  refine ⟨I2.kIn, ?_⟩
  exact run_fnSD (us := .ref a :: us) (vs := .ref a :: vs) (dvs := []) F hr hb .nil (hx σ) I2 (.cons rfl r) (by rw [List.append_nil]; exact q2)
theorem s_methE {σ : L2.St} {H : Hp} {Q : VK} (h : to σ H fun y H1 => ∃ a dx fs, y = V.ref a ∧ H1 a = some (.ins C dx fs) ∧ fs.lookup m = none ∧ t σ H1 fun vs H2 => sp (V.ref a :: vs) H2 Q (E σ)) : tMethE C m sp E to t σ H Q := h
end
end Bt
namespace Bt
open PySem PySem.Spec PyProof.Rows L2
open PySem.W (dataLt alike)
/-! ### a < b of data that are alike -/
def rLtD (K : PySem.W.Frag) : R2 := fun x y H Q => ∃ d e, Dp K H x d ∧ Dp K H y e ∧ alike d e = true ∧ d ≠ .none ∧ d.depth ≤ 60 ∧ Q (.bl (dataLt d e)) H
theorem op_ltD {X : Cx} (hu : X.A.units + 64 < cLine) : OpR X (compareOp .Lt) (rLtD X.K) := by
  intro pins s σ H x y v u Q I rx ry h
  obtain ⟨d, e, dx, dy, al, nn, dp, q⟩ := h
  obtain ⟨as, r1⟩ := Dp.reads I d x v dx rx
  obtain ⟨bs, r2⟩ := Dp.reads I e y u dy ry
  show wpAny (model X.prog X.w) X.A (richCompare .Lt v u) (EP X pins σ Q) X.xe s
  exact PySem.W.rcLt_alike d e X.A s v u as bs r1 r2 al nn (by omega) X.prog X.w _ _ ⟨.bl _, H, I, rfl, q⟩
theorem q_ltD {K : PySem.W.Frag} {x y : V} {H : Hp} {Q : VK} {d e : PyData} (dx : Dp K H x d) (dy : Dp K H y e) (al : alike d e = true) (nn : d ≠ .none) (dp : d.depth ≤ 60) (q : Q (.bl (dataLt d e)) H) : rLtD K x y H Q := ⟨d, e, dx, dy, al, nn, dp, q⟩
end Bt
namespace Bt
open PySem PySem.Spec PyProof.Rows L2
def top (i : Nat) : Stmt := PySem.Challenge.pw_betweenlists_k13_stories_made.main.body.getD i (.Pass ⟨0, 0, 0, 0⟩)
abbrev s__wall : Stmt := top 0
theorem sc__wall : FnScope ["k"] ["k"] (defScope s__wall) := ⟨rfl, rfl, rfl, by decide +kernel, rfl, by decide +kernel, by decide +kernel⟩
abbrev s_is_whole : Stmt := top 4
theorem sc_is_whole : FnScope ["value"] ["value"] (defScope s_is_whole) := ⟨rfl, rfl, rfl, by decide +kernel, rfl, by decide +kernel, by decide +kernel⟩
abbrev s_is_name : Stmt := top 5
theorem sc_is_name : FnScope ["value", "letter"] ["value"] (defScope s_is_name) := ⟨rfl, rfl, rfl, by decide +kernel, rfl, by decide +kernel, by decide +kernel⟩
abbrev s_is_place : Stmt := top 6
theorem sc_is_place : FnScope ["value"] ["value"] (defScope s_is_place) := ⟨rfl, rfl, rfl, by decide +kernel, rfl, by decide +kernel, by decide +kernel⟩
abbrev s_is_place_list : Stmt := top 7
theorem sc_is_place_list : FnScope ["value", "item"] ["value"] (defScope s_is_place_list) := ⟨rfl, rfl, rfl, by decide +kernel, rfl, by decide +kernel, by decide +kernel⟩
abbrev s_is_change : Stmt := top 9
theorem sc_is_change : FnScope ["value", "many", "item"] ["value"] (defScope s_is_change) := ⟨rfl, rfl, rfl, by decide +kernel, rfl, by decide +kernel, by decide +kernel⟩
abbrev s_goes : Stmt := top 10
theorem sc_goes : FnScope ["change"] ["change"] (defScope s_goes) := ⟨rfl, rfl, rfl, by decide +kernel, rfl, by decide +kernel, by decide +kernel⟩
abbrev s_comes : Stmt := top 11
theorem sc_comes : FnScope ["change"] ["change"] (defScope s_comes) := ⟨rfl, rfl, rfl, by decide +kernel, rfl, by decide +kernel, by decide +kernel⟩
abbrev s_is_possible : Stmt := top 12
theorem sc_is_possible : FnScope ["change", "standing", "old", "new"] ["change", "standing"] (defScope s_is_possible) := ⟨rfl, rfl, rfl, by decide +kernel, rfl, by decide +kernel, by decide +kernel⟩
abbrev s_carry_out : Stmt := top 13
theorem sc_carry_out : FnScope ["change", "standing", "old", "new"] ["change", "standing"] (defScope s_carry_out) := ⟨rfl, rfl, rfl, by decide +kernel, rfl, by decide +kernel, by decide +kernel⟩
abbrev s_InvalidStory___init__ : Stmt := inClass (top 16) 0
theorem sc_InvalidStory___init__ : FnScope ["self", "value"] ["self", "value"] (defScope s_InvalidStory___init__) := ⟨rfl, rfl, rfl, by decide +kernel, rfl, by decide +kernel, by decide +kernel⟩
abbrev s_InvalidChange___init__ : Stmt := inClass (top 17) 0
theorem sc_InvalidChange___init__ : FnScope ["self", "value"] ["self", "value"] (defScope s_InvalidChange___init__) := ⟨rfl, rfl, rfl, by decide +kernel, rfl, by decide +kernel, by decide +kernel⟩
abbrev s_InvalidNumber___init__ : Stmt := inClass (top 18) 0
theorem sc_InvalidNumber___init__ : FnScope ["self", "value"] ["self", "value"] (defScope s_InvalidNumber___init__) := ⟨rfl, rfl, rfl, by decide +kernel, rfl, by decide +kernel, by decide +kernel⟩
abbrev s_check_least : Stmt := top 20
theorem sc_check_least : FnScope ["value", "least"] ["value", "least"] (defScope s_check_least) := ⟨rfl, rfl, rfl, by decide +kernel, rfl, by decide +kernel, by decide +kernel⟩
abbrev s_check_index : Stmt := top 21
theorem sc_check_index : FnScope ["value", "many"] ["value", "many"] (defScope s_check_index) := ⟨rfl, rfl, rfl, by decide +kernel, rfl, by decide +kernel, by decide +kernel⟩
abbrev s_may_come : Stmt := top 23
theorem sc_may_come : FnScope ["change", "gap", "standing"] ["change", "gap", "standing"] (defScope s_may_come) := ⟨rfl, rfl, rfl, by decide +kernel, rfl, by decide +kernel, by decide +kernel⟩
abbrev s__standing_behind : Stmt := top 24
theorem sc__standing_behind : FnScope ["first", "changes", "standing", "gap", "change", "place"] ["first", "changes"] (defScope s__standing_behind) := ⟨rfl, rfl, rfl, by decide +kernel, rfl, by decide +kernel, by decide +kernel⟩
abbrev s_Story___init__ : Stmt := inClass (top 25) 0
theorem sc_Story___init__ : FnScope ["self", "first", "changes", "row", "standing"] ["self", "first", "changes"] (defScope s_Story___init__) := ⟨rfl, rfl, rfl, by decide +kernel, rfl, by decide +kernel, by decide +kernel⟩
abbrev s_Story_first : Stmt := inClass (top 25) 1
theorem sc_Story_first : FnScope ["self"] ["self"] (defScope s_Story_first) := ⟨rfl, rfl, rfl, by decide +kernel, rfl, by decide +kernel, by decide +kernel⟩
abbrev s_Story___len__ : Stmt := inClass (top 25) 2
theorem sc_Story___len__ : FnScope ["self"] ["self"] (defScope s_Story___len__) := ⟨rfl, rfl, rfl, by decide +kernel, rfl, by decide +kernel, by decide +kernel⟩
abbrev s_Story___getitem__ : Stmt := inClass (top 25) 3
theorem sc_Story___getitem__ : FnScope ["self", "at"] ["self", "at"] (defScope s_Story___getitem__) := ⟨rfl, rfl, rfl, by decide +kernel, rfl, by decide +kernel, by decide +kernel⟩
abbrev s_Story___iter__ : Stmt := inClass (top 25) 4
theorem sc_Story___iter__ : FnScope ["self"] ["self"] (defScope s_Story___iter__) := ⟨rfl, rfl, rfl, by decide +kernel, rfl, by decide +kernel, by decide +kernel⟩
abbrev s_Story___iadd__ : Stmt := inClass (top 25) 5
theorem sc_Story___iadd__ : FnScope ["self", "other", "gap"] ["self", "other"] (defScope s_Story___iadd__) := ⟨rfl, rfl, rfl, by decide +kernel, rfl, by decide +kernel, by decide +kernel⟩
abbrev s_Story___eq__ : Stmt := inClass (top 25) 6
theorem sc_Story___eq__ : FnScope ["self", "other"] ["self", "other"] (defScope s_Story___eq__) := ⟨rfl, rfl, rfl, by decide +kernel, rfl, by decide +kernel, by decide +kernel⟩
abbrev s_Story___contains__ : Stmt := inClass (top 25) 7
theorem sc_Story___contains__ : FnScope ["self", "place", "change"] ["self", "place"] (defScope s_Story___contains__) := ⟨rfl, rfl, rfl, by decide +kernel, rfl, by decide +kernel, by decide +kernel⟩
abbrev s_Story_at : Stmt := inClass (top 25) 8
theorem sc_Story_at : FnScope ["self", "k", "standing", "change", "place"] ["self", "k"] (defScope s_Story_at) := ⟨rfl, rfl, rfl, by decide +kernel, rfl, by decide +kernel, by decide +kernel⟩
abbrev s_Story_fits : Stmt := inClass (top 25) 9
theorem sc_Story_fits : FnScope ["self", "log"] ["self", "log"] (defScope s_Story_fits) := ⟨rfl, rfl, rfl, by decide +kernel, rfl, by decide +kernel, by decide +kernel⟩
abbrev s_Story_allowed : Stmt := inClass (top 25) 10
theorem sc_Story_allowed : FnScope ["self", "rules"] ["self", "rules"] (defScope s_Story_allowed) := ⟨rfl, rfl, rfl, by decide +kernel, rfl, by decide +kernel, by decide +kernel⟩
abbrev s_Story_turned : Stmt := inClass (top 25) 11
theorem sc_Story_turned : FnScope ["self", "moments"] ["self", "moments"] (defScope s_Story_turned) := ⟨rfl, rfl, rfl, by decide +kernel, rfl, by decide +kernel, by decide +kernel⟩
abbrev s__law_purse : Stmt := top 27
theorem sc__law_purse : FnScope ["_law_script", "_law_at", "_law_cell"] ["_law_script", "_law_at"] (defScope s__law_purse) := ⟨rfl, rfl, rfl, by decide +kernel, rfl, by decide +kernel, by decide +kernel⟩
abbrev s__law_draw : Stmt := top 28
theorem sc__law_draw : FnScope ["_law_purse_here", "_law_many", "_law_drawn", "_law_number"] ["_law_purse_here", "_law_many"] (defScope s__law_draw) := ⟨rfl, rfl, rfl, by decide +kernel, rfl, by decide +kernel, by decide +kernel⟩
abbrev s__law_name : Stmt := top 29
theorem sc__law_name : FnScope ["_law_purse_here", "_law_name_here", "_law_turn"] ["_law_purse_here"] (defScope s__law_name) := ⟨rfl, rfl, rfl, by decide +kernel, rfl, by decide +kernel, by decide +kernel⟩
abbrev s__law_names : Stmt := top 30
theorem sc__law_names : FnScope ["_law_purse_here", "_law_many", "_law_names_here", "_law_turn", "_law_name_here"] ["_law_purse_here", "_law_many"] (defScope s__law_names) := ⟨rfl, rfl, rfl, by decide +kernel, rfl, by decide +kernel, by decide +kernel⟩
abbrev s__law_world : Stmt := top 31
theorem sc__law_world : FnScope ["_law_purse_here", "_law_folders", "_law_names_here", "_law_places", "_law_folder", "_law_name_here"] ["_law_purse_here"] (defScope s__law_world) := ⟨rfl, rfl, rfl, by decide +kernel, rfl, by decide +kernel, by decide +kernel⟩
abbrev s__law_fresh : Stmt := top 32
theorem sc__law_fresh : FnScope ["_law_places", "_law_names_here", "_law_name_here"] ["_law_places"] (defScope s__law_fresh) := ⟨rfl, rfl, rfl, by decide +kernel, rfl, by decide +kernel, by decide +kernel⟩
abbrev s__law_whole : Stmt := top 33
theorem sc__law_whole : FnScope ["_law_value"] ["_law_value"] (defScope s__law_whole) := ⟨rfl, rfl, rfl, by decide +kernel, rfl, by decide +kernel, by decide +kernel⟩
abbrev s__law_step : Stmt := top 34
theorem sc__law_step : FnScope ["_law_there", "_law_change_here", "_law_rest", "_law_place"] ["_law_there", "_law_change_here"] (defScope s__law_step) := ⟨rfl, rfl, rfl, by decide +kernel, rfl, by decide +kernel, by decide +kernel⟩
abbrev s__law_change : Stmt := top 35
theorem sc__law_change : FnScope ["_law_purse_here", "_law_places", "_law_there", "_law_gap", "_law_one", "_law_other"] ["_law_purse_here", "_law_places", "_law_there", "_law_gap"] (defScope s__law_change) := ⟨rfl, rfl, rfl, by decide +kernel, rfl, by decide +kernel, by decide +kernel⟩
abbrev s__law_course : Stmt := top 36
theorem sc__law_course : FnScope ["_law_purse_here", "_law_places", "_law_there", "_law_changes", "_law_gap", "_law_turn", "_law_change_here"] ["_law_purse_here", "_law_places", "_law_there"] (defScope s__law_course) := ⟨rfl, rfl, rfl, by decide +kernel, rfl, by decide +kernel, by decide +kernel⟩
abbrev s__law_refused : Stmt := top 37
theorem sc__law_refused : FnScope ["_law_first", "_law_changes", "_law_one", "_law_other", "_law_found", "e", "_law_given"] ["_law_first", "_law_changes"] (defScope s__law_refused) := ⟨rfl, rfl, rfl, by decide +kernel, rfl, by decide +kernel, by decide +kernel⟩
abbrev s__law_refused_alone : Stmt := top 38
theorem sc__law_refused_alone : FnScope ["_law_first", "_law_found", "e"] ["_law_first"] (defScope s__law_refused_alone) := ⟨rfl, rfl, rfl, by decide +kernel, rfl, by decide +kernel, by decide +kernel⟩
abbrev s__law_added : Stmt := top 39
theorem sc__law_added : FnScope ["_law_story", "_law_change_here", "_law_found", "e"] ["_law_story", "_law_change_here"] (defScope s__law_added) := ⟨rfl, rfl, rfl, by decide +kernel, rfl, by decide +kernel, by decide +kernel⟩
abbrev s__law_got : Stmt := top 40
theorem sc__law_got : FnScope ["_law_story", "_law_k", "_law_found", "e"] ["_law_story", "_law_k"] (defScope s__law_got) := ⟨rfl, rfl, rfl, by decide +kernel, rfl, by decide +kernel, by decide +kernel⟩
abbrev s__law_bad_changes : Stmt := top 41
theorem sc__law_bad_changes : FnScope ["_law_there", "_law_places", "_law_gap", "_law_place", "_law_bad", "_law_free", "_law_other"] ["_law_there", "_law_places", "_law_gap"] (defScope s__law_bad_changes) := ⟨rfl, rfl, rfl, by decide +kernel, rfl, by decide +kernel, by decide +kernel⟩
abbrev s__law_odd_changes : Stmt := top 42
theorem sc__law_odd_changes : FnScope ["_law_there", "_law_gap", "_law_bad", "_law_place", "_law_other"] ["_law_there", "_law_gap"] (defScope s__law_odd_changes) := ⟨rfl, rfl, rfl, by decide +kernel, rfl, by decide +kernel, by decide +kernel⟩
abbrev s__law_same : Stmt := top 43
theorem sc__law_same : FnScope ["_law_story", "_law_first", "_law_changes", "_law_places", "_law_seen", "_law_k", "_law_change_here", "_law_place"] ["_law_story", "_law_first", "_law_changes", "_law_places"] (defScope s__law_same) := ⟨rfl, rfl, rfl, by decide +kernel, rfl, by decide +kernel, by decide +kernel⟩
abbrev s__law_indexes : Stmt := top 44
theorem sc__law_indexes : FnScope ["_law_story", "_law_many", "_law_far", "_law_k", "_law_odd", "_law_value"] ["_law_story", "_law_many", "_law_far"] (defScope s__law_indexes) := ⟨rfl, rfl, rfl, by decide +kernel, rfl, by decide +kernel, by decide +kernel⟩
abbrev s__law_alike : Stmt := top 45
theorem sc__law_alike : FnScope ["_law_story", "_law_first", "_law_changes", "_law_fresh_here", "_law_others", "_law_k", "_law_change_here", "_law_later", "_law_one"] ["_law_story", "_law_first", "_law_changes", "_law_fresh_here"] (defScope s__law_alike) := ⟨rfl, rfl, rfl, by decide +kernel, rfl, by decide +kernel, by decide +kernel⟩
abbrev s__law_ordered_pair : Stmt := top 46
theorem sc__law_ordered_pair : FnScope ["_law_first", "_law_fresh_here", "_law_more", "_law_one", "_law_other", "_law_left", "_law_right"] ["_law_first", "_law_fresh_here", "_law_more"] (defScope s__law_ordered_pair) := ⟨rfl, rfl, rfl, by decide +kernel, rfl, by decide +kernel, by decide +kernel⟩
abbrev s__law_odd_parts : Stmt := top 47
theorem sc__law_odd_parts : FnScope ["_law_first", "_law_changes", "_law_places", "_law_twice", "_law_odd", "_law_value", "_law_place"] ["_law_first", "_law_changes", "_law_places"] (defScope s__law_odd_parts) := ⟨rfl, rfl, rfl, by decide +kernel, rfl, by decide +kernel, by decide +kernel⟩
abbrev s_law : Stmt := top 48
theorem sc_law : FnScope ["_law_script", "_law_at", "_law_purse_here", "_law_places", "_law_first", "_law_changes", "_law_handed", "_law_given", "_law_story", "_law_slow", "_law_told", "_law_there", "_law_gap", "_law_k", "_law_change_here", "_law_bad", "_law_fresh_here", "_law_place", "_law_one"] ["_law_script"] (defScope s_law) := ⟨rfl, rfl, rfl, by decide +kernel, rfl, by decide +kernel, by decide +kernel⟩
theorem words_ : True := by
  k_with "s_P13" => first
    | ((with_reducible refine' s_var ?hv ?_); (case hv => exact rfl))
    | with_reducible first
      | refine' s_c ?_ | refine' s_op ?_ | refine' s_asg ?_ | refine' s_gname ?_ | refine' s_seq ?_ | refine' s_next ?_ | refine' s_ret ?_ | refine' s_ifS ?_ | refine' s_drop ?_ | refine' s_retN ?_
      | refine' s_test ?_ | refine' s_B ?_ | refine' q_test ?_ | refine' s_int ?_ | refine' s_cons ?_ | refine' s_nil ?_ | refine' s_call ?_ | refine' s_CB ?_ | refine' s_andT ?_ | refine' s_orT ?_ | refine' s_notT ?_
      | refine' s_andV ?_ | refine' s_orV ?_ | refine' s_notV ?_ | refine' s_ifV ?_ | refine' s_chain ?_ | refine' s_sl ?_ | refine' s_noPart ?_ | refine' s_part ?_ | refine' s_gsub ?_ | refine' s_BM ?_ | refine' s_tup ?_ | refine' s_lst ?_
      | refine' q_add ?_ | refine' q_sub ?_ | refine' q_lt ?_ | refine' q_le ?_ | refine' q_gt ?_ | refine' q_ge ?_ | refine' s_ifT ?_ | refine' s_ifF ?_
      | (refine' q_mod ?hm ?_; (case hm => first | omega | decide)) | (refine' q_fdiv ?hm ?hn ?_; (case hm => first | omega | decide); (case hn => first | omega | decide))
      | (refine' q_mulR ?hm ?_; (case hm => first | omega | decide)) | (refine' q_mulL ?hm ?_; (case hm => first | omega | decide))
    | dsimp only
  k_with "r_P13" => repeat (k_extra "s_P13")
  trivial
structure Txt (K : PySem.W.Frag) (mg : Str → Option Value) : Prop where
  n_isinstance : mg "isinstance" = none
  n_int : mg "int" = none
  n_bool : mg "bool" = none
  n_str : mg "str" = none
  n_sorted : mg "sorted" = none
  v_LETTERS : ∃ t, mg "LETTERS" = some (.str alphaS t)
  n_tuple : mg "tuple" = none
  n_list : mg "list" = none
  n_set : mg "set" = none
  d_is_whole : Df K mg "is_whole" s_is_whole ["value"]
section
variable {P : Program} {w : World} {K : PySem.W.Frag} {mg : Str → Option Value} {base : Heap}
/-! ### is_whole -/
def wholeV : V → Bool
  | .int _ => true
  | _ => false
def spWhole (K : PySem.W.Frag) : Sp := fun vs H Q _ => ∃ x T, vs = [x] ∧ Pl K H x T ∧ Q (.bl (T == "int")) H
theorem ok_is_whole (T : Txt K mg) : Cal P w K mg base 1 "is_whole" (spWhole K) := by
  refine T.d_is_whole.cal sc_is_whole (fun vs H Q E h => ?_) (fun f cdv A outer s H vs Q E hr h => ?_)
  · obtain ⟨x, T, rfl, _⟩ := h
    rfl
  · obtain ⟨x, ty, rfl, hx, k⟩ := h
    refine ⟨_, (pss_one (ps_ret (pe_and (pe_callB call_isi (by rfl) T.n_isinstance (by decide +kernel) (pa_cons (pv 0) (pa_cons (pe_bltn (v := .ty "int") (by rfl) T.n_int (by decide +kernel) rfl) pa_nil))) (pe_one (pe_not (pe_callB call_isi (by rfl) T.n_isinstance (by decide +kernel) (pa_cons (pv 0) (pa_cons (pe_bltn (v := .ty "bool") (by rfl) T.n_bool (by decide +kernel) rfl) pa_nil)))))))), ?_⟩
    k_extra "r_P13"
    refine q_isi hx .int ?_
    k_extra "r_P13"
    cases hx.2 <;> k_extra "r_P13" <;> first | exact k | (refine s_if (fun _ => ?_) (fun z => absurd z (by decide)); k_extra "r_P13"; refine q_isi hx .bl ?_; k_extra "r_P13"; exact k)
end
end Bt
namespace Bt
open PySem PySem.Spec PyProof.Rows L2
theorem words2_ : True := by
  k_with "s_D13" => first
    | ((with_reducible refine' s_var ?hv ?_); (case hv => exact rfl))
    | with_reducible first
      | refine' s_c ?_ | refine' s_op ?_ | refine' s_asg ?_ | refine' s_gname ?_ | refine' s_seq ?_ | refine' s_next ?_ | refine' s_ret ?_ | refine' s_ifS ?_ | refine' s_drop ?_ | refine' s_retN ?_
      | refine' s_test ?_ | refine' s_B ?_ | refine' q_test ?_ | refine' s_int ?_ | refine' s_cons ?_ | refine' s_nil ?_ | refine' s_call ?_ | refine' s_CB ?_ | refine' s_andT ?_ | refine' s_orT ?_ | refine' s_notT ?_
      | refine' s_andV ?_ | refine' s_orV ?_ | refine' s_notV ?_ | refine' s_ifV ?_ | refine' s_chain ?_ | refine' s_sl ?_ | refine' s_noPart ?_ | refine' s_part ?_ | refine' s_gsub ?_ | refine' s_BM ?_ | refine' s_tup ?_ | refine' s_lst ?_
      | refine' q_add ?_ | refine' q_sub ?_ | refine' q_lt ?_ | refine' q_le ?_ | refine' q_gt ?_ | refine' q_ge ?_ | refine' s_ifT ?_ | refine' s_ifF ?_
      | (refine' q_mod ?hm ?_; (case hm => first | omega | decide)) | (refine' q_fdiv ?hm ?hn ?_; (case hm => first | omega | decide); (case hn => first | omega | decide))
      | (refine' q_mulR ?hm ?_; (case hm => first | omega | decide)) | (refine' q_mulL ?hm ?_; (case hm => first | omega | decide))
    | dsimp only
  k_with "r_D13" => repeat (k_extra "s_D13")
  trivial
/-! ### the purse -/
def Purse (H : Hp) (p : Addr) : Prop := ∃ a b c : Int, H p = some (.lst [.int a, .int b, .int c]) ∧ 0 ≤ b ∧ b < 2147483629
theorem Purse.mono {H H' : Hp} {p : Addr} (S : Same H H') (h : Purse H p) : Purse H' p := let ⟨a, b, c, e, h⟩ := h; ⟨a, b, c, S _ _ e, h⟩
def spDraw : Sp := fun vs H Q _ => ∃ (p : Addr) (m : Int), vs = [.ref p, .int m] ∧ Purse H p ∧ 0 < m ∧ m < 1073741824 ∧ ∀ n H', 0 ≤ n → n < m → Purse H' p → But p H H' → Q (.int n) H'
structure TxtL (K : PySem.W.Frag) (mg : Str → Option Value) : Prop where
  n_range : mg "range" = none
  n_sum : mg "sum" = none
  d__law_purse : Df K mg "_law_purse" s__law_purse ["_law_script", "_law_at"]
  d__law_draw : Df K mg "_law_draw" s__law_draw ["_law_purse_here", "_law_many"]
section
variable {P : Program} {w : World} {K : PySem.W.Frag} {mg : Str → Option Value} {base : Heap}
theorem ok__law_draw (L : TxtL K mg) : Cal P w K mg base 1 "_law_draw" spDraw := by
  refine L.d__law_draw.cal sc__law_draw (fun vs H Q E h => ?_) (fun f cdv A outer s H vs Q E hr h => ?_)
  · obtain ⟨p, m, rfl, _⟩ := h
    rfl
  · obtain ⟨p, m, rfl, ⟨a, b, c, hp, b0, b1⟩, m0, m1, k⟩ := h
    refine ⟨_, (pss_cons (ps_if (pt_cmpR op_gtI (pe_ix ix_seq (pv 0) pe_int (fun _ _ => rfl)) pe_int (by rfl)) (pss_cons (ps_set (i := 2) sc__law_draw.nd rfl (.inl rfl) (pe_op op_modU (pe_ix ix_seq (pv 0) pe_int (fun _ _ => rfl)) (pv 1)))
        (pss_cons (ps_asg (pe_op op_fdivU (pe_ix ix_seq (pv 0) pe_int (fun _ _ => rfl)) (pv 1)) (pg_sub (pv 0) pe_int set_list))
        (pss_one (ps_ret (pv 2))))) pss_nil)
      (pss_cons (ps_asg (pe_op op_addU (pe_ix ix_seq (pv 0) pe_int (fun _ _ => rfl)) pe_int) (pg_sub (pv 0) pe_int set_list))
      (pss_cons (ps_set (i := 3) sc__law_draw.nd rfl (.inl rfl) (pe_op op_modU (pe_op op_addU (pe_op op_addU (pe_op op_mulU (pe_ix ix_seq (pv 0) pe_int (fun _ _ => rfl)) pe_int) (pe_op op_mulU (pe_ix ix_seq (pv 0) pe_int (fun _ _ => rfl)) pe_int)) pe_int) pe_int))
      (pss_cons (ps_set (i := 3) sc__law_draw.nd rfl (.inl rfl) (pe_op op_modU (pe_op op_addU (pe_op op_mulU (pv 3) (pv 3)) (pe_ix ix_seq (pv 0) pe_int (fun _ _ => rfl))) pe_int))
      (pss_cons (ps_set (i := 3) sc__law_draw.nd rfl (.inl rfl) (pe_op op_modU (pe_op op_addU (pe_op op_mulU (pv 3) (pv 3)) pe_int) pe_int))
      (pss_one (ps_ret (pe_op op_modU (pe_op op_fdivU (pv 3) pe_int) (pv 1))))))))), ?_⟩
    k_extra "r_D13"
    refine q_ixL (SqL.of hp) (at_of (j := 0) rfl rfl) ?_
    k_extra "r_D13"
    refine s_ifD (fun c0 => ?_) (fun c0 => ?_)
    · k_extra "r_D13"
      refine q_ixL (SqL.of hp) (at_of (j := 0) rfl rfl) ?_
      k_extra "r_D13"
      refine q_ixL (SqL.of hp) (at_of (j := 0) rfl rfl) ?_
      k_extra "r_D13"
      refine q_setL hp rfl ?_
      k_extra "r_D13"
      exact k _ _ (Int.emod_nonneg _ (by omega)) (Int.emod_lt_of_pos _ m0) ⟨_, _, _, upd_same, b0, b1⟩ But.upd
    · k_extra "r_D13"
      refine q_ixL (SqL.of hp) (at_of (j := 2) rfl rfl) ?_
      k_extra "r_D13"
      refine q_setL hp rfl ?_
      have hp2 : (upd H p (.lst ([V.int a, V.int b, V.int c].set 2 (.int (c + 1))))) p = some (.lst [.int a, .int b, .int (c + 1)]) := upd_same
      k_extra "r_D13"
      refine q_ixL (SqL.of hp2) (at_of (j := 1) rfl rfl) ?_
      k_extra "r_D13"
      refine q_ixL (SqL.of hp2) (at_of (j := 2) rfl rfl) ?_
      k_extra "r_D13"
      have g1 := Int.emod_nonneg (b * 48271 + (c + 1) * 1299709 + 907) (show (2147483629 : Int) ≠ 0 by decide)
      have g2 := Int.emod_lt_of_pos (b * 48271 + (c + 1) * 1299709 + 907) (show (0 : Int) < 2147483629 by decide)
      generalize (b * 48271 + (c + 1) * 1299709 + 907) % 2147483629 = x1 at g1 g2 ⊢
      k_extra "r_D13"
      refine q_ixL (SqL.of hp2) (at_of (j := 2) rfl rfl) ?_
      k_extra "r_D13"
      have g3 := Int.emod_nonneg (x1 * x1 + (c + 1)) (show (2147483587 : Int) ≠ 0 by decide)
      have g4 := Int.emod_lt_of_pos (x1 * x1 + (c + 1)) (show (0 : Int) < 2147483587 by decide)
      generalize (x1 * x1 + (c + 1)) % 2147483587 = x2 at g3 g4 ⊢
      k_extra "r_D13"
      exact k _ _ (Int.emod_nonneg _ (by omega)) (Int.emod_lt_of_pos _ m0) ⟨_, _, _, hp2, b0, b1⟩ But.upd
theorem cutV_ints {ns : List Int} {lo hi : Option Int} : ∃ ms : List Int, cutV (ns.map V.int) lo hi = ms.map V.int := ⟨_, by unfold cutV; rw [← List.map_drop, ← List.map_take]⟩
theorem big_pos : (0 : Int) < ((10 : Int) ^ (60 : Int).toNat) ^ (10 : Int).toNat := Int.pow_pos (Int.pow_pos (by decide))
def spPurse (K : PySem.W.Frag) : Sp := fun vs H Q _ => ∃ (a : Addr) (ns : List Int) (k : Int), vs = [.ref a, .int k] ∧ SqL K H a (ns.map V.int) ∧ 0 ≤ k ∧ k < 1000 ∧ ∀ p H', H p = none → Same H H' → Purse H' p → Q (.ref p) H'
theorem ok__law_purse (T : Txt K mg) (L : TxtL K mg) : Cal P w K mg base 1 "_law_purse" (spPurse K) := by
  refine L.d__law_purse.cal sc__law_purse (fun vs H Q E h => ?_) (fun f cdv A outer s H vs Q E hr h => ?_)
  · obtain ⟨a, ns, k, rfl, _⟩ := h
    rfl
  · obtain ⟨a, ns, at_, rfl, hs, k0, k1, k⟩ := h
    refine ⟨_, (pss_cons (ps_set (i := 2) sc__law_purse.nd rfl (.inl rfl) (pe_callTy call_int1 (by rfl) T.n_int (by decide +kernel) (pa_cons (pe_callB (cr_sum rfl) (by rfl) L.n_sum (by decide +kernel) (pa_cons (pe_slice sl_list (pv 0) (po_some (pv 1)) (po_some (pe_op op_addU (pv 1) pe_int))) pa_nil)) pa_nil)))
      (pss_one (ps_ret (pe_lst (pa_cons (pe_op op_mulU (pe_callTy call_int1 (by rfl) T.n_int (by decide +kernel) (pa_cons (pe_cmpR op_geI (pv 2) (pe_op op_powW pe_int pe_int) (by rfl)) pa_nil)) (pe_op op_modU (pv 2) (pe_op op_powW (pe_op op_powW pe_int pe_int) pe_int))) (pa_cons (pe_op op_modU (pv 2) pe_int) (pa_cons (pe_op op_mulU pe_int (pv 1)) pa_nil))))))), ?_⟩
    k_extra "r_D13"
    refine ⟨a, _, rfl, hs, fun l hl => ?_⟩
    obtain ⟨ms, em⟩ := cutV_ints (ns := ns) (lo := some at_) (hi := some (at_ + 1))
    rw [em]
    k_extra "r_D13"
    refine ⟨l, ms, rfl, SqL.of upd_same, ?_⟩
    k_extra "r_D13"
    refine .inl ⟨_, rfl, ?_⟩
    k_extra "r_D13"
    refine ⟨_, _, rfl, rfl, ⟨by decide, by decide +kernel⟩, ?_⟩
    k_extra "r_D13"
    refine .inr ⟨_, rfl, ?_⟩
    k_extra "r_D13"
    refine ⟨_, _, rfl, rfl, ⟨by decide, by decide +kernel⟩, ?_⟩
    k_extra "r_D13"
    refine ⟨_, _, rfl, rfl, ⟨by decide, by decide +kernel⟩, ?_⟩
    refine q_mod big_pos ?_
    refine q_mulL ?_ ?_
    · split <;> decide
    k_extra "r_D13"
    refine ⟨by show 3 ≤ sizeLine; decide, fun p np => ?_⟩
    refine k p _ (by rw [upd_ne (fun e => by rw [e, upd_same] at np; cases np)] at np; exact np) (fun b o e => ?_) ⟨_, _, _, upd_same, Int.emod_nonneg _ (by decide), Int.emod_lt_of_pos _ (by decide)⟩
    exact Same.new np _ _ (Same.new hl _ _ e)
end
end Bt
namespace Bt
open PySem PySem.Spec PyProof.Rows L2
theorem words6_ : True := by
  k_with "s_N13" => first
    | ((with_reducible refine' s_var ?hv ?_); (case hv => exact rfl))
    | with_reducible first
      | refine' s_c ?_ | refine' s_op ?_ | refine' s_asg ?_ | refine' s_gname ?_ | refine' s_seq ?_ | refine' s_next ?_ | refine' s_ret ?_ | refine' s_ifS ?_ | refine' s_drop ?_ | refine' s_retN ?_
      | refine' s_test ?_ | refine' s_B ?_ | refine' q_test ?_ | refine' s_int ?_ | refine' s_cons ?_ | refine' s_nil ?_ | refine' s_call ?_ | refine' s_CB ?_ | refine' s_andT ?_ | refine' s_orT ?_ | refine' s_notT ?_
      | refine' s_andV ?_ | refine' s_orV ?_ | refine' s_notV ?_ | refine' s_ifV ?_ | refine' s_chain ?_ | refine' s_sl ?_ | refine' s_noPart ?_ | refine' s_part ?_ | refine' s_gsub ?_ | refine' s_BM ?_ | refine' s_tup ?_ | refine' s_lst ?_
      | refine' q_add ?_ | refine' q_sub ?_ | refine' q_lt ?_ | refine' q_le ?_ | refine' q_gt ?_ | refine' q_ge ?_ | refine' s_ifT ?_ | refine' s_ifF ?_ | refine' s_yes ?_ | refine' s_iStr ?_ | refine' s_M0 ?_ | refine' s_make ?_ | refine' s_makeS ?_ | refine' s_prop ?_ | refine' s_raise1 ?_ | refine' s_for ?_ | refine' s_rng1 ?_ | refine' s_par ?_ | refine' s_gcons ?_ | refine' s_gnil ?_ | refine' s_iList ?_ | refine' s_iEnum ?_
      | (refine' q_mod ?hm ?_; (case hm => first | omega | decide)) | (refine' q_fdiv ?hm ?hn ?_; (case hm => first | omega | decide); (case hn => first | omega | decide))
      | (refine' q_mulR ?hm ?_; (case hm => first | omega | decide)) | (refine' q_mulL ?hm ?_; (case hm => first | omega | decide))
    | dsimp only
  k_with "r_N13" => repeat (k_extra "s_N13")
  trivial
/-! ### names -/
def Nm (z : Str) : Prop := 1 ≤ z.length ∧ z.length ≤ 8 ∧ ∀ c ∈ z.cps.toList, c ∈ alpha
theorem Nm.asc {z : Str} (h : Nm z) : Asc z := fun c hc => by
  have := mem_alpha.mp (h.2.2 c hc)
  omega
theorem Nm.sz {z : Str} (h : Nm z) : z.length ≤ sizeLine := Bt.sz (by have := h.2.1; omega)
def NmV (x : V) : Prop := ∃ z, x = .str z ∧ Nm z
structure TxtN (K : PySem.W.Frag) (mg : Str → Option Value) : Prop where
  n_len : mg "len" = none
  n_all : mg "all" = none
  v_LONGEST_NAME : ∃ t, mg "LONGEST_NAME" = some (.int 8 t)
  d_is_name : Df K mg "is_name" s_is_name ["value"]
  d__law_name : Df K mg "_law_name" s__law_name ["_law_purse_here"]
  d__law_names : Df K mg "_law_names" s__law_names ["_law_purse_here", "_law_many"]
section
variable {P : Program} {w : World} {K : PySem.W.Frag} {mg : Str → Option Value} {base : Heap}
theorem s_ifND {p : Prop} {inst : Decidable p} {A B : Prop} (h : p → B) (h' : ¬ p → A) : if (!@decide p inst) = true then A else B := by
  by_cases c : p
  · rw [decide_eq_true c]; exact h c
  · rw [decide_eq_false c]; exact h' c
theorem take_all (z : Str) : z.cps.toList.take z.cps.size = z.cps.toList := List.take_of_length_le (by rw [Array.length_toList]; exact Nat.le_refl _)
def rLenS : List V → Hp → VK → Prop := fun xs H Q => ∃ z, xs = [.str z] ∧ z.length ≤ sizeLine ∧ Q (.int z.length) H
theorem call_lenS {X : Cx} : CallR X (.builtin "len") rLenS := call_len_str
theorem q_lenS {H : Hp} {Q : VK} {z : Str} (h : z.length ≤ sizeLine) (q : Q (.int z.length) H) : rLenS [.str z] H Q := ⟨z, rfl, h, q⟩
def rInC : R2 := fun x y H Q => ∃ (c : Nat) (z : Str), x = .str ⟨#[c]⟩ ∧ y = .str z ∧ Q (.bl (decide (c ∈ z.cps.toList))) H
theorem op_inC {X : Cx} : OpR X (compareOp .In) rInC := op_in_sign
theorem q_inC {H : Hp} {Q : VK} {c : Nat} {z : Str} (q : Q (.bl (decide (c ∈ z.cps.toList))) H) : rInC (.str ⟨#[c]⟩) (.str z) H Q := ⟨c, z, rfl, rfl, q⟩
def rAllB (K : PySem.W.Frag) : List V → Hp → VK → Prop := fun vs H Q => ∃ (a : Addr) (bs : List Bool), vs = [V.ref a] ∧ SqL K H a (bs.map V.bl) ∧ Q (.bl (bs.all id)) H
theorem call_allB {X : Cx} (hc : X.calm = true) : CallR X (.builtin "all") (rAllB X.K) := cr_all hc
theorem q_allB {H : Hp} {Q : VK} {a : Addr} {bs : List Bool} (h : SqL K H a (bs.map V.bl)) (q : Q (.bl (bs.all id)) H) : rAllB K [.ref a] H Q := ⟨a, bs, rfl, h, q⟩
def spName (K : PySem.W.Frag) : Sp := fun vs H Q _ => ∃ x T, vs = [x] ∧ Pl K H x T ∧ (∀ z, x = .str z → z.length < 64) ∧ (¬ NmV x → ∀ H', Same H H' → Q (.bl false) H') ∧ (NmV x → ∀ H', Same H H' → Q (.bl true) H')
theorem ok_is_name (T : Txt K mg) (N : TxtN K mg) : Cal P w K mg base 1 "is_name" (spName K) := by
  refine N.d_is_name.cal sc_is_name (fun vs H Q E h => ?_) (fun f cdv A outer s H vs Q E hr h => ?_)
  · obtain ⟨x, T, rfl, _⟩ := h
    rfl
  · obtain ⟨x, ty, rfl, hx, hz, kN, kY⟩ := h
    refine ⟨_, (pss_cons (ps_if (pt_not (PW.pt (pw_and (pt_val (pe_callB call_isi (by rfl) T.n_isinstance (by decide +kernel) (pa_cons (pv 0) (pa_cons (pe_bltn (v := .ty "str") (by rfl) T.n_str (by decide +kernel) rfl) pa_nil)))) (pw_and1 (pt_chain op_leI op_leI pe_int (pe_callB call_lenS (by rfl) N.n_len (by decide +kernel) (pa_cons (pv 0) pa_nil)) (pe_glob (v := .int 8) (by rfl) N.v_LONGEST_NAME.choose_spec ⟨_, rfl⟩)))))) (pss_one (ps_ret pe_bl)) pss_nil)
      (pss_one (ps_ret (pe_callB (call_allB rfl) (by rfl) N.n_all (by decide +kernel) (pa_cons (pe_lc (own := [("letter", 1)]) (g := gName 1) (tt := tYes) rfl sc_is_name.nd (pi_str (pv 0)) (blkOk_by (own := [("letter", 1)]) (N := ["value", "letter"]) (sc := defScope s_is_name) (by decide +kernel)) (fun _ _ _ _ _ => pg_name (i := 1) sc_is_name.nd rfl (Or.inl rfl)) (fun _ _ _ _ _ => pts_nil) (fun _ _ _ _ _ => (pe_cmpR op_inC (pv 1) (pe_glob (v := .str alphaS) (by rfl) T.v_LETTERS.choose_spec ⟨_, rfl⟩) (by rfl)))) pa_nil))))), ?_⟩
    k_extra "r_N13"
    refine q_isi hx .str ?_
    by_cases e : ty = "str"
    · obtain ⟨z, rfl⟩ := hx.of_str e
      have h64 := hz z rfl
      have hs : z.length ≤ sizeLine := Bt.sz (by omega)
      subst e
      k_extra "r_N13"
      refine s_if1 rfl ?_
      k_extra "r_N13"
      refine q_lenS hs ?_
      k_extra "r_N13"
      have inv : Nm z → z.length ≥ 1 ∧ z.length ≤ 8 := fun h => ⟨h.1, h.2.1⟩
      refine s_ifD (fun c1 => ?_) (fun c1 => ?_)
      · k_extra "r_N13"
        refine s_ifND (fun c2 => ?_) (fun c2 => ?_)
        · k_extra "r_N13"
          refine s_lc ?_
          k_extra "r_N13"
          refine ⟨z, rfl, fun D nD => lc_str (z := z) (fun i H' => Same H H' ∧ H' D = some (.lst (((z.cps.toList.take i).map fun c => decide (c ∈ alphaS.cps.toList)).map V.bl))) ⟨Same.new nD, upd_same⟩ ?_ ?_⟩
          · rintro j d H' hj ⟨S', hD⟩
            k_extra "r_N13"
            refine ⟨rfl, ?_⟩
            k_extra "r_N13"
            refine q_inC ⟨_, hD, ?_, same_mut S' nD, ?_⟩
            · rw [List.length_map, List.length_map, List.length_take]
              exact szlt (by have := (List.getElem?_eq_some_iff.mp hj).1; rw [← len_cps] at this; omega)
            · rw [upd_same, take_map_more hj, List.map_append]
              rfl
          · rintro H2 ⟨S2, h2⟩
            rw [take_all] at h2
            k_extra "r_N13"
            refine q_allB (SqL.of h2) ?_
            by_cases v : Nm z
            · rw [show (List.all _ id : Bool) = true from ?_]
              · exact kY ⟨z, rfl, v⟩ _ S2
              · rw [List.all_map, List.all_eq_true]
                intro c hc
                show decide _ = true
                rw [alphaS_cps]
                exact decide_eq_true (v.2.2 c hc)
            · rw [show (List.all _ id : Bool) = false from ?_]
              · exact kN (fun u => by obtain ⟨_, e, u⟩ := u; cases e; exact v u) _ S2
              · rw [Bool.eq_false_iff]
                intro hall
                rw [List.all_map, List.all_eq_true] at hall
                refine v ⟨by omega, by omega, fun c hc => ?_⟩
                have := of_decide_eq_true (show decide _ = true from hall c hc)
                rw [alphaS_cps] at this
                exact this
        · k_extra "r_N13"
          exact kN (fun v => by obtain ⟨_, e, v⟩ := v; cases e; have := v.2.1; omega) _ (Same.refl H)
      · k_extra "r_N13"
        exact kN (fun v => by obtain ⟨_, e, v⟩ := v; cases e; have := v.1; omega) _ (Same.refl H)
    · have e2 : subKd ty "str" = false := by
        cases hx.2 <;> first | rfl | exact absurd rfl e
      rw [e2]
      k_extra "r_N13"
      refine kN (fun v => ?_) H (Same.refl H)
      obtain ⟨z, ez, _⟩ := v
      subst ez
      exact absurd hx.is_str e
def AlC (z : Str) : Prop := ∀ c ∈ z.cps.toList, c ∈ alpha
def spName1 : Sp := fun vs H Q _ => ∃ p, vs = [.ref p] ∧ Purse H p ∧ ∀ z H', Nm z → Purse H' p → But p H H' → Q (.str z) H'
theorem ok__law_name (L : TxtL K mg) (N : TxtN K mg) : Cal P w K mg base 2 "_law_name" spName1 := by
  refine N.d__law_name.cal sc__law_name (fun vs H Q E h => ?_) (fun f cdv A outer s H vs Q E hr h => ?_)
  · obtain ⟨p, rfl, _⟩ := h
    rfl
  · obtain ⟨p, rfl, hp, k⟩ := h
    refine ⟨_, (pss_cons (ps_set (i := 1) sc__law_name.nd rfl (.inl rfl) pe_str)
      (pss_cons (ps_for PassesOwn.never rfl (pi_range1 rfl L.n_range (pa_cons (pe_op op_addU pe_int (pe_c (ok__law_draw L) hr (by decide) rfl (pa_cons (pv 0) (pa_cons pe_int pa_nil)))) pa_nil)) (pg_name (i := 2) sc__law_name.nd rfl (.inl rfl))
        (pss_one (ps_set (i := 1) sc__law_name.nd rfl (.inl rfl) (pe_op op_addU (pv 1) (pe_ix ix_seq pe_str (pe_c (ok__law_draw L) hr (by decide) rfl (pa_cons (pv 0) (pa_cons pe_int pa_nil))) (fun _ _ => rfl))))))
      (pss_one (ps_ret (pv 1))))), ?_⟩
    k_extra "r_N13"
    refine ⟨p, 8, rfl, hp, by decide, by decide, fun n H1 n0 n1 p1 b1 => ?_⟩
    k_extra "r_N13"
    refine ⟨_, rfl, by omega, by omega, q_forR (fun i σ H2 => ∃ z v, σ = [some (.ref p), some (.str z), v] ∧ z.length = i ∧ AlC z ∧ Purse H2 p ∧ But p H H2) ⟨_, none, rfl, rfl, (fun c hc => by cases hc), p1, b1⟩ ?_ ?_⟩
    · rintro i σ H2 hi ⟨z, v, rfl, hz, az, p2, b2⟩
      k_extra "r_N13"
      refine ⟨p, 26, rfl, p2, by decide, by decide, fun m H3 m0 m1 p3 b3 => ?_⟩
      obtain ⟨j, rfl⟩ : ∃ j : Nat, m = j := ⟨m.toNat, by omega⟩
      have hj : j < 26 := by omega
      have ej : alphaS.cps.toList[j]? = some (97 + j) := by
        rw [alphaS_cps]
        unfold alpha
        rw [List.getElem?_map, List.getElem?_range hj]
        rfl
      refine q_ixS (by show alphaS.length ≤ sizeLine; exact Bt.sz (by decide)) (atI_nat ej) ?_
      refine q_addS (Bt.sz (by rw [hz]; show i + 1 ≤ 100000; omega)) ?_
      k_extra "r_N13"
      refine ⟨_, _, rfl, ?_, ?_, p3, b2.trans b3⟩
      · rw [app_len, hz]
        rfl
      · intro c hc
        rw [app_cps, List.mem_append] at hc
        rcases hc with hc | hc
        · exact az c hc
        · have ec : c = 97 + j := by simpa using hc
          exact mem_alpha.mpr (by omega)
    · rintro σ H2 ⟨z, v, rfl, hz, az, p2, b2⟩
      k_extra "r_N13"
      exact k z H2 ⟨by omega, by omega, az⟩ p2 b2
theorem eqv_strs (xs ys : List Str) : PyData.eqv (.list (xs.map .str)) (.list (ys.map .str)) = decide (xs = ys) := by
  rw [← eqvAll_strs]
  simp only [PyData.eqv]
theorem inV_strs (z : Str) (zs : List Str) : inV (.str z) (zs.map V.str) = decide (z ∈ zs) := by
  unfold inV
  rw [List.any_map, Bool.eq_iff_iff, List.any_eq_true, decide_eq_true_iff]
  constructor
  · rintro ⟨y, hy, e⟩
    have e2 : (y == z) = true := e
    rw [← eq_of_beq e2]
    exact hy
  · intro h
    exact ⟨z, h, (beq_self_eq_true z : (z == z) = true)⟩
theorem flat_strs (zs : List Str) : (zs.map V.str).all flatV = true := by
  rw [List.all_map, List.all_eq_true]
  exact fun _ _ => rfl
theorem q_notinStrs {H : Hp} {Q : VK} {l : Addr} {z : Str} {zs : List Str} (h : H l = some (.lst (zs.map V.str))) (q : Q (.bl (!decide (z ∈ zs))) H) : rIn K true (.str z) (.ref l) H Q :=
  ⟨l, _, rfl, .inl (SqL.of h), rfl, flat_strs zs, by rw [inV_strs]; exact q⟩
theorem atI_last {α : Type} (xs : List α) (x : α) : atI (xs ++ [x]) (-1) = some x := by
  unfold atI
  have e : ixN (xs ++ [x]).length (-1) = some xs.length := by
    rw [List.length_append]
    unfold ixN
    rw [if_neg (by decide), if_pos (by show (-(((xs.length + 1 : Nat)) : Int)) ≤ -1; omega)]
    congr 1
    show (-1 + (((xs.length + 1 : Nat)) : Int)).toNat = xs.length
    omega
  rw [e]
  simp
def spNames : Sp := fun vs H Q _ => ∃ (p : Addr) (m : Nat), vs = [.ref p, .int m] ∧ Purse H p ∧ m ≤ 1000 ∧
  ∀ l H' zs, H l = none → H' l = some (.lst (zs.map V.str)) → (∀ z ∈ zs, Nm z) → zs.Nodup → zs.length ≤ m → (1 ≤ m → zs ≠ []) → Purse H' p → But p H H' → Q (.ref l) H'
theorem ok__law_names (L : TxtL K mg) (N : TxtN K mg) : Cal P w K mg base 3 "_law_names" spNames := by
  refine N.d__law_names.cal sc__law_names (fun vs H Q E h => ?_) (fun f cdv A outer s H vs Q E hr h => ?_)
  · obtain ⟨p, m, rfl, _⟩ := h
    rfl
  · obtain ⟨p, m, rfl, hp, hm, k⟩ := h
    have hu := hr.units
    refine ⟨_, (pss_cons (ps_set (i := 2) sc__law_names.nd rfl (.inl rfl) (pe_lst pa_nil))
      (pss_cons (ps_for PassesOwn.never rfl (pi_range1 rfl L.n_range (pa_cons (pv 1) pa_nil)) (pg_name (i := 3) sc__law_names.nd rfl (.inl rfl))
        (pss_cons (ps_set (i := 4) sc__law_names.nd rfl (.inl rfl) (pe_c (ok__law_name L N) hr (by decide) rfl (pa_cons (pv 0) pa_nil)))
          (C8.pss_cut (ps_if (PW.pt (pw_and (pt_cmpR (op_neU hu) (pv 2) (pe_lst pa_nil) (by rfl)) (pw_and1 (pt_cmpR (op_eqU hu) (pe_c (ok__law_draw L) hr (by decide) rfl (pa_cons (pv 0) (pa_cons pe_int pa_nil))) pe_int (by rfl))))) (pss_one (ps_set (i := 4) sc__law_names.nd rfl (.inl rfl) (pe_slice sl_str (pe_op op_addU (pe_ix ix_seq (pv 2) (pe_un un_neg pe_int) (fun _ _ => rfl)) (pv 4)) po_none (po_some (pe_op op_addU pe_int (pe_c (ok__law_draw L) hr (by decide) rfl (pa_cons (pv 0) (pa_cons pe_int pa_nil)))))))) pss_nil)
          (pss_one (ps_if (pt_cmpR op_notIn_seq (pv 4) (pv 2) (by rfl)) (pss_one (ps_expr (pe_bm PySem.F.plainAttrs_list PySem.F.slot_list_append PySem.F.type_list_append mt_append (pv 2) (pa_cons (pv 4) pa_nil)))) pss_nil)))))
      (pss_one (ps_ret (pv 2))))), ?_⟩
    k_extra "r_N13"
    refine q_newL (by show 0 ≤ sizeLine; decide) fun l H1 n1 S1 h1 => ?_
    k_extra "r_N13"
    have hlp : l ≠ p := by
      obtain ⟨_, _, _, e, _⟩ := hp
      exact fun z => by rw [z, e] at n1; cases n1
    refine ⟨_, rfl, by omega, by omega, q_forR (fun i σ H2 => ∃ zs v u, σ = [some (.ref p), some (.int m), some (.ref l), v, u] ∧ H2 l = some (.lst (zs.map V.str)) ∧ (∀ z ∈ zs, Nm z) ∧ zs.Nodup ∧ zs.length ≤ i ∧ (1 ≤ i → zs ≠ []) ∧ Purse H2 p ∧ But p H H2)
      ⟨[], none, none, rfl, h1, (fun z hz => by cases hz), .nil, Nat.le_refl _, (fun z => absurd z (by decide)), hp.mono S1, But.of S1⟩ ?_ ?_⟩
    · rintro i σ H2 hi ⟨zs, v, u, rfl, h2, nz, nd, hl, hne, p2, b2⟩
      k_extra "r_N13"
      refine ⟨p, rfl, p2, fun z H3 hz p3 b3 => ?_⟩
      have h3 := b3 _ _ hlp h2
      k_extra "r_N13"
      refine ⟨fun σ H4 => ∃ z v, σ = [some (.ref p), some (.int m), some (.ref l), v, some (.str z)] ∧ Nm z ∧ H4 l = some (.lst (zs.map V.str)) ∧ Purse H4 p ∧ But p H H4, ?_, ?_⟩
      · k_extra "r_N13"
        refine q_newL (by show 0 ≤ sizeLine; decide) fun l0 H4 n4 S4 h4 => ?_
        refine q_neD (dp_lst_strs (S4 _ _ h3)) (dp_lst_strs (ys := []) h4) (shaped_strs fun y hy => (nz y hy).asc) (shaped_strs fun y hy => by cases hy) ?_
        rw [eqv_strs]
        k_extra "r_N13"
        refine s_ifND (fun c => ?_) (fun c => ?_)
        · k_extra "r_N13"
          exact ⟨z, _, rfl, hz, S4 _ _ h3, p3.mono S4, b2.trans (b3.trans (But.of S4))⟩
        · k_extra "r_N13"
          refine ⟨p, 3, rfl, p3.mono S4, by decide, by decide, fun n5 H5 n50 n51 p5 b5 => ?_⟩
          refine q_eq rfl ?_
          k_extra "r_N13"
          refine s_if (fun _ => ?_) (fun _ => ?_)
          · k_extra "r_N13"
            obtain ⟨zs0, y, rfl⟩ : ∃ zs0 y, zs = zs0 ++ [y] := ⟨zs.dropLast, zs.getLast c, (List.dropLast_concat_getLast c).symm⟩
            have ny := nz y (by simp)
            have h5 := b5 _ _ hlp (S4 _ _ h3)
            refine ⟨_, rfl, ?_⟩
            rw [List.map_append] at h5
            refine q_ixL (SqL.of h5) (atI_last _ _) ?_
            k_extra "r_N13"
            have hsum : (y ++ z).length ≤ 16 := by rw [app_len]; have := ny.2.1; have := hz.2.1; omega
            refine q_addS (by rw [← app_len]; exact Bt.sz (by omega)) ?_
            k_extra "r_N13"
            refine ⟨p, 8, rfl, p5, by decide, by decide, fun n6 H6 n60 n61 p6 b6 => ?_⟩
            k_extra "r_N13"
            refine ⟨_, rfl, Bt.sz (by omega), ?_⟩
            k_extra "r_N13"
            have ecut : (cutS (y ++ z) none (some (1 + n6))).cps.toList = (y ++ z).cps.toList.take (1 + n6).toNat := cut_to (by omega)
            refine ⟨_, _, rfl, ⟨?_, ?_, fun c2 hc2 => ?_⟩, ?_, p6, ?_⟩
            · rw [len_cps, ecut, List.length_take, ← len_cps, app_len]
              have := ny.1
              omega
            · rw [len_cps, ecut, List.length_take]
              omega
            · rw [ecut] at hc2
              have hc3 := List.mem_of_mem_take hc2
              rw [app_cps, List.mem_append] at hc3
              rcases hc3 with hc3 | hc3
              · exact ny.2.2 _ hc3
              · exact hz.2.2 _ hc3
            · rw [List.map_append]
              exact b6 _ _ hlp h5
            · exact b2.trans (b3.trans ((But.of S4).trans (b5.trans b6)))
          · k_extra "r_N13"
            exact ⟨z, _, rfl, hz, b5 _ _ hlp (S4 _ _ h3), p5, b2.trans (b3.trans ((But.of S4).trans b5))⟩
      · rintro σ H4 ⟨z4, v4, rfl, hz4, h4, p4, b4⟩
        k_extra "r_N13"
        refine q_notinStrs h4 ?_
        k_extra "r_N13"
        refine s_ifND (fun c => ?_) (fun c => ?_)
        · k_extra "r_N13"
          exact ⟨zs, _, _, rfl, h4, nz, nd, by omega, (fun _ e => by rw [e] at c; cases c), p4, b4⟩
        · k_extra "r_N13"
          refine ⟨.inl ⟨rfl, _, SqL.of h4⟩, ?_⟩
          k_extra "r_N13"
          refine q_append h4 (by rw [List.length_map]; exact szlt (by omega)) fun H5 b5 h5 => ?_
          k_extra "r_N13"
          have h5' : H5 l = some (.lst ((zs ++ [z4]).map V.str)) := by rw [h5, List.map_append]; rfl
          refine ⟨zs ++ [z4], _, _, rfl, h5', fun y hy => ?_, ?_, by rw [List.length_append]; show zs.length + 1 ≤ i + 1; omega, (fun _ e => by simp at e), ?_, ?_⟩
          · rcases List.mem_append.mp hy with hy | hy
            · exact nz y hy
            · rw [List.mem_singleton.mp hy]; exact hz4
          · refine List.nodup_append.mpr ⟨nd, by simp, fun a ha b hb e => ?_⟩
            rw [List.mem_singleton.mp hb] at e
            exact c (e ▸ ha)
          · obtain ⟨a, b, c, e, h⟩ := p4
            exact ⟨a, b, c, b5 _ _ hlp.symm e, h⟩
          · exact fun b o hb e => b5 b o (fun z => by rw [z] at e; rw [e] at n1; cases n1) (b4 b o hb e)
    · rintro σ H2 ⟨zs, v, u, rfl, h2, nz, nd, hl, hne, p2, b2⟩
      k_extra "r_N13"
      exact k l H2 zs n1 h2 nz nd hl hne p2 b2
end
end Bt
namespace Bt
open PySem PySem.Spec PyProof.Rows L2 LamX NdefX
theorem words22_ : True := by
  k_with "s_I13" => first
    | ((with_reducible refine' s_var ?hv ?_); (case hv => exact rfl))
    | with_reducible first
      | refine' s_c ?_ | refine' s_op ?_ | refine' s_asg ?_ | refine' s_gname ?_ | refine' s_seq ?_ | refine' s_next ?_ | refine' s_ret ?_ | refine' s_ifS ?_ | refine' s_drop ?_ | refine' s_retN ?_
      | refine' s_test ?_ | refine' s_B ?_ | refine' q_test ?_ | refine' s_int ?_ | refine' s_cons ?_ | refine' s_nil ?_ | refine' s_call ?_ | refine' s_CB ?_ | refine' s_andT ?_ | refine' s_orT ?_ | refine' s_notT ?_
      | refine' s_andV ?_ | refine' s_orV ?_ | refine' s_notV ?_ | refine' s_ifV ?_ | refine' s_chain ?_ | refine' s_sl ?_ | refine' s_noPart ?_ | refine' s_part ?_ | refine' s_gsub ?_ | refine' s_BM ?_ | refine' s_tup ?_ | refine' s_lst ?_
      | refine' q_add ?_ | refine' q_sub ?_ | refine' q_lt ?_ | refine' q_le ?_ | refine' q_gt ?_ | refine' q_ge ?_ | refine' s_ifT ?_ | refine' s_ifF ?_ | refine' s_yes ?_ | refine' s_prop ?_ | refine' s_iList ?_ | refine' s_callOS ?_ | refine' s_iStr ?_ | refine' s_M0 ?_ | refine' s_make ?_ | refine' s_makeS ?_ | refine' s_ownL ?_ | refine' s_ownR ?_ | refine' s_callSD ?_ | refine' s_fld ?_ | refine' s_prop ?_ | refine' s_raise1 ?_ | refine' s_for ?_ | refine' s_rng1 ?_ | refine' s_par ?_ | refine' s_gcons ?_ | refine' s_gnil ?_ | refine' s_iList ?_ | refine' s_iEnum ?_
      | (refine' q_mod ?hm ?_; (case hm => first | omega | decide)) | (refine' q_fdiv ?hm ?hn ?_; (case hm => first | omega | decide); (case hn => first | omega | decide))
      | (refine' q_mulR ?hm ?_; (case hm => first | omega | decide)) | (refine' q_mulL ?hm ?_; (case hm => first | omega | decide))
    | dsimp only
  k_with "r_I13" => repeat (k_extra "s_I13")
  trivial
def NameArg (K : PySem.W.Frag) (H : Hp) (y : V) : Prop := ∃ T, Pl K H y T ∧ ∀ z, y = .str z → z.length < 64
theorem NameArg.mono {K : PySem.W.Frag} {H H' : Hp} {y : V} (S : Same H H') (h : NameArg K H y) : NameArg K H' y := let ⟨T, a, b⟩ := h; ⟨T, a.mono S, b⟩
def rLenQ (K : PySem.W.Frag) : List V → Hp → VK → Prop := fun xs H Q => ∃ p ys, xs = [.ref p] ∧ (SqL K H p ys ∨ SqT K H p ys) ∧ Q (.int ys.length) H
theorem call_lenQ {X : Cx} : CallR X (.builtin "len") (rLenQ X.K) := call_len_seq
theorem q_lenT {K : PySem.W.Frag} {H : Hp} {Q : VK} {p : Addr} {ys : List V} (h : SqT K H p ys) (q : Q (.int ys.length) H) : rLenQ K [.ref p] H Q := ⟨p, ys, rfl, .inr h, q⟩
theorem q_lenL {K : PySem.W.Frag} {H : Hp} {Q : VK} {p : Addr} {ys : List V} (h : SqL K H p ys) (q : Q (.int ys.length) H) : rLenQ K [.ref p] H Q := ⟨p, ys, rfl, .inl h, q⟩
/-! ### places -/
def PlaceV (H : Hp) (x : V) : Prop := ∃ a u v, x = .ref a ∧ H a = some (.tup [u, v]) ∧ NmV u ∧ NmV v
structure TxtI (K : PySem.W.Frag) (mg : Str → Option Value) : Prop where
  d_is_place : Df K mg "is_place" s_is_place ["value"]
section
variable {P : Program} {w : World} {K : PySem.W.Frag} {mg : Str → Option Value} {base : Heap}
def spPlace (K : PySem.W.Frag) : Sp := fun vs H Q _ => ∃ x T, vs = [x] ∧ Pl K H x T ∧
  (T ≠ "tuple" → Q (.bl false) H) ∧
  (T = "tuple" → ∃ a xs, x = .ref a ∧ H a = some (.tup xs) ∧ (∀ y ∈ xs, NameArg K H y) ∧
    (¬ PlaceV H x → ∀ H', Same H H' → Q (.bl false) H') ∧ (PlaceV H x → ∀ H', Same H H' → Q (.bl true) H'))
theorem ok_is_place (T : Txt K mg) (N : TxtN K mg) (I : TxtI K mg) : Cal P w K mg base 2 "is_place" (spPlace K) := by
  refine I.d_is_place.cal sc_is_place (fun vs H Q E h => ?_) (fun f cdv A outer s H vs Q E hr h => ?_)
  · obtain ⟨x, T, rfl, _⟩ := h
    rfl
  · obtain ⟨x, ty, rfl, hx, kN, kY⟩ := h
    have hu := hr.units
    refine ⟨_, (pss_one (ps_ret (pe_and (pe_callB call_isi (by rfl) T.n_isinstance (by decide +kernel) (pa_cons (pv 0) (pa_cons (pe_bltn (v := .ty "tuple") (by rfl) T.n_tuple (by decide +kernel) rfl) pa_nil))) (pe_and (pe_cmpR (op_eqU hu) (pe_callB call_lenQ (by rfl) N.n_len (by decide +kernel) (pa_cons (pv 0) pa_nil)) pe_int (by rfl)) (pe_and (pe_c (ok_is_name T N) hr (by decide) rfl (pa_cons (pe_ix ix_seq (pv 0) pe_int (fun _ _ => rfl)) pa_nil)) (pe_one (pe_c (ok_is_name T N) hr (by decide) rfl (pa_cons (pe_ix ix_seq (pv 0) pe_int (fun _ _ => rfl)) pa_nil)))))))), ?_⟩
    k_extra "r_I13"
    refine q_isi hx .tup ?_
    by_cases e : ty = "tuple"
    · obtain ⟨a, xs, rfl, ha, hn, kF, kT⟩ := kY e
      clear kN kY
      subst e
      k_extra "r_I13"
      refine s_if1 rfl ?_
      k_extra "r_I13"
      refine q_lenT (SqT.of ha) ?_
      k_extra "r_I13"
      refine q_eq rfl ?_
      by_cases hl : xs.length = 2
      · obtain ⟨u, v, rfl⟩ : ∃ u v, xs = [u, v] := by
          match xs, hl with
          | [u, v], _ => exact ⟨u, v, rfl⟩
        k_extra "r_I13"
        refine s_if1 (decide_eq_true rfl) ?_
        obtain ⟨tu, pu, zu⟩ := hn u (by simp)
        obtain ⟨tv, qv, zv⟩ := hn v (by simp)
        k_extra "r_I13"
        refine q_ixT (SqT.of ha) (at_of (j := 0) rfl rfl) ?_
        k_extra "r_I13"
        refine ⟨u, tu, rfl, pu, zu, fun nu H1 S1 => ?_, fun nu H1 S1 => ?_⟩
        · k_extra "r_I13"
          exact kF (fun ⟨_, _, _, e, h, hu, _⟩ => by injection e with e; subst e; rw [ha] at h; cases h; exact nu hu) _ S1
        · k_extra "r_I13"
          refine q_ixT (SqT.of (S1 _ _ ha)) (at_of (j := 1) rfl rfl) ?_
          k_extra "r_I13"
          refine ⟨v, tv, rfl, qv.mono S1, zv, fun nv H2 S2 => ?_, fun nv H2 S2 => ?_⟩
          · exact kF (fun ⟨_, _, _, e, h, _, hv⟩ => by injection e with e; subst e; rw [ha] at h; cases h; exact nv hv) _ (S1.trans S2)
          · exact kT ⟨a, u, v, rfl, ha, nu, nv⟩ _ (S1.trans S2)
      · k_extra "r_I13"
        refine s_if0 (decide_eq_false fun z => ?_) ?_
        · have := V.int.inj z
          omega
        · k_extra "r_I13"
          exact kF (fun ⟨_, _, _, e, h, _⟩ => by injection e with e; subst e; rw [ha] at h; cases h; exact hl rfl) _ (Same.refl H)
    · have e2 : subKd ty "tuple" = false := by
        cases hx.2 <;> first | rfl | exact absurd rfl e
      rw [e2]
      k_extra "r_I13"
      exact kN e
end
end Bt
namespace Bt
open PySem PySem.Spec PyProof.Rows L2 LamX NdefX
theorem words23_ : True := by
  k_with "s_B13" => first
    | ((with_reducible refine' s_var ?hv ?_); (case hv => exact rfl))
    | with_reducible first
      | refine' s_c ?_ | refine' s_op ?_ | refine' s_asg ?_ | refine' s_gname ?_ | refine' s_seq ?_ | refine' s_next ?_ | refine' s_ret ?_ | refine' s_ifS ?_ | refine' s_drop ?_ | refine' s_retN ?_
      | refine' s_test ?_ | refine' s_B ?_ | refine' q_test ?_ | refine' s_int ?_ | refine' s_cons ?_ | refine' s_nil ?_ | refine' s_call ?_ | refine' s_CB ?_ | refine' s_andT ?_ | refine' s_orT ?_ | refine' s_notT ?_
      | refine' s_andV ?_ | refine' s_orV ?_ | refine' s_notV ?_ | refine' s_ifV ?_ | refine' s_chain ?_ | refine' s_sl ?_ | refine' s_noPart ?_ | refine' s_part ?_ | refine' s_gsub ?_ | refine' s_BM ?_ | refine' s_tup ?_ | refine' s_lst ?_
      | refine' q_add ?_ | refine' q_sub ?_ | refine' q_lt ?_ | refine' q_le ?_ | refine' q_gt ?_ | refine' q_ge ?_ | refine' s_ifT ?_ | refine' s_ifF ?_ | refine' s_yes ?_ | refine' s_prop ?_ | refine' s_iList ?_ | refine' s_callOS ?_ | refine' s_iStr ?_ | refine' s_M0 ?_ | refine' s_make ?_ | refine' s_makeS ?_ | refine' s_ownL ?_ | refine' s_ownR ?_ | refine' s_callSD ?_ | refine' s_fld ?_ | refine' s_prop ?_ | refine' s_raise1 ?_ | refine' s_for ?_ | refine' s_rng1 ?_ | refine' s_par ?_ | refine' s_gcons ?_ | refine' s_gnil ?_ | refine' s_iList ?_ | refine' s_iEnum ?_
      | (refine' q_mod ?hm ?_; (case hm => first | omega | decide)) | (refine' q_fdiv ?hm ?hn ?_; (case hm => first | omega | decide); (case hn => first | omega | decide))
      | (refine' q_mulR ?hm ?_; (case hm => first | omega | decide)) | (refine' q_mulL ?hm ?_; (case hm => first | omega | decide))
    | dsimp only
  k_with "r_B13" => repeat (k_extra "s_B13")
  trivial
/-! ### worlds -/
def PlAt (H : Hp) (x : V) (q : Str × Str) : Prop := ∃ a, x = .ref a ∧ H a = some (.tup [.str q.1, .str q.2])
inductive Pls (H : Hp) : List V → List (Str × Str) → Prop where
  | nil : Pls H [] []
  | cons {x : V} {q : Str × Str} {xs : List V} {ps : List (Str × Str)} : PlAt H x q → Pls H xs ps → Pls H (x :: xs) (q :: ps)
theorem PlAt.mono {H H' : Hp} {x : V} {q : Str × Str} (S : Same H H') : PlAt H x q → PlAt H' x q := fun ⟨a, e, h⟩ => ⟨a, e, S _ _ h⟩
theorem PlAt.but {H H' : Hp} {x : V} {q : Str × Str} {l : Addr} {zs : List V} (hl : H l = some (.lst zs)) (B : But l H H') : PlAt H x q → PlAt H' x q :=
  fun ⟨a, e, h⟩ => ⟨a, e, B _ _ (fun z => by rw [z, hl] at h; cases h) h⟩
theorem Pls.mono {H H' : Hp} {xs : List V} {ps : List (Str × Str)} (S : Same H H') (h : Pls H xs ps) : Pls H' xs ps := by
  induction h with
  | nil => exact .nil
  | cons h _ ih => exact .cons (h.mono S) ih
theorem Pls.but {H H' : Hp} {xs : List V} {ps : List (Str × Str)} {l : Addr} {zs : List V} (hl : H l = some (.lst zs)) (B : But l H H') (h : Pls H xs ps) : Pls H' xs ps := by
  induction h with
  | nil => exact .nil
  | cons h _ ih => exact .cons (h.but hl B) ih
theorem Pls.snoc {H : Hp} {xs : List V} {ps : List (Str × Str)} {x : V} {q : Str × Str} (h : Pls H xs ps) (hx : PlAt H x q) : Pls H (xs ++ [x]) (ps ++ [q]) := by
  induction h with
  | nil => exact .cons hx .nil
  | cons h _ ih => exact .cons h ih
theorem Pls.len {H : Hp} {xs : List V} {ps : List (Str × Str)} (h : Pls H xs ps) : xs.length = ps.length := by
  induction h with
  | nil => rfl
  | cons _ _ ih => simp [ih]
def worldOf (fs ns : List Str) : List (Str × Str) := fs.flatMap fun f => ns.map fun n => (f, n)
theorem worldOf_len : ∀ fs ns : List Str, (worldOf fs ns).length = fs.length * ns.length
  | [], ns => by simp [worldOf]
  | f :: fs, ns => by
    have := worldOf_len fs ns
    unfold worldOf at this ⊢
    rw [List.flatMap_cons, List.length_append, List.length_map, this, List.length_cons, Nat.succ_mul, Nat.add_comm]
theorem worldOf_snoc (fs ns : List Str) (f : Str) : worldOf (fs ++ [f]) ns = worldOf fs ns ++ ns.map fun n => (f, n) := by
  unfold worldOf
  rw [List.flatMap_append]
  simp
def NmL (zs : List Str) : Prop := (∀ z ∈ zs, Nm z) ∧ zs.Nodup ∧ zs ≠ []
structure TxtB (K : PySem.W.Frag) (mg : Str → Option Value) : Prop where
  d__law_world : Df K mg "_law_world" s__law_world ["_law_purse_here"]
section
variable {P : Program} {w : World} {K : PySem.W.Frag} {mg : Str → Option Value} {base : Heap}
def spWorld : Sp := fun vs H Q _ => ∃ p, vs = [.ref p] ∧ Purse H p ∧ ∀ l H' xs fs ns, H l = none → H' l = some (.lst xs) → Pls H' xs (worldOf fs ns) → NmL fs → NmL ns → fs.length ≤ 3 → ns.length ≤ 6 → Purse H' p → But p H H' → Q (.ref l) H'
theorem ok__law_world (L : TxtL K mg) (N : TxtN K mg) (B : TxtB K mg) : Cal P w K mg base 4 "_law_world" spWorld := by
  refine B.d__law_world.cal sc__law_world (fun vs H Q E h => ?_) (fun f cdv A outer s H vs Q E hr h => ?_)
  · obtain ⟨p, rfl, _⟩ := h
    rfl
  · obtain ⟨p, rfl, hp, k⟩ := h
    refine ⟨_, (pss_cons (ps_set (i := 1) sc__law_world.nd rfl (.inl rfl) (pe_c (ok__law_names L N) hr (by decide) rfl (pa_cons (pv 0) (pa_cons (pe_op op_addU pe_int (pe_c (ok__law_draw L) hr (by decide) rfl (pa_cons (pv 0) (pa_cons pe_int pa_nil)))) pa_nil))))
      (pss_cons (ps_set (i := 2) sc__law_world.nd rfl (.inl rfl) (pe_c (ok__law_names L N) hr (by decide) rfl (pa_cons (pv 0) (pa_cons (pe_op op_addU pe_int (pe_c (ok__law_draw L) hr (by decide) rfl (pa_cons (pv 0) (pa_cons pe_int pa_nil)))) pa_nil))))
      (pss_cons (ps_set (i := 3) sc__law_world.nd rfl (.inl rfl) (pe_lst pa_nil))
      (pss_cons (ps_for PassesOwn.never rfl (pi_list (pv 1)) (pg_name (i := 4) sc__law_world.nd rfl (.inl rfl))
        (pss_one (ps_for PassesOwn.never rfl (pi_list (pv 2)) (pg_name (i := 5) sc__law_world.nd rfl (.inl rfl))
            (pss_one (ps_expr (pe_bm PySem.F.plainAttrs_list PySem.F.slot_list_append PySem.F.type_list_append mt_append (pv 3) (pa_cons (pe_tup (pa_cons (pv 4) (pa_cons (pv 5) pa_nil))) pa_nil)))))))
      (pss_one (ps_ret (pv 3))))))), ?_⟩
    k_extra "r_B13"
    refine ⟨p, 3, rfl, hp, by decide, by decide, fun m1 H1 m10 m11 p1 b1 => ?_⟩
    k_extra "r_B13"
    obtain ⟨m1, rfl⟩ := Int.eq_ofNat_of_zero_le m10
    refine ⟨p, 1 + m1, (by push_cast; rfl), p1, by omega, fun lf H2 fs nf hf zf df hfl hfe p2 b2 => ?_⟩
    k_extra "r_B13"
    refine ⟨p, 6, rfl, p2, by decide, by decide, fun m2 H3 m20 m21 p3 b3 => ?_⟩
    k_extra "r_B13"
    obtain ⟨m2, rfl⟩ := Int.eq_ofNat_of_zero_le m20
    refine ⟨p, 1 + m2, (by push_cast; rfl), p3, by omega, fun ln H4 ns nn hn zn dn hnl hne p4 b4 => ?_⟩
    k_extra "r_B13"
    refine q_newL (by show 0 ≤ sizeLine; decide) fun lp H5 n5 S5 h5 => ?_
    k_extra "r_B13"
    have hlfp : lf ≠ p := by
      obtain ⟨_, _, _, e, _⟩ := p1
      exact fun z => by rw [z, e] at nf; cases nf
    have hlnp : ln ≠ p := by
      obtain ⟨_, _, _, e, _⟩ := p3
      exact fun z => by rw [z, e] at nn; cases nn
    have hlpp : lp ≠ p := by
      obtain ⟨_, _, _, e, _⟩ := p4
      exact fun z => by rw [z, e] at n5; cases n5
    have B4 : But p H H4 := b1.trans (b2.trans (b3.trans b4))
    have nH : H lp = none := B4.free hlpp n5
    have hf4 : H4 lf = some (.lst (fs.map V.str)) := b4 _ _ hlfp (b3 _ _ hlfp hf)
    have hpf : lf ≠ lp := fun z => by rw [z, n5] at hf4; cases hf4
    have hpn : ln ≠ lp := fun z => by rw [z, n5] at hn; cases hn
    have sz1 : ∀ i, (worldOf (fs.take i) ns).length ≤ 18 := fun i => by
      rw [worldOf_len, List.length_take]
      have a1 : min i fs.length ≤ 3 := by omega
      have a2 : ns.length ≤ 6 := by omega
      exact Nat.le_trans (Nat.mul_le_mul a1 a2) (by decide)
    refine ⟨lf, rfl, ⟨_, SqL.of (S5 _ _ hf4)⟩, q_forL (K := K) (a := lf) (xs := fs.map V.str) (fun i σ H' => ∃ v u xs, σ = [some (.ref p), some (.ref lf), some (.ref ln), some (.ref lp), v, u] ∧ H' lp = some (.lst xs) ∧ Pls H' xs (worldOf (fs.take i) ns) ∧ H' lf = some (.lst (fs.map V.str)) ∧ H' ln = some (.lst (ns.map V.str)) ∧ Purse H' p ∧ But p H H')
      ⟨none, none, [], rfl, h5, .nil, S5 _ _ hf4, S5 _ _ hn, p4.mono S5, B4.trans (But.of S5)⟩ (fun i σ H' _ ⟨_, _, _, _, _, _, h, _⟩ => SqL.of h) ?_ ?_⟩
    · rintro i x σ H6 hx ⟨v, u, xs, rfl, h6, P6, f6, n6, p6, B6⟩
      rw [List.getElem?_map] at hx
      obtain ⟨f1, ef, rfl⟩ := Option.map_eq_some_iff.mp hx
      k_extra "r_B13"
      refine ⟨ln, rfl, ⟨_, SqL.of n6⟩, q_forL (K := K) (a := ln) (xs := ns.map V.str) (fun j σ H' => ∃ u xs, σ = [some (.ref p), some (.ref lf), some (.ref ln), some (.ref lp), some (.str f1), u] ∧ H' lp = some (.lst xs) ∧ Pls H' xs (worldOf (fs.take i) ns ++ (ns.take j).map fun n => (f1, n)) ∧ H' lf = some (.lst (fs.map V.str)) ∧ H' ln = some (.lst (ns.map V.str)) ∧ Purse H' p ∧ But p H H')
        ⟨u, xs, rfl, h6, (by rw [List.take_zero, List.map_nil, List.append_nil]; exact P6), f6, n6, p6, B6⟩ (fun i σ H' _ ⟨_, _, _, _, _, _, h, _⟩ => SqL.of h) ?_ ?_⟩
      · rintro j y σ H7 hy ⟨u, xs, rfl, h7, P7, f7, n7, p7, B7⟩
        rw [List.getElem?_map] at hy
        obtain ⟨n1, en, rfl⟩ := Option.map_eq_some_iff.mp hy
        k_extra "r_B13"
        refine ⟨.inl ⟨rfl, _, SqL.of h7⟩, ?_⟩
        k_extra "r_B13"
        refine q_newT (by show 2 ≤ sizeLine; decide) fun t H8 n8 S8 h8 => ?_
        k_extra "r_B13"
        refine q_append (S8 _ _ h7) ?_ fun H9 b9 h9 => ?_
        · rw [P7.len, List.length_append, List.length_map, List.length_take]
          have := sz1 i
          exact szlt (by omega)
        k_extra "r_B13"
        have tl : t ≠ lp := fun z => by rw [z, h7] at n8; cases n8
        refine ⟨_, _, rfl, h9, ?_, b9 _ _ hpf (S8 _ _ f7), b9 _ _ hpn (S8 _ _ n7), ?_, ?_⟩
        · rw [take_map_more en, ← List.append_assoc]
          exact ((P7.mono S8).but (S8 _ _ h7) b9).snoc ⟨t, rfl, b9 _ _ tl h8⟩
        · obtain ⟨a, b, c, e, h⟩ := p7
          exact ⟨a, b, c, b9 _ _ hlpp.symm (S8 _ _ e), h⟩
        · exact fun b o hb e => b9 b o (fun z => by rw [z] at e; rw [e] at nH; cases nH) (S8 _ _ (B7 b o hb e))
      · rintro σ H7 ⟨u, xs, rfl, h7, P7, f7, n7, p7, B7⟩
        k_extra "r_B13"
        rw [List.length_map, List.take_length] at P7
        refine ⟨_, _, _, rfl, h7, ?_, f7, n7, p7, B7⟩
        rw [List.take_add_one, ef]
        exact (worldOf_snoc (fs.take i) ns f1) ▸ P7
    · rintro σ H6 ⟨v, u, xs, rfl, h6, P6, f6, n6, p6, B6⟩
      k_extra "r_B13"
      rw [List.length_map, List.take_length] at P6
      exact k lp H6 xs fs ns nH h6 P6 ⟨zf, df, hfe (by omega)⟩ ⟨zn, dn, hne (by omega)⟩ (by omega) (by omega) p6 B6
end
end Bt
namespace Bt
open PySem PySem.Spec PyProof.Rows L2
open PySem.W (dataLe alike AllAlike Sortable EachIs)
/-! ### sorted(xs) of data that are alike, any length -/
/-- the items beside what they read as -/
abbrev Prs : Type := List (V × PyData)
abbrev prLe : V × PyData → V × PyData → Bool := dataLe false (fun z : V × PyData => z.2)
def rSortD (K : PySem.W.Frag) : List V → Hp → VK → Prop := fun vs H Q => ∃ (a : Addr) (zs : Prs), vs = [V.ref a] ∧ SqL K H a (zs.map (·.1)) ∧ (∀ z ∈ zs, Dp K H z.1 z.2 ∧ z.2.depth ≤ 60) ∧ AllAlike (zs.map (·.2)) ∧ Sortable (zs.map (·.2)) ∧
  ∀ p, H p = none → Q (.ref p) (upd H p (.lst ((zs.mergeSort prLe).map (·.1))))
theorem each_vals : ∀ {zs : Prs} {us : List Value}, Vals (zs.map (·.1)) us → EachIs (fun u z => RelV z.1 u) us zs
  | [], us, h => by
    cases h
    exact .nil
  | z :: zs, us, h => by
    cases h with
    | cons h r => exact .cons h (each_vals r)
theorem vals_each : ∀ {zs : Prs} {us : List Value}, EachIs (fun u z => RelV z.1 u) us zs → Vals (zs.map (·.1)) us
  | [], _, h => by
    cases h
    exact .nil
  | z :: zs, _, h => by
    cases h with
    | cons h r => exact .cons h (vals_each r)
theorem each_reads {X : Cx} {pins : List (Addr × Obj)} {σ : L2.St} {H : Hp} {s : Shared} (I : Inv X pins σ H s) : ∀ {zs : Prs} {us : List Value}, Vals (zs.map (·.1)) us → (∀ z ∈ zs, Dp X.K H z.1 z.2) → EachIs (fun u z => ∃ as, Reads s.heap u z.2 as) us zs
  | [], us, h, _ => by
    cases h
    exact .nil
  | z :: zs, us, h, d => by
    cases h with
    | cons h r => exact .cons (Dp.reads I z.2 z.1 _ (d z List.mem_cons_self) h) (each_reads I r fun y hy => d y (List.mem_cons_of_mem _ hy))
theorem cr_sortD {X : Cx} (hu : X.A.units + 64 < cLine) : CallR X (.builtin "sorted") (rSortD X.K) := by
  intro pins s σ H vs us Q I r h
  obtain ⟨a, zs, rfl, hs, hd, al, sk, q⟩ := h
  obtain ⟨its, rv, hl, hz⟩ := I.list hs
  rw [Vals.ref1 r]
  rw [List.length_map] at hz
  refine PySem.W.sorted_data (enc := fun z : V × PyData => z.2) hl.isList (each_vals rv) (each_reads I rv fun z hz => (hd z hz).1) al sk hz (fun b hb => by have := (hd b hb).2; omega) fun out h1 h2 => ?_
  obtain ⟨ep, he'⟩ := PyProof.Rows.sortedAll_at s.heap its (List.toArray out)
  have hlen : ((zs.mergeSort prLe).map (·.1)).length ≤ sizeLine := by rw [List.length_map, List.length_mergeSort]; exact hz
  exact ⟨.ref _, upd H (s.heap.objs.size + 1) (.lst ((zs.mergeSort prLe).map (·.1))), I.laid (t' := s.toks) (fun _ _ => PyProof.Rows.sortedAll_old) (Nat.le_succ _) ⟨hlen, out, ep, vals_each h2, he'⟩, rfl, q _ (I.hok.fresh (Nat.le_succ _))⟩
theorem q_sortD {K : PySem.W.Frag} {H : Hp} {Q : VK} {a : Addr} (zs : Prs) (h : SqL K H a (zs.map (·.1))) (hd : ∀ z ∈ zs, Dp K H z.1 z.2 ∧ z.2.depth ≤ 60) (al : AllAlike (zs.map (·.2))) (sk : Sortable (zs.map (·.2)))
    (q : ∀ p H', H p = none → Same H H' → H' p = some (.lst ((zs.mergeSort prLe).map (·.1))) → Q (.ref p) H') : rSortD K [.ref a] H Q := ⟨a, zs, rfl, h, hd, al, sk, fun p n => q p _ n (Same.new n) upd_same⟩
end Bt
namespace Bt
open PySem PySem.Spec PyProof.Rows L2 LamX NdefX
open PySem.W (dataLt dataLe alike AllAlike Sortable)
theorem words90_ : True := by
  k_with "s_Q13" => first
    | ((with_reducible refine' s_var ?hv ?_); (case hv => exact rfl))
    | with_reducible first
      | refine' s_c ?_ | refine' s_op ?_ | refine' s_asg ?_ | refine' s_gname ?_ | refine' s_seq ?_ | refine' s_next ?_ | refine' s_ret ?_ | refine' s_ifS ?_ | refine' s_drop ?_ | refine' s_retN ?_ | refine' s_test ?_ | refine' s_B ?_ | refine' q_test ?_ | refine' s_int ?_ | refine' s_cons ?_ | refine' s_nil ?_ | refine' s_call ?_ | refine' s_CB ?_ | refine' s_andT ?_ | refine' s_orT ?_ | refine' s_notT ?_ | refine' s_andV ?_ | refine' s_orV ?_ | refine' s_notV ?_ | refine' s_ifV ?_ | refine' s_chain ?_ | refine' s_sl ?_ | refine' s_noPart ?_ | refine' s_part ?_ | refine' s_gsub ?_ | refine' s_BM ?_ | refine' s_tup ?_ | refine' s_lst ?_ | refine' q_add ?_ | refine' q_sub ?_ | refine' q_lt ?_ | refine' q_le ?_ | refine' q_gt ?_ | refine' q_ge ?_ | refine' s_ifT ?_ | refine' s_ifF ?_ | refine' s_yes ?_ | refine' s_iStr ?_ | refine' s_M0 ?_ | refine' s_for ?_ | refine' s_rng1 ?_ | refine' s_par ?_ | refine' s_gcons ?_ | refine' s_gnil ?_ | refine' s_iList ?_ | refine' s_iEnum ?_ | refine' s_raise1 ?_
      | (refine' q_mod ?hm ?_; (case hm => first | omega | decide))
    | dsimp only
  k_with "r_Q13" => repeat (k_extra "s_Q13")
  trivial
/-! ### places as data, in order -/
abbrev keyOf (q : Str × Str) : List Key := [.inr q.1, .inr q.2]
def dPl (q : Str × Str) : PyData := .tuple [.str q.1, .str q.2]
theorem eqv_str (a b : Str) : PyData.eqv (.str a) (.str b) = decide (a = b) := by
  simp only [PyData.eqv]
  by_cases h : a = b <;> simp [h]
theorem eqv_pl (p q : Str × Str) : PyData.eqv (dPl p) (dPl q) = decide (p = q) := by
  obtain ⟨p1, p2⟩ := p
  obtain ⟨q1, q2⟩ := q
  unfold dPl
  simp only [PyData.eqv, PyData.eqvAll, Prod.mk.injEq, Bool.and_true]
  rw [Bool.decide_and]
  congr 1 <;> · by_cases h : _ = _ <;> simp_all
theorem sh_pl {q : Str × Str} (h1 : Nm q.1) (h2 : Nm q.2) : SeqAt.shaped (dPl q) = true := by
  unfold SeqAt.shaped
  simp [dPl, PyData.canLay0, PyData.canLayAll0, PyData.depth, PyData.depthAll, h1.asc.ok, h2.asc.ok]
theorem dp_pl {K : PySem.W.Frag} {H : Hp} {a : Addr} {q : Str × Str} (h : H a = some (.tup [.str q.1, .str q.2])) : Dp K H (.ref a) (dPl q) := .tup (SqT.of h) (.cons (.str _) (.cons (.str _) .nil))
theorem cutV_take {xs : List V} (k : Nat) : cutV xs none (some (k : Int)) = xs.take k := by
  unfold cutV
  rw [HT.sIx_nat, HT.sIx_none, List.drop_zero, Nat.sub_zero]
  rcases Nat.lt_or_ge xs.length k with h | h
  · rw [Nat.min_eq_right (by omega), List.take_of_length_le (Nat.le_refl _), List.take_of_length_le (by omega)]
  · rw [Nat.min_eq_left h]
theorem cutV_drop {xs : List V} (k : Nat) : cutV xs (some (k : Int)) none = xs.drop k := by
  unfold cutV
  rw [HT.sIx_nat, HT.sIx_none]
  rcases Nat.lt_or_ge xs.length k with h | h
  · rw [Nat.min_eq_right (by omega), List.drop_eq_nil_of_le (Nat.le_refl _), List.drop_eq_nil_of_le (by omega), List.take_nil]
  · rw [Nat.min_eq_left h, List.take_of_length_le (by rw [List.length_drop]; omega)]
theorem pss_deadA {X : Cx} {b : List Stmt} : PSs X b (fun _ _ _ => False) := ⟨fun _ _ _ _ _ _ h => h.elim⟩
def pLe (p q : Str × Str) : Bool := dataLe false dPl p q
theorem dl_total {β : Type} (k : β → PyData) (a b : β) : dataLe false k a b = true ∨ dataLe false k b a = true := (PySem.W.sortLe_total _ false _).total a b
theorem dl_pw {β : Type} (k : β → PyData) (l : List β) : (l.mergeSort (dataLe false k)).Pairwise fun a b => dataLe false k a b = true :=
  List.pairwise_mergeSort (fun a b c h1 h2 => (PySem.W.sortLe_total _ false _).trans a b c h1 h2) (fun a b => Bool.or_eq_true_iff.mpr ((PySem.W.sortLe_total _ false _).total a b)) l
theorem dl_lt {β : Type} (k : β → PyData) (a b : β) : dataLe false k a b = !dataLt (k b) (k a) := rfl
theorem lt_str (x y : Str) : (!dataLt (.str y) (.str x)) = decide (x.cps.toList ≤ y.cps.toList) := congrFun (congrFun (PySem.W.dataLe_str (fun z : Str => z)) x) y
theorem str_ext {x y : Str} (h : x.cps.toList = y.cps.toList) : x = y := by
  cases x with
  | mk a => cases y with
    | mk b => congr 1; exact Array.toList_inj.mp h
theorem eqv_strb (a b : Str) : PyData.eqv (.str a) (.str b) = decide (a = b) := eqv_str a b
theorem pLe_antisymm {p q : Str × Str} (h1 : pLe p q = true) (h2 : pLe q p = true) : p = q := by
  obtain ⟨p1, p2⟩ := p
  obtain ⟨q1, q2⟩ := q
  unfold pLe at h1 h2
  rw [dl_lt] at h1 h2
  unfold dPl at h1 h2
  rw [PySem.W.dataLt_pair (by simp [alike]) (by simp [alike]), eqv_strb, eqv_strb] at h1 h2
  by_cases e1 : p1 = q1
  · by_cases e2 : p2 = q2
    · rw [e1, e2]
    · exfalso
      simp only [e1, decide_true, if_true, e2, Ne.symm e2, decide_false, Bool.false_eq_true, if_false] at h1 h2
      have a1 := of_decide_eq_true ((lt_str p2 q2).symm.trans h1)
      have a2 := of_decide_eq_true ((lt_str q2 p2).symm.trans h2)
      exact e2 (str_ext (List.le_antisymm a1 a2))
  · exfalso
    simp only [e1, Ne.symm e1, decide_false, Bool.false_eq_true, if_false] at h1 h2
    have a1 := of_decide_eq_true ((lt_str p1 q1).symm.trans h1)
    have a2 := of_decide_eq_true ((lt_str q1 p1).symm.trans h2)
    exact e1 (str_ext (List.le_antisymm a1 a2))
theorem Pls.pairs {H : Hp} {xs : List V} {ps : List (Str × Str)} (h : Pls H xs ps) : ∃ zs : List (V × (Str × Str)), zs.map (·.1) = xs ∧ zs.map (·.2) = ps ∧ ∀ z ∈ zs, PlAt H z.1 z.2 := by
  induction h with
  | nil => exact ⟨[], rfl, rfl, fun _ h => absurd h List.not_mem_nil⟩
  | cons h _ ih =>
    obtain ⟨zs, rfl, rfl, k⟩ := ih
    exact ⟨(_, _) :: zs, rfl, rfl, fun z m => by
      rcases List.mem_cons.mp m with rfl | m
      · exact h
      · exact k z m⟩
theorem Pls.of {H : Hp} : ∀ {zs : List (V × (Str × Str))}, (∀ z ∈ zs, PlAt H z.1 z.2) → Pls H (zs.map (·.1)) (zs.map (·.2))
  | [], _ => .nil
  | z :: zs, h => .cons (h z List.mem_cons_self) (Pls.of fun y m => h y (List.mem_cons_of_mem _ m))
theorem PlAt.dp {K : PySem.W.Frag} {H : Hp} {x : V} {q : Str × Str} : PlAt H x q → Dp K H x (dPl q) := fun ⟨a, e, h⟩ => by
  subst e
  exact dp_pl h
theorem q_sortP {K : PySem.W.Frag} {H : Hp} {Q : VK} {a : Addr} {xs : List V} {ps : List (Str × Str)} (h : SqL K H a xs) (hp : Pls H xs ps)
    (q : ∀ p H' ys, H p = none → Same H H' → H' p = some (.lst ys) → Pls H' ys (ps.mergeSort pLe) → Q (.ref p) H') : rSortD K [.ref a] H Q := by
  obtain ⟨zs, rfl, rfl, k⟩ := hp.pairs
  refine q_sortD (zs.map fun z => (z.1, dPl z.2)) (by rw [List.map_map]; exact h) (fun z hz => ?_) ?_ ?_ fun p H' np S hp' => ?_
  · obtain ⟨y, my, rfl⟩ := List.mem_map.mp hz
    exact ⟨(k y my).dp, by simp [dPl, PyData.depth, PyData.depthAll]⟩
  · rw [List.map_map]
    exact AllAlike.of fun b b' => by simp [dPl, alike, PySem.W.alikeAll]
  · rw [List.map_map]
    exact Sortable.tuples fun b => ⟨_, _, rfl⟩
  · have m1 : (zs.map fun z => (z.1, dPl z.2)).mergeSort prLe = (zs.mergeSort (dataLe false fun z : V × (Str × Str) => dPl z.2)).map fun z => (z.1, dPl z.2) :=
      (List.map_mergeSort (f := fun z : V × (Str × Str) => ((z.1, dPl z.2) : V × PyData)) (r := dataLe false fun z : V × (Str × Str) => dPl z.2) (s := prLe) fun _ _ _ _ => rfl).symm
    have m2 : (zs.mergeSort (dataLe false fun z : V × (Str × Str) => dPl z.2)).map (·.2) = (zs.map (·.2)).mergeSort pLe :=
      List.map_mergeSort (f := fun z : V × (Str × Str) => z.2) (r := dataLe false fun z : V × (Str × Str) => dPl z.2) (s := pLe) fun _ _ _ _ => rfl
    rw [m1, List.map_map] at hp'
    refine q p H' _ np S hp' ?_
    rw [← m2]
    exact Pls.of fun z mz => (k z (List.mem_mergeSort.mp mz)).mono S
theorem canLay_pls : ∀ {ps : List (Str × Str)}, (∀ q ∈ ps, Nm q.1 ∧ Nm q.2) → PyData.canLayAll0 (ps.map dPl) = true
  | [], _ => by simp [PyData.canLayAll0]
  | q :: ps, h => by
    have z1 : PyData.strOk q.1 = true := (h q List.mem_cons_self).1.asc.ok
    have z2 : PyData.strOk q.2 = true := (h q List.mem_cons_self).2.asc.ok
    simp only [List.map_cons, PyData.canLayAll0, canLay_pls fun z hz => h z (List.mem_cons_of_mem _ hz), Bool.and_true, dPl, PyData.canLay0, z1, z2]
theorem depth_pls : ∀ (ps : List (Str × Str)), PyData.depthAll (ps.map dPl) ≤ 5
  | [] => by simp [PyData.depthAll]
  | q :: ps => by
    have := depth_pls ps
    simp only [List.map_cons, PyData.depthAll, dPl, PyData.depth]
    omega
def dPs (ps : List (Str × Str)) : PyData := .list (ps.map dPl)
theorem sh_pls {ps : List (Str × Str)} (h : ∀ q ∈ ps, Nm q.1 ∧ Nm q.2) : SeqAt.shaped (dPs ps) = true := by
  unfold SeqAt.shaped dPs
  rw [Bool.and_eq_true, decide_eq_true_eq]
  have := depth_pls ps
  refine ⟨by simp only [PyData.canLay0]; exact canLay_pls h, ?_⟩
  simp only [PyData.depth]
  omega
theorem Pls.dps {K : PySem.W.Frag} {H : Hp} {xs : List V} {ps : List (Str × Str)} (h : Pls H xs ps) : DpAll K H xs (ps.map dPl) := by
  induction h with
  | nil => exact .nil
  | cons h _ ih => exact .cons h.dp ih
theorem keyOf_inj {p q : Str × Str} (h : keyOf p = keyOf q) : p = q := by
  injection h with h1 h2
  injection h2 with h2 _
  injection h1 with h1
  injection h2 with h2
  exact Prod.ext h1 h2
theorem Pls.get {H : Hp} {xs : List V} {ps : List (Str × Str)} (h : Pls H xs ps) : ∀ {i : Nat} {x : V}, xs[i]? = some x → ∃ q, q ∈ ps ∧ PlAt H x q := by
  induction h with
  | nil => intro i x e; simp at e
  | cons h _ ih =>
    intro i x e
    cases i with
    | zero => cases Option.some.inj e; exact ⟨_, List.mem_cons_self, h⟩
    | succ i =>
      obtain ⟨q, m, p⟩ := ih (i := i) (by simpa using e)
      exact ⟨q, List.mem_cons_of_mem _ m, p⟩
theorem SqL_but {K : PySem.W.Frag} {H H' : Hp} {a p : Addr} {xs : List V} (n : a ≠ p) (B : But p H H') (h : SqL K H a xs) : SqL K H' a xs := by
  rcases h with (h | ⟨o, h⟩) | h
  · exact .inl (.inl (B _ _ n h))
  · exact .inl (.inr ⟨o, B _ _ n h⟩)
  · exact .inr h
def Sc1 (K : PySem.W.Frag) (H : Hp) (p a : Addr) (xs : List V) : Prop := (a ≠ p ∧ SqL K H a xs) ∨ ∀ H', SqL K H' a xs
theorem Sc1.of {K : PySem.W.Frag} {H H' : Hp} {p a : Addr} {xs : List V} (h : SqL K H a xs) (n : H p = none) (S : Same H H') : Sc1 K H' p a xs := by
  rcases h with (h | ⟨o, h⟩) | h
  · exact .inl ⟨ne_of_none h n, .inl (.inl (S _ _ h))⟩
  · exact .inl ⟨ne_of_none h n, .inl (.inr ⟨o, S _ _ h⟩)⟩
  · exact .inr fun _ => .inr h
theorem Sc1.sq {K : PySem.W.Frag} {H : Hp} {p a : Addr} {xs : List V} (h : Sc1 K H p a xs) : SqL K H a xs := h.elim (fun z => z.2) fun z => z H
theorem Sc1.mono {K : PySem.W.Frag} {H H' : Hp} {p a : Addr} {xs : List V} (S : Same H H') (h : Sc1 K H p a xs) : Sc1 K H' p a xs := h.imp (fun z => ⟨z.1, SqL_monoN (ext_same S) z.2⟩) id
theorem Sc1.but {K : PySem.W.Frag} {H H' : Hp} {p a : Addr} {xs : List V} (B : But p H H') (h : Sc1 K H p a xs) : Sc1 K H' p a xs := h.imp (fun z => ⟨z.1, SqL_but z.1 B z.2⟩) id
theorem Sc1.re {K : PySem.W.Frag} {H H' : Hp} {p a : Addr} {xs : List V} (h : Sc1 K H p a xs) (q : SqL K H' a xs) : Sc1 K H' p a xs := h.imp (fun z => ⟨z.1, q⟩) id
/-- all but lists are kept -/
def NL (H H' : Hp) : Prop := ∀ b o, H b = some o → (∀ xs, o ≠ .lst xs) → H' b = some o
theorem NL.but {H H' : Hp} {p : Addr} {xs : List V} (h : H p = some (.lst xs)) (B : But p H H') : NL H H' := fun b o e n => B b o (fun z => by rw [z, h] at e; exact n _ (Option.some.inj e).symm) e
theorem NL.pu {H H' : Hp} {p : Addr} (h : Purse H p) (B : But p H H') : NL H H' := let ⟨_, _, _, e, _⟩ := h; NL.but e B
theorem PlAt.nl {H H' : Hp} {x : V} {q : Str × Str} (N : NL H H') : PlAt H x q → PlAt H' x q := fun ⟨a, e, h⟩ => ⟨a, e, N _ _ h (fun _ z => by cases z)⟩
theorem Pls.nl {H H' : Hp} {xs : List V} {ps : List (Str × Str)} (N : NL H H') (h : Pls H xs ps) : Pls H' xs ps := by
  induction h with
  | nil => exact .nil
  | cons h _ ih => exact .cons (h.nl N) ih
theorem Pls.app {H : Hp} {xs ys : List V} {ps qs : List (Str × Str)} (h : Pls H xs ps) (g : Pls H ys qs) : Pls H (xs ++ ys) (ps ++ qs) := by
  induction h with
  | nil => exact g
  | cons h _ ih => exact .cons h ih
theorem perm_lift {α β : Type} {f : α → β} {ys xs : List β} (h : ys.Perm xs) : ∀ zs : List α, xs = zs.map f → ∃ zs' : List α, zs'.Perm zs ∧ zs'.map f = ys := by
  induction h with
  | nil => exact fun zs e => ⟨zs, .refl _, e.symm⟩
  | cons x _ ih =>
    intro zs e
    cases zs with
    | nil => cases e
    | cons z zs =>
      injection e with e1 e2
      obtain ⟨w, p, q⟩ := ih zs e2
      exact ⟨z :: w, p.cons z, by rw [List.map_cons, q, e1]⟩
  | swap x y l =>
    intro zs e
    match zs, e with
    | z1 :: z2 :: zs, e =>
      injection e with e1 e2
      injection e2 with e2 e3
      exact ⟨z2 :: z1 :: zs, .swap _ _ _, by rw [List.map_cons, List.map_cons, e1, e2, e3]⟩
  | trans _ _ ih1 ih2 =>
    intro zs e
    obtain ⟨w, p, q⟩ := ih2 zs e
    obtain ⟨w', p', q'⟩ := ih1 w q.symm
    exact ⟨w', p'.trans p, q'⟩
theorem worldOf_nodup : ∀ {fs ns : List Str}, fs.Nodup → ns.Nodup → (worldOf fs ns).Nodup
  | [], _, _, _ => .nil
  | f :: fs, ns, hf, hn => by
    have ih := worldOf_nodup (List.nodup_cons.mp hf).2 hn
    unfold worldOf at ih ⊢
    rw [List.flatMap_cons]
    refine List.nodup_append.mpr ⟨List.pairwise_map.mpr (hn.imp fun n e => n (Prod.mk.inj e).2), ih, fun a ha b hb e => ?_⟩
    obtain ⟨z, hz, rfl⟩ := List.mem_map.mp ha
    subst e
    obtain ⟨g, hg, hb⟩ := List.mem_flatMap.mp hb
    obtain ⟨y, hy, e⟩ := List.mem_map.mp hb
    exact (List.nodup_cons.mp hf).1 ((Prod.mk.inj e).1 ▸ hg)
theorem worldOf_mem {fs ns : List Str} {q : Str × Str} (h : q ∈ worldOf fs ns) : q.1 ∈ fs ∧ q.2 ∈ ns := by
  unfold worldOf at h
  obtain ⟨f, hf, hb⟩ := List.mem_flatMap.mp h
  obtain ⟨y, hy, rfl⟩ := List.mem_map.mp hb
  exact ⟨hf, hy⟩
/-! ### answers left out and turned -/
theorem nm_arg {K : PySem.W.Frag} {H : Hp} {z : Str} (h : Nm z) : NameArg K H (.str z) := ⟨"str", Pl.str, fun y e => by cases e; have := h.2.1; omega⟩
theorem room66 {k : Nat} {A : Around} (r : Room k A) : A.units + 1 + 65 < cLine := by have := r.un; omega
theorem s_fld {K : PySem.W.Frag} {ta : TE} {f : Str} {σ : L2.St} {H : Hp} {Q : VK} (h : ta σ H fun x H1 => ∃ a C dx fs v, x = .ref a ∧ H1 a = some (.ins C dx fs) ∧ Cls K C ∧ NoAttr K C f ∧ fs.lookup f = some v ∧ Q v H1) : tFld K ta f σ H Q := h
theorem s_sFld {K : PySem.W.Frag} {ta tv : TE} {f : Str} {D : Ends} {σ : L2.St} {H : Hp} (h : tv σ H fun y H1 => ta σ H1 fun x H2 => ∃ a C dx fs, x = .ref a ∧ H2 a = some (.ins C dx fs) ∧ Cls K C ∧ NoAttr K C f ∧ fs.length < 1000 ∧ D.nx σ (upd H2 a (.ins C dx (putF f y fs)))) : sFld K ta tv f D σ H := h
/-! ### answers in order -/
theorem q_cut8 {tu tz : TS} {D : Ends} {σ : L2.St} {H : Hp} {M : L2.St → Hp → Prop} (h : tu { D with nx := M } σ H) (k : ∀ σ' H', M σ' H' → tz D σ' H') : C8.tCut tu tz D σ H := ⟨M, h, k⟩
def rListOf (K : PySem.W.Frag) : List V → Hp → VK → Prop := fun xs H Q => ∃ p ys, xs = [.ref p] ∧ (SqL K H p ys ∨ SqT K H p ys) ∧ ∀ l, H l = none → Q (.ref l) (upd H l (.lst ys))
theorem call_listOf {X : Cx} : CallR X (.type "list") (rListOf X.K) := call_list_of
theorem q_listL {K : PySem.W.Frag} {H : Hp} {Q : VK} {p : Addr} {ys : List V} (h : SqL K H p ys) (q : ∀ l H', H l = none → Same H H' → H' l = some (.lst ys) → Q (.ref l) H') : rListOf K [.ref p] H Q := ⟨p, ys, rfl, .inl h, fun l n => q l _ n (Same.new n) upd_same⟩
theorem s_meth {C : Addr} {m : Str} {sp : Sp} {dvs : List V} {E : XK} {ta : TE} {t : TA} {σ : L2.St} {H : Hp} {Q : VK} (h : ta σ H fun x H1 => ∃ a dx fs, x = .ref a ∧ H1 a = some (.ins C dx fs) ∧ fs.lookup m = none ∧ t σ H1 fun vs H2 => sp (x :: (vs ++ dvs)) H2 Q E) : tMeth C m sp dvs E ta t σ H Q := h
theorem s_callSD {sp : Sp} {dvs : List V} {E : L2.St → XK} {t : TA} {σ : L2.St} {H : Hp} {Q : VK} (h : t σ H fun vs H1 => sp (vs ++ dvs) H1 Q (E σ)) : tCallSD sp dvs E t σ H Q := h
theorem lt1 {a c : Nat} (h : a + 64 < c) : a + 1 < c := by omega
/-! ### what an ask tells -/
theorem lt2 {a c : Nat} (h : a + 64 < c) : a + 2 < c := by omega
section
variable {X : Cx} {k j : Nat} {x : Str} {sp : Sp} {p pos : Pos} {e : Expr} {es : List Expr} {t : TA} {W : WX}
theorem pe_cxS (c : CalX X.prog X.w X.K X.mg X.base k x sp) (hr : Room j X.A) (hk : k ≤ j) (tk : Takes X W) (hg : Gl X x) (ha : PA X (e :: es) t)
    (hdb : (x == ("__debug__" : Str)) = false := by decide) (he : starEach (e :: es) X.env = (false, eval e X.env) :: starEach es X.env := by rfl) (hpl : (backTo pos (starEach es X.env)).any (·.1) = false := by rfl) :
    PE X (.Call (.Name x p) (e :: es) [] pos) (tCallSD sp [] (fun σ => WE W σ) t) := by
  obtain ⟨f, fd, ps, F, hm, kp, b⟩ := c.ex
  exact pe_callSD F (hr.mono hk) hg hm kp b .nil (fun σ => passAt tk σ) ha hdb he hpl
end

theorem s_din {ty td : TE} {σ : L2.St} {H : Hp} {Q : VK} (h : ty σ H fun y H1 => td σ H1 fun x H2 => ∃ a o, x = .ref a ∧ DGet H2 a y o ∧ Q (.bl o.isSome) H2) : tDIn ty td σ H Q := h
def rIsNot : R2 := fun x y H Q => y = .non ∧ Q (.bl (!decide (x = .non))) H
theorem op_isNotNon {X : Cx} : OpR X (compareOp .IsNot) rIsNot := op_notN
theorem q_isNotNon {H : Hp} {Q : VK} {x : V} (q : Q (.bl (!decide (x = .non))) H) : rIsNot x .non H Q := ⟨rfl, q⟩
def tDead : TE := fun _ _ _ => False
theorem pe_dead {X : Cx} {e : Expr} : PE X e tDead := ⟨fun _ _ _ _ _ _ h => h.elim⟩
def rIsN : R2 := fun x y H Q => y = .non ∧ Q (.bl (decide (x = .non))) H
theorem op_isNon {X : Cx} : OpR X (compareOp .Is) rIsN := op_isN
theorem q_isNon {H : Hp} {Q : VK} {x : V} (q : Q (.bl (decide (x = .non))) H) : rIsN x .non H Q := ⟨rfl, q⟩
end Bt
namespace Bt
open PySem PySem.Spec PyProof.Rows L2
/-! ### == of lists and of tuples whose items are the same objects, or data -/
mutual
inductive EqV (K : PySem.W.Frag) (H : Hp) : Nat → V → V → Bool → Prop where
  | same {n : Nat} (a : Addr) : EqV K H n (.ref a) (.ref a) true
  | data {n : Nat} {x y : V} {d e : PyData} : Dp K H x d → Dp K H y e → SeqAt.shaped d = true → SeqAt.shaped e = true → EqV K H n x y (PyData.eqv d e)
  | lst {n : Nat} {a b : Addr} {xs ys : List V} {bs : List Bool} : a ≠ b → SqL K H a xs → SqL K H b ys → EqVs K H n xs ys bs → EqV K H (n + 1) (.ref a) (.ref b) (bs.all id)
inductive EqVs (K : PySem.W.Frag) (H : Hp) : Nat → List V → List V → List Bool → Prop where
  | nil {n : Nat} : EqVs K H n [] [] []
  | cons {n : Nat} {x y : V} {b : Bool} {xs ys : List V} {bs : List Bool} : EqV K H n x y b → EqVs K H n xs ys bs → EqVs K H n (x :: xs) (y :: ys) (b :: bs)
end
theorem all_range (bs : List Bool) : ((List.range bs.length).all fun j => (bs[j]?).getD true) = bs.all id := by
  rw [Bool.eq_iff_iff, List.all_eq_true, List.all_eq_true]
  constructor
  · intro h b hb
    obtain ⟨j, hj, e⟩ := List.mem_iff_getElem.mp hb
    have := h j (List.mem_range.mpr hj)
    rw [List.getElem?_eq_getElem hj, e] at this
    exact this
  · intro h j hj
    have hj := List.mem_range.mp hj
    rw [List.getElem?_eq_getElem hj]
    exact h _ (List.getElem_mem hj)
section
variable {X : Cx} {pins : List (Addr × Obj)} {σ : L2.St} {H : Hp} {s : Shared}
mutual
theorem eqV_at (I : Inv X pins σ H s) : ∀ (n : Nat) (x y : V) (b : Bool), EqV X.K H n x y b → ∀ (A : Around), A.units + n + 64 < cLine → ∀ (u v : Value), RelV x u → RelV y v → SeqAt.EqAt A s u v b
  | _, _, _, _, .same a, A, hu, u, v, rx, ry => by
    obtain rfl : u = Value.ref a := rx
    obtain rfl : v = Value.ref a := ry
    exact SeqAt.EqAt.same _
  | _, _, _, _, .data hd he sd se, A, hu, u, v, rx, ry => by
    obtain ⟨as, r1⟩ := Dp.reads I _ _ u hd rx
    obtain ⟨bs, r2⟩ := Dp.reads I _ _ v he ry
    exact SeqAt.eqAt_reads _ _ A s u v as bs r1 r2 (SeqAt.canLay_of_shaped sd) (SeqAt.canLay_of_shaped se) (SeqAt.room_of_shaped sd (by omega))
  | _, _, _, _, @EqV.lst _ _ n a b xs ys bs ne h1 h2 h3, A, hu, u, v, rx, ry => by
    obtain rfl : u = Value.ref a := rx
    obtain rfl : v = Value.ref b := ry
    obtain ⟨us, r1, p1, _⟩ := I.list h1
    obtain ⟨vs, r2, p2, _⟩ := I.list h2
    have hi : A.in1.units + n + 64 < cLine := by show A.units + 1 + n + 64 < cLine; omega
    obtain ⟨l1, l2, k⟩ := eqVs_at I _ _ _ _ h3 _ hi _ _ r1 r2
    have e : bs.all id = (List.range us.toArray.size).all fun j => (bs[j]?).getD true := by rw [List.size_toArray, l1, all_range]
    rw [e]
    refine SeqAt.EqAt.of_refs ne (SeqAt.RcAt.lists (items := us.toArray) (items2 := vs.toArray) ?_ ?_ (by simp [l1, l2]) (by omega) (fun j j1 j2 => ?_))
    · obtain ⟨o, n, ho, hc, _, hd⟩ := p1
      exact ⟨o, ho, hc, n, hd⟩
    · obtain ⟨o, n, ho, hc, _, hd⟩ := p2
      exact ⟨o, ho, hc, n, hd⟩
    · simpa using k j (by simpa using j1) (by simpa using j2)
theorem eqVs_at (I : Inv X pins σ H s) : ∀ (n : Nat) (xs ys : List V) (bs : List Bool), EqVs X.K H n xs ys bs → ∀ (A : Around), A.units + n + 64 < cLine → ∀ (us vs : List Value), Vals xs us → Vals ys vs → us.length = bs.length ∧ vs.length = bs.length ∧
    ∀ j (h1 : j < us.length) (h2 : j < vs.length), SeqAt.EqAt A s us[j] vs[j] ((bs[j]?).getD true)
  | _, _, _, _, .nil, A, hu, us, vs, r1, r2 => by
    cases r1
    cases r2
    exact ⟨rfl, rfl, fun j h1 _ => absurd h1 (Nat.not_lt_zero _)⟩
  | _, _, _, _, .cons h hs, A, hu, us, vs, r1, r2 => by
    cases r1 with
    | cons ra r1 =>
      cases r2 with
      | cons rb r2 =>
        obtain ⟨l1, l2, k⟩ := eqVs_at I _ _ _ _ hs _ hu _ _ r1 r2
        refine ⟨by simp [l1], by simp [l2], fun j h1 h2 => ?_⟩
        cases j with
        | zero => exact eqV_at I _ _ _ _ h _ hu _ _ ra rb
        | succ j => simpa using k j (by simpa using h1) (by simpa using h2)
end
end
def rEqI (K : PySem.W.Frag) (n : Nat) : R2 := fun x y H Q => ∃ a b xs ys bs, x = .ref a ∧ y = .ref b ∧ ((SqL K H a xs ∧ SqL K H b ys) ∨ (SqT K H a xs ∧ SqT K H b ys)) ∧ EqVs K H n xs ys bs ∧ Q (.bl (bs.all id)) H
def rNeI (K : PySem.W.Frag) (n : Nat) : R2 := fun x y H Q => ∃ a b xs ys bs, x = .ref a ∧ y = .ref b ∧ ((SqL K H a xs ∧ SqL K H b ys) ∨ (SqT K H a xs ∧ SqT K H b ys)) ∧ EqVs K H n xs ys bs ∧ Q (.bl (!bs.all id)) H
theorem op_eqI {X : Cx} {n : Nat} (hu : X.A.units + n + 65 < cLine) : OpR X (compareOp .Eq) (rEqI X.K n) := by
  intro pins s σ H x y v u Q I rx ry h
  obtain ⟨a, b, xs, ys, bs, rfl, rfl, hs, he, q⟩ := h
  obtain rfl : v = Value.ref a := rx
  obtain rfl : u = Value.ref b := ry
  have hi : X.A.in1.units + n + 64 < cLine := by show X.A.units + 1 + n + 64 < cLine; omega
  rcases hs with ⟨h1, h2⟩ | ⟨h1, h2⟩
  · obtain ⟨us, r1, p1, _⟩ := I.list h1
    obtain ⟨vs, r2, p2, _⟩ := I.list h2
    obtain ⟨l1, l2, k⟩ := eqVs_at I _ _ _ _ he _ hi _ _ r1 r2
    refine SeqAt.eq_listAt (items := us.toArray) (items2 := vs.toArray) (e := fun j => (bs[j]?).getD true) ?_ ?_ (by simp [l1, l2]) (by omega) (fun j j1 j2 => ?_) ⟨.bl _, H, I, rfl, ?_⟩
    · obtain ⟨o, n, ho, hc, _, hd⟩ := p1
      exact ⟨o, ho, hc, n, hd⟩
    · obtain ⟨o, n, ho, hc, _, hd⟩ := p2
      exact ⟨o, ho, hc, n, hd⟩
    · simpa using k j (by simpa using j1) (by simpa using j2)
    · rw [List.size_toArray, l1, all_range]
      exact q
  · obtain ⟨us, r1, p1, _⟩ := I.tuple h1
    obtain ⟨vs, r2, p2, _⟩ := I.tuple h2
    obtain ⟨l1, l2, k⟩ := eqVs_at I _ _ _ _ he _ hi _ _ r1 r2
    refine SeqAt.eq_tupleAt (items := us.toArray) (items2 := vs.toArray) (e := fun j => (bs[j]?).getD true) ?_ ?_ (by omega) (fun j j1 j2 => ?_) ⟨.bl _, H, I, rfl, ?_⟩
    · obtain ⟨o, ho, hc, n, hd⟩ := p1
      exact ⟨o, ho, hc, n, hd⟩
    · obtain ⟨o, ho, hc, n, hd⟩ := p2
      exact ⟨o, ho, hc, n, hd⟩
    · simpa using k j (by simpa using j1) (by simpa using j2)
    · rw [List.size_toArray, List.size_toArray, l1, l2, Nat.min_self, all_range, beq_self_eq_true, Bool.and_true]
      exact q
theorem op_neI {X : Cx} {n : Nat} (hu : X.A.units + n + 65 < cLine) : OpR X (compareOp .NotEq) (rNeI X.K n) := by
  intro pins s σ H x y v u Q I rx ry h
  obtain ⟨a, b, xs, ys, bs, rfl, rfl, hs, he, q⟩ := h
  obtain rfl : v = Value.ref a := rx
  obtain rfl : u = Value.ref b := ry
  have hi : X.A.in1.units + n + 64 < cLine := by show X.A.units + 1 + n + 64 < cLine; omega
  show wpAny (model X.prog X.w) X.A (richCompare .NotEq (.ref a) (.ref b)) (EP X pins σ Q) X.xe s
  rcases hs with ⟨h1, h2⟩ | ⟨h1, h2⟩
  · obtain ⟨us, r1, p1, _⟩ := I.list h1
    obtain ⟨vs, r2, p2, _⟩ := I.list h2
    obtain ⟨l1, l2, k⟩ := eqVs_at I _ _ _ _ he _ hi _ _ r1 r2
    refine SeqAt.RcNeAt.lists (items := us.toArray) (items2 := vs.toArray) (e := fun j => (bs[j]?).getD true) ?_ ?_ (by simp [l1, l2]) (by omega) (fun j j1 j2 => ?_) X.prog X.w X.xe _ ⟨.bl _, H, I, rfl, ?_⟩
    · obtain ⟨o, n, ho, hc, _, hd⟩ := p1
      exact ⟨o, ho, hc, n, hd⟩
    · obtain ⟨o, n, ho, hc, _, hd⟩ := p2
      exact ⟨o, ho, hc, n, hd⟩
    · simpa using k j (by simpa using j1) (by simpa using j2)
    · rw [List.size_toArray, l1, all_range]
      exact q
  · obtain ⟨us, r1, p1, _⟩ := I.tuple h1
    obtain ⟨vs, r2, p2, _⟩ := I.tuple h2
    obtain ⟨l1, l2, k⟩ := eqVs_at I _ _ _ _ he _ hi _ _ r1 r2
    refine SeqAt.RcNeAt.tuples (items := us.toArray) (items2 := vs.toArray) (e := fun j => (bs[j]?).getD true) ?_ ?_ (by omega) (fun j j1 j2 => ?_) X.prog X.w X.xe _ ⟨.bl _, H, I, rfl, ?_⟩
    · obtain ⟨o, ho, hc, n, hd⟩ := p1
      exact ⟨o, ho, hc, n, hd⟩
    · obtain ⟨o, ho, hc, n, hd⟩ := p2
      exact ⟨o, ho, hc, n, hd⟩
    · simpa using k j (by simpa using j1) (by simpa using j2)
    · rw [List.size_toArray, List.size_toArray, l1, l2, Nat.min_self, all_range, beq_self_eq_true, Bool.and_true]
      exact q
end Bt
namespace Bt
open PySem PySem.Spec PyProof.Rows L2
/-! ### dicts whose keys are tuples of texts: dict(pairs) -/
def mergeT (kvs more : List (List Key × V)) : List (List Key × V) := more.foldl (fun acc kv => putK acc kv.1 kv.2) kvs
theorem mergeT_cons (kvs : List (List Key × V)) (p : List Key × V) (more : List (List Key × V)) : mergeT kvs (p :: more) = mergeT (putK kvs p.1 p.2) more := rfl
theorem mergeT_len : ∀ (more kvs : List (List Key × V)), (mergeT kvs more).length ≤ kvs.length + more.length
  | [], _ => Nat.le_refl _
  | p :: more, kvs => by
    have h1 := mergeT_len more (putK kvs p.1 p.2)
    have h2 := length_putK kvs p.1 p.2
    rw [mergeT_cons, List.length_cons]
    omega
theorem KT.merge {H : Hp} : ∀ {more : List (List Key × V)} {ps : List (List Key × Addr × Value)} {kvs : List (List Key × V)} {xs : List (List Key × Addr × Value)}, KT H more ps → KT H kvs xs → KT H (mergeT kvs more) (storedAllH xs ps)
  | [], _, _, _, .nil, r => r
  | p :: more, q :: ps, kvs, xs, .cons h t, r => by
    obtain ⟨h1, h2, h3⟩ := h
    have := KT.merge t (KT.put r p.1 h2 h3)
    rw [mergeT_cons]
    show KT H _ (storedAllH (storedH xs q.1 q.2.1 q.2.2) ps)
    rw [← h1]
    exact this
/-- the pairs of a list: where each stands, where its key stands, the key, the value -/
abbrev PE4 : Type := Addr × Addr × List Key × V
def rDictT (K : PySem.W.Frag) : List V → Hp → VK → Prop := fun xs H Q => ∃ (a : Addr) (es : List PE4), xs = [.ref a] ∧ SqL K H a (es.map fun e => V.ref e.1) ∧ (∀ e ∈ es, SqT K H e.1 [.ref e.2.1, e.2.2.2] ∧ H e.2.1 = some (.tup (e.2.2.1.map kV))) ∧
  ∀ p, H p = none → Q (.ref p) (upd H p (.dT (mergeT [] (es.map fun e => e.2.2))))
section
variable {X : Cx}
theorem pairs4 {pins : List (Addr × Obj)} {σ : L2.St} {H : Hp} {s : Shared} (I : Inv X pins σ H s) : ∀ {es : List PE4}, (∀ e ∈ es, SqT X.K H e.1 [.ref e.2.1, e.2.2.2] ∧ H e.2.1 = some (.tup (e.2.2.1.map kV))) →
    ∃ prs : List (List Key × Addr × Value), KT H (es.map fun e => e.2.2) prs ∧ prs.length = es.length ∧ ∀ (j : Nat) (q : List Key × Addr × Value), prs[j]? = some q → ∃ e, es[j]? = some e ∧ IsTup s.heap e.1 #[.ref q.2.1, q.2.2] ∧ H q.2.1 = some (.tup (q.1.map kV))
  | [], _ => ⟨[], .nil, rfl, fun j q e => by simp at e⟩
  | e :: es, h => by
    obtain ⟨prs, r, hl, hp⟩ := pairs4 I (es := es) fun x hx => h x (List.mem_cons_of_mem _ hx)
    obtain ⟨h1, h2⟩ := h e List.mem_cons_self
    obtain ⟨its, rv, ht, _⟩ := I.tuple h1
    obtain ⟨u, y, ei, ru, ry⟩ := vals2 rv
    subst ei
    cases ru
    refine ⟨(e.2.2.1, e.2.1, y) :: prs, .cons ⟨rfl, h2, ry⟩ r, by rw [List.length_cons, List.length_cons, hl], fun j q e' => ?_⟩
    cases j with
    | zero =>
      cases Option.some.inj e'
      exact ⟨e, rfl, ht, h2⟩
    | succ j =>
      obtain ⟨x, e1, e2⟩ := hp j q (by simpa using e')
      exact ⟨x, by simpa using e1, e2⟩
theorem call_dictT (hcalm : X.calm = true) (hu : X.A.units + 3 < cLine) : CallR X (.type "dict") (rDictT X.K) := by
  intro pins s σ H xs us Q I r q
  obtain ⟨a, es, rfl, hq, hp, q⟩ := q
  obtain ⟨u, rfl, rx⟩ := vals1 r
  cases rx
  obtain ⟨its, rv, pl, hz⟩ := I.list hq
  have ei : its = (es.map (·.1)).map Value.ref := refs_at (by rw [List.map_map]; exact rv)
  subst ei
  rw [List.length_map] at hz
  obtain ⟨prs, rel, hl, hpr⟩ := pairs4 I hp
  obtain ⟨o, n, ho, hc, hd, hdat⟩ := pl
  have key : ∀ {q : List Key × Addr × Value}, q ∈ prs → IsTupleKey (mixKind X.prog X.w) s.heap q.1 q.2.1 := fun {q} hq => by
    obtain ⟨j, hj⟩ := List.mem_iff_getElem?.mp hq
    obtain ⟨e, _, _, h3⟩ := hpr j q hj
    exact key_of I.hok h3
  have lp : (prs.map fun q => (Value.ref q.2.1, q.2.2)).length = es.length := by rw [List.length_map, hl]
  have Tj : ∀ {j : Nat} {e : PE4}, es[j]? = some e → (es.map (·.1)).getD j 0 = e.1 := fun {j e} h => by
    rw [List.getD_eq_getElem?_getD, List.getElem?_map, h]
    rfl
  refine PySem.call_dict_pairsH (knd := tupleKind (mixKind X.prog X.w)) (ps := prs) (PySem.PairArg.list a ((es.map (·.1)).map Value.ref).toArray (fun j => (es.map (·.1)).getD j 0) (prs.map fun q => (Value.ref q.2.1, q.2.2))) (I.ok.hd hcalm) ?_ ?_ ?_ ?_ ?_ fun h' tk hd' k => ?_
  · show X.A.in1.in1.units < cLine
    simp only [Around.in1]
    omega
  · refine ⟨⟨o, n, ho, hc, hd, hdat⟩, by rw [lp]; simp, fun j kx v hj => ?_⟩
    rw [List.getElem?_map] at hj
    obtain ⟨q', hq', e'⟩ := Option.map_eq_some_iff.mp hj
    cases e'
    obtain ⟨e, he, ht, _⟩ := hpr j q' hq'
    refine ⟨?_, .inl ?_⟩
    · show _ = some (Value.ref ((es.map (·.1)).getD j 0))
      rw [Tj he]
      simp [he]
    · show s.heap.IsTuple ((es.map (·.1)).getD j 0) _
      rw [Tj he]
      obtain ⟨o', h1, h2, n', h3⟩ := ht
      exact ⟨o', h1, h2, n', h3⟩
  · refine ⟨by rw [List.length_map], fun i kx v hi => ?_⟩
    rw [PairRel, List.getElem?_map] at hi
    obtain ⟨q', hq', e'⟩ := Option.map_eq_some_iff.mp hi
    cases e'
    exact ⟨q'.1, q'.2.1, hq', rfl⟩
  · intro h' hk x hx
    obtain ⟨o', items, n', h1, h2, h3, h4⟩ := key hx
    exact ⟨o', items, n', hk _ _ (Nat.ne_of_lt (Heap.lt_size h1)) (fun z => nomatch z) h1, h2, h3, h4⟩
  · rw [lp]
    exact hz
  · have hm : (s.heap.objs.size == sysModules) = false := beq_eq_false_iff_ne.mpr (Nat.ne_of_gt I.big)
    have hlen : (mergeT [] (es.map fun e => e.2.2)).length ≤ sizeLine := by
      refine Nat.le_trans (mergeT_len _ _) ?_
      rw [List.length_nil, Nat.zero_add, List.length_map]
      exact hz
    obtain ⟨q', es', ep, hq', h2, h3, h4, _, h5⟩ := hd'
    have hf : H s.heap.objs.size = none := I.hok.fresh (Nat.le_refl _)
    have rel' : KT (upd H s.heap.objs.size (.dT (mergeT [] (es.map fun e => e.2.2)))) (mergeT [] (es.map fun e => e.2.2)) (storedAllH [] prs) := (KT.merge rel .nil).keeps fun c ys ec => by
      rw [upd_ne (fun z => by rw [z, hf] at ec; cases ec)]
      exact ec
    exact ⟨.ref s.heap.objs.size, _, I.laid (t' := tk) (fun b o' e => k b o' (fun z => nomatch z) e) (Nat.le_refl _) (show ObjOk X.prog X.w _ _ _ (.dT (mergeT [] (es.map fun e => e.2.2))) from ⟨hlen, hm, _, rel', q', es', ep, hq', h2, h3, h4, h5⟩), rfl, q _ hf⟩
end
end Bt
namespace Bt
open PySem PySem.Spec PyProof.Rows L2
/-! ### list(d.items()), and walks over d.items(), the keys tuples of texts -/
section
variable {X : Cx} {pins : List (Addr × Obj)} {σ : L2.St} {H H' : Hp} {s : Shared} {h' : Heap} {tk : Nat}
/-- many new things at a time -/
theorem lay_new (I : Inv X pins σ H s) (hk : ∀ b o, s.heap.get? b = some o → h'.get? b = some o) (kp : Same H H') (low : ∀ b o, s.heap.get? b = some o → H' b = H b)
    (ok : ∀ b u, H b = none → H' b = some u → ObjOk X.prog X.w H' h' b u) : Inv X pins σ H' { s with heap := h', toks := tk } := by
  refine I.call' (ch := []) rfl ⟨fun b o q _ _ _ => hk b o q, fun b o q _ _ _ => ⟨o.slots, hk b o q⟩, fun b o q n _ => by rw [low b o q]; exact n, fun b o q _ => ⟨o, hk b o q⟩, fun b xs q => kp b _ q, fun b o u q => kp b _ q, fun b ps q => ⟨#[], by rw [kp b _ q]; simp⟩⟩ (fun b u q => ?_) I.bare fun b z => by simp at z
  cases e : H b with
  | none => exact ok b u e q
  | some v =>
    have : H' b = some v := kp b v e
    rw [q] at this
    cases this
    exact (I.hok b u e).stay (fun d v _ y => hk d v y) (fun d y => kp d _ y) fun d xs y => kp d _ y
end
/-- the pairs tracked -/
def put4 : Hp → List PE4 → Hp
  | H, [] => H
  | H, e :: es => put4 (upd H e.1 (.tup [.ref e.2.1, e.2.2.2])) es
theorem put4_off {b : Addr} : ∀ (es : List PE4) (H : Hp), b ∉ es.map (·.1) → put4 H es b = H b
  | [], _, _ => rfl
  | e :: es, H, h => by
    rw [List.map_cons, List.mem_cons, not_or] at h
    show put4 (upd H e.1 _) es b = H b
    rw [put4_off es _ h.2, upd_ne h.1]
theorem put4_at : ∀ (es : List PE4) (H : Hp), (es.map (·.1)).Nodup → ∀ e ∈ es, put4 H es e.1 = some (.tup [.ref e.2.1, e.2.2.2])
  | e :: es, H, h, x, hx => by
    rw [List.map_cons, List.nodup_cons] at h
    rcases List.mem_cons.mp hx with rfl | hx
    · show put4 (upd H x.1 _) es x.1 = _
      rw [put4_off es _ h.1, upd_same]
    · exact put4_at es _ h.2 x hx
theorem mk4 {H : Hp} : ∀ {kvs : List (List Key × V)} {xs : List (List Key × Addr × Value)} {as : List Addr}, KT H kvs xs → as.length = xs.length → ∃ es : List PE4, es.map (·.1) = as ∧ es.map (·.2.2) = kvs ∧
    ∀ (j : Nat) (e : PE4), es[j]? = some e → as[j]? = some e.1 ∧ ∃ y, xs[j]? = some y ∧ y.2.1 = e.2.1 ∧ RelV e.2.2.2 y.2.2 ∧ H e.2.1 = some (.tup (e.2.2.1.map kV))
  | _, _, [], .nil, _ => ⟨[], rfl, rfl, fun j e h => by simp at h⟩
  | _, _, _ :: _, .nil, h => by simp at h
  | _, _, [], .cons _ _, h => by simp at h
  | p :: kvs, q :: xs, a :: as, .cons h t, hl => by
    obtain ⟨h1, h2, h3⟩ := h
    obtain ⟨es, e1, e2, e3⟩ := mk4 t (as := as) (by simpa using hl)
    refine ⟨(a, q.2.1, p) :: es, by rw [List.map_cons, e1], by rw [List.map_cons, e2], fun j e he => ?_⟩
    cases j with
    | zero =>
      cases Option.some.inj he
      exact ⟨rfl, q, rfl, rfl, h3, h2⟩
    | succ j =>
      obtain ⟨z1, y, z2, z3⟩ := e3 j e (by simpa using he)
      exact ⟨by simpa using z1, y, by simpa using z2, z3⟩
/-- what holds of the pairs in the heap -/
def Prs4 (H : Hp) (es : List PE4) : Prop := ∀ e ∈ es, H e.1 = some (.tup [.ref e.2.1, e.2.2.2]) ∧ H e.2.1 = some (.tup (e.2.2.1.map kV))
theorem Prs4.mono {H H' : Hp} {es : List PE4} (S : Same H H') (h : Prs4 H es) : Prs4 H' es := fun e he => ⟨S _ _ (h e he).1, S _ _ (h e he).2⟩
def rItemsLT : V → Hp → VK → Prop := fun x H Q => ∃ (d : Addr) (kvs : List (List Key × V)), x = .ref d ∧ H d = some (.dT kvs) ∧
  ∀ (H' : Hp) (p : Addr) (es : List PE4), Same H H' → H p = none → H' p = some (.lst (es.map fun e => V.ref e.1)) → es.map (·.2.2) = kvs → Prs4 H' es → Q (.ref p) H'
def tListItT (te : TE) : TE := fun σ H Q => te σ H fun x H1 => rItemsLT x H1 Q
section
variable {X : Cx} {e : Expr} {te : TE} {p apos cpos pos : Pos}
theorem pe_listItT (hc : X.calm = true) (he : PE X e te) (hg : Gl X "list") (hm : X.mg "list" = none) (hv : bootBuiltins "list" = some (.type "list")) (hbase : attributeBase e "items" X.env (eval e X.env) = eval e X.env := by rfl) (hline : (apos.endLine == cpos.line) = true := by rfl)
    (hs : starEach [.Call (.Attribute e "items" apos) [] [] cpos] X.env = (false, eval (.Call (.Attribute e "items" apos) [] [] cpos) X.env) :: starEach [] X.env := by rfl) :
    PE X (.Call (.Name "list" p) [.Call (.Attribute e "items" apos) [] [] cpos] [] pos) (tListItT te) := by
  refine ⟨fun pins s σ H Q I hq => ?_⟩
  refine wpAny_Call_Name_kw (ld_blt I hg hm hv ?_)
  refine PyProof.Rows.callWith_type1 ?_ hs rfl
  rw [hs]
  show wpAny _ _ (spliced ((false, eval (.Call (.Attribute e "items" apos) [] [] cpos) X.env) :: backTo pos (starEach [] X.env))) _ _ s
  refine Calls.spliced_cons ?_
  refine wpAny_Call_method (T := "dict") (id := "dict.items") hbase rfl hline F.plainAttrs_dict F.slot_dict_items F.type_dict_items (thn (he.run pins s σ H _ I hq) fun u s1 ⟨x, H1, I1, rx, d, kvs, ex, hd, q⟩ => ?_)
  subst ex
  obtain rfl : u = Value.ref d := rx
  obtain ⟨hz, hs0, xs, rel, hdo⟩ := dt_of I1.hok hd
  obtain ⟨es, ep, raw, hes, hent⟩ := hdo.raw
  have lk : kvs.length = xs.length := Paired.length rel
  have ht : s1.TypeIs (.ref d) "dict" := hdo.typeIs
  refine ⟨ht, fun b eb => ?_, ?_⟩
  · cases eb
    obtain ⟨o, ho, hx, _⟩ := raw
    exact ⟨o, ho, hx.2.1⟩
  show wpAny _ _ (callWith cpos (.builtin "dict.items") [.ref d] [] []) _ X.xe s1
  refine method_meetsIn F.slot_dict_items F.entry_dict_items rfl (PySem.evalArgs_none ⟨rfl, ht, F.args_dict_items_1 _, _, PySem.meets_dict_items_raw d hs0, ⟨es, ep, raw⟩, ?_⟩)
  refine Calls.spliced_nil ?_
  have I2 : Inv X pins σ H1 { s1 with heap := s1.heap.push { cls := .type "dict_items", data := .fields #[.ref d] } } := I1.kept (t' := s1.toks) fun b ob q => Heap.get?_push_of_some _ q
  refine PySem.W.dil_call (es := es) (ep := ep) (I1.ok.hd hc) ⟨_, Heap.get?_push_size _ rfl, rfl, rfl⟩ (raw.push _) (by omega) fun h' tk acc c as hk hS hl hG hacc => ?_
  obtain ⟨es4, a1, a2, a3⟩ := mk4 rel (as := as) (by omega)
  have nd : as.Nodup := List.Pairwise.imp (fun {a b} (h : a < b) => Nat.ne_of_lt h) hG.rise
  have hSn : ∀ S, S ∈ as → S ≠ (s1.heap.push { cls := .type "dict_items", data := .fields #[.ref d] }).objs.size := fun S z e => Nat.lt_irrefl _ (e ▸ hG.above _ z)
  have new : ∀ t ∈ as, H1 t = none := fun t ht => I2.hok.fresh (Nat.le_of_lt (hG.above t ht))
  have newS : H1 (s1.heap.push { cls := .type "dict_items", data := .fields #[.ref d] }).objs.size = none := I2.hok.fresh (Nat.le_refl _)
  have low : ∀ b o, (s1.heap.push { cls := .type "dict_items", data := .fields #[.ref d] }).get? b = some o → b ∉ as ∧ b ≠ (s1.heap.push { cls := .type "dict_items", data := .fields #[.ref d] }).objs.size := fun b o e => ⟨fun z => absurd (Heap.lt_size e) (Nat.not_lt.mpr (Nat.le_of_lt (hG.above b z))), Nat.ne_of_lt (Heap.lt_size e)⟩
  generalize (s1.heap.push { cls := .type "dict_items", data := .fields #[.ref d] }).objs.size = S at *
  have off : ∀ b, b ∉ as → b ≠ S → put4 (upd H1 S (.lst (as.map V.ref))) es4 b = H1 b := fun b h1 h2 => by rw [put4_off es4 _ (a1 ▸ h1), upd_ne h2]
  have kp : Same H1 (put4 (upd H1 S (.lst (as.map V.ref))) es4) := fun b u e => by
    rw [off b (fun z => by rw [new b z] at e; cases e) (fun z => by rw [z, newS] at e; cases e)]
    exact e
  have eS : put4 (upd H1 S (.lst (as.map V.ref))) es4 S = some (.lst (as.map V.ref)) := by rw [put4_off es4 _ (a1 ▸ fun z => hSn S z rfl), upd_same]
  have at4 := put4_at es4 (upd H1 S (.lst (as.map V.ref))) (a1 ▸ nd)
  have J : Inv X pins σ (put4 (upd H1 S (.lst (as.map V.ref))) es4) { { s1 with heap := s1.heap.push { cls := .type "dict_items", data := .fields #[.ref d] } } with heap := h', toks := tk } := by
    refine lay_new I2 hk kp (fun b o q => off b (low b o q).1 (low b o q).2) fun b u hn hu => ?_
    by_cases hb : b ∈ as
    · rw [← a1] at hb
      obtain ⟨e4, m4, rfl⟩ := List.mem_map.mp hb
      obtain ⟨j, hj⟩ := List.mem_iff_getElem?.mp m4
      obtain ⟨z1, y, z2, z3, z4, z5⟩ := a3 j e4 hj
      obtain ⟨hjs, h5⟩ := hG.pairs j e4.1 z1
      obtain ⟨y', w1, w2, w3, _⟩ := hent j hjs
      rw [z2] at w1
      cases w1
      rw [at4 e4 m4] at hu
      cases hu
      exact ⟨by show 2 ≤ sizeLine; decide, [.ref y.2.1, y.2.2], .cons (by rw [← z3]; rfl) (.cons z4 .nil), ⟨_, by rw [w2, w3] at h5; exact h5, rfl, _, rfl⟩⟩
    · by_cases hb2 : b = S
      · subst hb2
        rw [eS] at hu
        cases hu
        refine ⟨by rw [List.length_map]; omega, acc.toList, c, by rw [hacc]; exact LiI.vals_refs as, ?_⟩
        rw [Array.toArray_toList]
        exact hS
      · rw [off b hb hb2, hn] at hu
        cases hu
  refine ⟨.ref S, _, J, rfl, q _ S es4 kp newS ?_ a2 fun e4 m4 => ⟨at4 e4 m4, ?_⟩⟩
  · rw [eS, ← a1, List.map_map]
    rfl
  · obtain ⟨j, hj⟩ := List.mem_iff_getElem?.mp m4
    obtain ⟨_, _, _, _, _, z5⟩ := a3 j e4 hj
    exact kp _ _ z5
end
end Bt
namespace Bt
open PySem PySem.Spec PyProof.Rows L2
/-! ### for k, v in d.items(), the keys tuples of texts -/
def Itit (d : Addr) (o : Obj) (kvs : List (List Key × V)) : It :=
  ⟨fun i H => H d = some (.frz o (.dT kvs)) ∧ i < kvs.length, fun i H x H' => ∃ T b k v, kvs[i]? = some (k, v) ∧ x = .ref T ∧ H T = none ∧ H b = some (.tup (k.map kV)) ∧ H' = upd H T (.tup [.ref b, v]), fun i H => H d = some (.frz o (.dT kvs)) ∧ kvs.length ≤ i⟩
section
variable {X : Cx} {pins : List (Addr × Obj)} {σ : L2.St} {H : Hp} {s : Shared} {d : Addr} {o : Obj}
theorem frzV {kvs : List (List Key × V)} (I : Inv X pins σ H s) (h : H d = some (.frz o (.dT kvs))) :
    (d == sysModules) = false ∧ s.heap.get? d = some o ∧ o.ExactDict ∧ ∃ (es : Array DictEntry) (ep : Nat), o.data = .dict es ep ∧ es.size = kvs.length ∧
      ∀ (i : Nat) (k : List Key) (v : V), kvs[i]? = some (k, v) → ∃ (en : DictEntry) (q : Addr), es[i]? = some en ∧ en.key = .ref q ∧ RelV v en.val ∧ H q = some (.tup (k.map kV)) := by
  obtain ⟨hd, z, hs, xs, pr, o', es, ep, ho, hx, hdt, he, _⟩ := I.hok d _ h
  rw [hd] at ho
  cases ho
  refine ⟨hs, hd, hx, es, ep, hdt, ?_, fun i k v e => ?_⟩
  · have l1 : es.size = xs.length := size_of_entries he
    have l2 : kvs.length = xs.length := Paired.length pr
    omega
  · obtain ⟨b, hb, e1, e2, e3⟩ := LiI.paired_get pr e
    have q := entry_at he i
    rw [hb] at q
    exact ⟨_, b.2.1, q, rfl, e3, e2⟩
end
section
variable {P : Program} {w : World} {K : PySem.W.Frag} {d : Addr} {o : Obj} {es : Array DictEntry} {ep : Nat}
theorem turn_itemsT {kvs : List (List Key × V)} {elts : List Expr} {kk : Nat} {tpos : Pos} (it : Addr) (hod : o.data = .dict es ep) :
    Turn P w K (.Tuple elts kk tpos) (Itit d o kvs) [it] it (fun i h => ∃ ok ov, IsItemIter h it d i kvs.length ep ok ov) where
  mem := by simp
  obj := fun i h st b hb => by
    have e : b = it := by simpa using hb
    subst e
    obtain ⟨ok, ov, e⟩ := st
    exact ⟨_, e, fun v z => nomatch z⟩
  keep := fun i h h' st k => let ⟨ok, ov, e⟩ := st; ⟨ok, ov, k it (by simp) _ e⟩
  item := by
    intro X hP hw hK hc i pins s σ H E I hf st hg
    subst hP hw hK
    obtain ⟨hd, hi⟩ := hg
    obtain ⟨hs, hgd, hx, es', ep', hdt, hsz, ent⟩ := frzV I hd
    rw [hod] at hdt
    cases hdt
    obtain ⟨⟨k, v⟩, hkv⟩ : ∃ p, kvs[i]? = some p := ⟨kvs[i], List.getElem?_eq_getElem hi⟩
    obtain ⟨en, q, hen, hkey, hval, hq⟩ := ent i k v hkv
    obtain ⟨ok, ov, he⟩ := st
    rw [← hsz] at he
    have hlt : it < s.heap.objs.size := Heap.lt_size he
    have hie : i < es.size := by omega
    have een : es[i] = en := by rw [Array.getElem?_eq_getElem hie] at hen; exact Option.some.inj hen
    refine wpAny_pyNext_items_item_raw he ⟨o, hgd, hx, hod⟩ hie fun h' ho hT hz hk => ?_
    rw [een] at ho hT
    refine ⟨_, rfl, wpAny_letOwnedTupleGo_items (s := { s with heap := h' }) ho fun h'' he' sb => ?_⟩
    have hT2 : h''.get? s.heap.objs.size = some { cls := .type "tuple", data := .seq #[en.key, en.val] } := (sb.2 _ (Nat.ne_of_gt hlt)).trans hT
    have new : ObjOk X.prog X.w (upd H s.heap.objs.size (.tup [.ref q, v])) h'' s.heap.objs.size (.tup [.ref q, v]) :=
      ⟨by show 2 ≤ sizeLine; decide, [en.key, en.val], .cons hkey (.cons hval .nil), ⟨_, hT2, rfl, _, rfl⟩⟩
    have I1 : Inv X pins σ (upd H s.heap.objs.size (.tup [.ref q, v])) { s with heap := h'' } :=
      I.turnedNew (t' := s.toks) (ch := [it]) (fun b ob hb e => (sb.2 b (by simpa using hb)).trans (hk b ob (by simpa using hb) e)) hf (Nat.le_refl _) new
    refine ⟨.ref s.heap.objs.size, _, I1, rfl, ⟨_, q, k, v, hkv, rfl, I.hok.fresh (Nat.le_refl _), hq, rfl⟩, ⟨en.key, en.val, ?_⟩, fun b hb => ?_⟩
    · rw [← hsz]; exact he'
    · have e : b = it := by simpa using hb
      rw [e, upd_ne (Nat.ne_of_lt hlt)]
      exact (hf it (by simp)).1
  done := by
    intro X hP hw hK hc i pins s σ H E I hf st hg
    subst hP hw hK
    obtain ⟨hd, hi⟩ := hg
    obtain ⟨f0, f1, f2, f3, f4, f5⟩ := hf it (by simp)
    obtain ⟨hs, hgd, hx, es', ep', hdt, hsz, ent⟩ := frzV I hd
    rw [hod] at hdt
    cases hdt
    obtain ⟨ok, ov, he⟩ := st
    rw [← hsz] at he
    exact wpAny_pyNext_items_end_raw (I.ok.hd hc) he ⟨o, hgd, hx, hod⟩ (by omega) fun h' eb => ⟨rfl, I.turned (t' := s.toks) (fun b ob hb e => eb b ob hb e) f0 f1 f3 f4 f5⟩
  self := fun A i s Q E st h => let ⟨_, _, e⟩ := st; PySem.W.kcp_self e h
end
/-- the dict is locked -/
def iItemsT (td : TE) : TI := fun σ H R => td σ H fun x H1 => ∃ d o kvs, x = .ref d ∧ H1 d = some (.frz o (.dT kvs)) ∧ R (Itit d o kvs) H1
section
variable {X : Cx} {e : Expr} {td : TE} {apos cpos : Pos}
theorem pi_itemsT {elts : List Expr} {kk : Nat} {tpos : Pos} (he : PE X e td) (hbase : attributeBase e "items" X.env (eval e X.env) = eval e X.env := by rfl) (hline : (apos.endLine == cpos.line) = true := by rfl) :
    PI X (.Tuple elts kk tpos) (.Call (.Attribute e "items" apos) [] [] cpos) (iItemsT td) := by
  refine ⟨fun pins s σ H R I h => ?_⟩
  refine wpAny_Call_method (T := "dict") (id := "dict.items") hbase rfl hline F.plainAttrs_dict F.slot_dict_items F.type_dict_items (thn (he.run pins s σ H _ I h) fun u s1 ⟨x, H1, I1, rx, d, o, kvs, ex, hd, q⟩ => ?_)
  subst ex
  obtain rfl : u = Value.ref d := rx
  obtain ⟨hs, hgd, hx, es, ep, hdt, hsz, ent⟩ := frzV I1 hd
  have raw : s1.heap.DictRaw d es ep := ⟨o, hgd, hx, hdt⟩
  have ht : s1.TypeIs (.ref d) "dict" := raw.typeIs
  refine ⟨ht, fun b eb => ?_, ?_⟩
  · cases eb
    exact ⟨o, hgd, hx.2.1⟩
  have I2 : Inv X pins σ H1 { s1 with heap := s1.heap.push { cls := .type "dict_items", data := .fields #[.ref d] } } := I1.kept (t' := s1.toks) fun b ob q => Heap.get?_push_of_some _ q
  have fin : wpAny (model X.prog X.w) X.A (pyIter (.ref s1.heap.objs.size)) (PIE X pins σ (.Tuple elts kk tpos) R) X.xe { s1 with heap := s1.heap.push { cls := .type "dict_items", data := .fields #[.ref d] } } := by
    refine wpAny_pyIter_items_raw (d := d) ⟨_, Heap.get?_push_size _ rfl, rfl, rfl⟩ (raw.push _) (pi_one (tk := s1.toks) I2 _ (turn_itemsT _ hdt) ⟨.none, .none, ?_⟩ q)
    rw [← hsz]
    exact Heap.get?_push_size _ rfl
  show wpAny _ _ (callWith cpos (.builtin "dict.items") [.ref d] [] []) _ X.xe s1
  exact method_meetsIn F.slot_dict_items F.entry_dict_items rfl (PySem.evalArgs_none ⟨rfl, ht, F.args_dict_items_1 _, _, PySem.meets_dict_items_raw d hs, ⟨es, ep, raw⟩, fin⟩)
end
/-- a comprehension over the items -/
theorem lc_itemsT {d : Addr} {o : Obj} {kvs : List (List Key × V)} {g : TG} {tt : TT} {te : TE} {vs : List Nat} {σ : L2.St} {H1 : Hp} {D : Addr} {Qd : Hp → Prop} (Pv : Nat → Hp → Prop) (h0 : Pv 0 (upd H1 D (.lst []))) (hl : ∀ i H, i ≤ kvs.length → Pv i H → H d = some (.frz o (.dT kvs)))
    (hs : ∀ i T b k v H, kvs[i]? = some (k, v) → Pv i H → H T = none → H b = some (.tup (k.map kV)) → g (.ref T) (wipe σ vs) (upd H T (.tup [.ref b, v])) fun σ2 H2 => wipe σ2 vs = wipe σ vs ∧ tt σ2 H2 fun c H3 =>
      if c = true then te σ2 H3 fun y H4 => ∃ acc, H4 D = some (.lst acc) ∧ acc.length < sizeLine ∧ Pv (i + 1) (upd H4 D (.lst (acc ++ [y]))) else Pv (i + 1) H3) (hd : ∀ H, Pv kvs.length H → Qd H) :
    ∃ W : Nat → Nat → Hp → Prop, (∃ m, W 0 m (upd H1 D (.lst []))) ∧ ∀ i m H, W i m H →
      ((Itit d o kvs).stop i H ∧ Qd H) ∨ ((Itit d o kvs).go i H ∧ ∃ Nx : Hp → Prop, (∀ H', Nx H' → ∃ m', m' < m ∧ W (i + 1) m' H') ∧ ∀ x H', (Itit d o kvs).yld i H x H' → g x (wipe σ vs) H' fun σ2 H2 => wipe σ2 vs = wipe σ vs ∧ tt σ2 H2 fun c H3 =>
        if c = true then te σ2 H3 fun y H4 => ∃ acc, H4 D = some (.lst acc) ∧ acc.length < sizeLine ∧ Nx (upd H4 D (.lst (acc ++ [y]))) else Nx H3) := by
  refine ⟨fun i m H => m = kvs.length - i ∧ i ≤ kvs.length ∧ Pv i H, ⟨kvs.length, by simp, Nat.zero_le _, h0⟩, ?_⟩
  rintro i m H ⟨rfl, hi, p⟩
  by_cases hlt : i < kvs.length
  · refine .inr ⟨⟨hl i H hi p, hlt⟩, Pv (i + 1), fun H' p' => ⟨kvs.length - (i + 1), by omega, rfl, hlt, p'⟩, fun x H' y => ?_⟩
    obtain ⟨T, b, k, v, h1, rfl, h2, h3, rfl⟩ := y
    exact hs i T b k v H h1 p h2 h3
  · have e : i = kvs.length := by omega
    subst e
    exact .inl ⟨⟨hl _ H hi p, Nat.le_refl _⟩, hd H p⟩
end Bt
namespace Bt
namespace ST
open PySem PySem.Spec PyProof.Rows L2
/-! ### sets whose members are tuples of texts and ints: the machine's side -/
abbrev hk (P : Program) (w : World) (k : List Key) : Int := tupleKeyHash (mixKind P w) k
abbrev IsK (P : Program) (w : World) (h : Heap) (k : List Key) (a : Addr) : Prop := IsTupleKey (mixKind P w) h k a
section
variable {P : Program} {w : World} {A : Around} {E : Value → Shared → Prop} {s : Shared}
def Plain (v : Value) : Prop := (∃ i t, v = .int i t) ∨ ∃ x t, v = .str x t
theorem plains {k : List Key} {vs : List Value} (h : ItemsAre (mixKind P w) k vs) : ∀ v ∈ vs, Plain v := by
  induction h with
  | nil => exact fun v hv => nomatch hv
  | cons h1 _ ih =>
    intro v hv
    rcases List.mem_cons.mp hv with rfl | hv
    · rcases keyIs_shape h1 with ⟨i, t, _, e⟩ | ⟨x, t, _, e⟩
      · exact .inl ⟨i, t, e⟩
      · exact .inr ⟨x, t, e⟩
    · exact ih v hv
theorem aClass_key {k : List Key} {b : Addr} {Q : Bool → Shared → Prop} (hb : IsK P w s.heap k b) (h : Q false s) : wpAny (model P w) A (ofAClassStatement 8 (.ref b)) Q E s := by
  have ty := hb.typeIs
  obtain ⟨o, items, n, ho, _, hd, hi⟩ := hb
  unfold ofAClassStatement
  refine wpAny_bind (wpAny_typeOf ty ?_)
  have et : (("tuple" : String) == "tuple") = true := by decide
  simp only [et, if_true, Bool.not_true, Bool.false_eq_true, if_false]
  show wpAny _ _ (seqItems? (.ref b) >>= _) _ _ s
  refine wpAny_bind (wpAny_seqItems ho hd (wpAny_bind ?_))
  show wpAny _ _ (forIn items _ _) _ _ s
  rw [← Array.forIn_toList]
  refine wpAny_forIn_list _ (fun rest r s' => r.1 = none ∧ s' = s ∧ ∀ v ∈ rest, Plain v) _ (fun v rest r s' => ?_) (fun r s' => ?_) _ _ ⟨rfl, rfl, plains hi⟩
  · rintro ⟨hr, rfl, all⟩
    have e : ofAClassStatement 7 v = pure false := by
      rcases all v List.mem_cons_self with ⟨i, t, rfl⟩ | ⟨x, t, rfl⟩ <;> rfl
    rw [e]
    refine wpAny_bind (wpAny_pure ?_)
    simp only [Bool.false_eq_true, if_false]
    exact wpAny_pure ⟨rfl, rfl, fun u hu => all u (List.mem_cons_of_mem _ hu)⟩
  · obtain ⟨r1, r2⟩ := r
    rintro ⟨hr, rfl, _⟩
    obtain rfl : r1 = none := hr
    exact wpAny_pure h
theorem byValue_key {k : List Key} {b : Addr} {Q : Bool → Shared → Prop} (hb : IsK P w s.heap k b) (h : ∀ c, Q c s) : wpAny (model P w) A (hashByValue 8 (.ref b)) Q E s := by
  have ty := hb.typeIs
  obtain ⟨o, items, n, ho, _, hd, hi⟩ := hb
  unfold hashByValue
  refine wpAny_bind (wpAny_specialOf ty F.slot_tuple_hash.lookup ?_)
  show wpAny _ _ (seqItems? (.ref b) >>= _) _ _ s
  refine wpAny_bind (wpAny_seqItems ho hd (wpAny_bind ?_))
  show wpAny _ _ (forIn items _ _) _ _ s
  rw [← Array.forIn_toList]
  refine wpAny_forIn_list _ (fun rest r s' => s' = s ∧ ∀ v ∈ rest, Plain v) _ (fun v rest r s' => ?_) (fun r s' => ?_) _ _ ⟨rfl, plains hi⟩
  · rintro ⟨rfl, all⟩
    have e : ∃ c, hashByValue 7 v = pure c := by
      rcases all v List.mem_cons_self with ⟨i, t, rfl⟩ | ⟨x, t, rfl⟩ <;> exact ⟨_, rfl⟩
    obtain ⟨c, e⟩ := e
    rw [e]
    refine wpAny_bind (wpAny_pure ?_)
    cases c <;> simp only [Bool.not_true, Bool.not_false, if_true, Bool.false_eq_true, if_false]
    · exact wpAny_pure (wpAny_pure (h _))
    · exact wpAny_pure ⟨rfl, fun u hu => all u (List.mem_cons_of_mem _ hu)⟩
  · rintro ⟨rfl, _⟩
    obtain ⟨r1, r2⟩ := r
    cases r1 with
    | none => exact wpAny_pure (h _)
    | some c => exact wpAny_pure (h c)
/-- looking a tuple up among tuples shows nothing of the table -/
theorem unseen {k : List Key} {b : Addr} {Q : Bool → Shared → Prop} (hb : IsK P w s.heap k b) {ys : List Value} (hy : ∀ y ∈ ys, ∃ k' c, y = Value.ref c ∧ IsK P w s.heap k' c) (h : Q false s) : wpAny (model P w) A (searchCouldBeSeen (.ref b) ys) Q E s := by
  unfold searchCouldBeSeen
  refine wpAny_bind (wpAny_forIn_list _ (fun rest r s' => r.1 = none ∧ s' = s ∧ ∀ y ∈ rest, ∃ k' c, y = Value.ref c ∧ IsK P w s.heap k' c) _ (fun v rest r s' => ?_) (fun r s' => ?_) _ _ ⟨rfl, rfl, hy⟩)
  · rintro ⟨hr, rfl, all⟩
    obtain ⟨k', c, rfl, hc⟩ := all v List.mem_cons_self
    have more : ∀ y ∈ rest, ∃ k' c, y = Value.ref c ∧ IsK P w s'.heap k' c := fun u hu => all u (List.mem_cons_of_mem _ hu)
    dsimp only
    by_cases z : (b == c || (carriedByValue (.ref b) && carriedByValue (.ref c))) = true
    · exact wp_if_pos z (wpAny_pure ⟨rfl, rfl, more⟩)
    · refine wp_if_neg z (wpAny_bind (wpAny_eqIsQuiet_tuple hb ?_))
      simp only [Bool.not_true, Bool.false_eq_true, if_false]
      refine wpAny_bind (wpAny_eqIsQuiet_tuple hc ?_)
      simp only [Bool.not_true, Bool.false_eq_true, if_false]
      refine wpAny_bind (aClass_key hb ?_)
      simp only [Bool.false_eq_true, if_false]
      refine wpAny_bind (aClass_key hc ?_)
      simp only [Bool.false_eq_true, if_false]
      exact wpAny_pure ⟨rfl, rfl, more⟩
  · obtain ⟨r1, r2⟩ := r
    rintro ⟨hr, rfl, _⟩
    obtain rfl : r1 = none := hr
    exact wpAny_pure h
/-- the set at a: its members with their places -/
structure TS (P : Program) (w : World) (h : Heap) (a : Addr) (L : List (Addr × List Key)) (es : Array (Int × Value)) (ep : Nat) (t : SetTable) : Prop where
  ob : ∃ o, h.get? a = some o ∧ o.ExactSet ∧ o.data = .set es ep t
  rows : es.toList = L.map fun p => (hk P w p.2, Value.ref p.1)
  tab : TabOk t (L.map fun p => hk P w p.2)
  nd : (L.map (·.2)).Nodup
  mem : ∀ p ∈ L, IsK P w h p.2 p.1
  room : L.length * 5 < t.mask * 3
  few : L.length < 64
variable {a : Addr} {L : List (Addr × List Key)} {es : Array (Int × Value)} {ep : Nat} {t : SetTable}
theorem TS.size (R : TS P w s.heap a L es ep t) : es.size = L.length := by
  rw [← Array.length_toList, R.rows, List.length_map]
theorem TS.places (R : TS P w s.heap a L es ep t) : t.place.size = L.length := by
  rw [R.tab.sz, List.length_map]
theorem TS.fits (R : TS P w s.heap a L es ep t) : t.fits es.size = true := by
  have h1 := R.places
  have h2 := R.size
  have h3 := R.room
  unfold SetTable.fits SetTable.fill
  rw [R.tab.dm, Bool.and_eq_true, beq_iff_eq, decide_eq_true_eq]
  exact ⟨by omega, by show t.place.size + 0 ≤ t.mask; omega⟩
theorem TS.row (R : TS P w s.heap a L es ep t) {i : Nat} {p : Addr × List Key} (h : L[i]? = some p) : es[i]? = some (hk P w p.2, Value.ref p.1) := by
  rw [← Array.getElem?_toList, R.rows, List.getElem?_map, h]
  rfl
theorem TS.stays (R : TS P w s.heap a L es ep t) : ¬ t.gaveWay = true := by
  unfold SetTable.gaveWay
  rw [mask_odd R.tab.mok]
  decide
/-- the c-th step of the way of k -/
abbrev stp (t : SetTable) (h : Int) (c : Nat) : SetTable.Probe := nth t.mask (runAt t.mask (SetTable.bits h % (t.mask + 1)) (SetTable.bits h)) c
theorem stp_clean (t : SetTable) (h : Int) (c : Nat) : (stp t h c).dummy = none := by
  have go : ∀ (n : Nat) (p : SetTable.Probe), p.dummy = none → (nth t.mask p n).dummy = none := fun n => by
    induction n with
    | zero => exact fun p e => e
    | succ n ih =>
      intro p e
      refine ih (adv t.mask p) ?_
      unfold adv
      split <;> exact e
  exact go c _ rfl
theorem stp_add (t : SetTable) (h : Int) (c q : Nat) : nth t.mask (stp t h c) q = stp t h (c + q) := (nth_add t.mask c _ q).symm
theorem srch_go (R : TS P w s.heap a L es ep t) {x : Addr} {k : List Key} (hx : IsK P w s.heap k x) (hu : A.units < cLine) (adding : Bool) {K : Nat} (hKf : K < 10 * SetTable.turns t.mask)
    (hK : way t.mask (hk P w k) K ∉ t.place.toList) (hKb : ∀ c, c < K → way t.mask (hk P w k) c ∈ t.place.toList) {Q : SetFound → Shared → Prop}
    (hin : k ∈ L.map (·.2) → ∀ r, (adding = true → r = none) → (adding = false → r.isSome = true) → Q (.there r) s) (hout : k ∉ L.map (·.2) → Q (.free (way t.mask (hk P w k) K) false) s) :
    ∀ (f c : Nat) (st : Option SetTable.Probe), st.getD (t.probeStart (hk P w k)) = stp t (hk P w k) c → c ≤ K → K - c < f →
      (∀ (i : Nat) p, L[i]? = some p → p.2 = k → ∃ c', c ≤ c' ∧ c' < K ∧ t.place.toList[i]? = some (way t.mask (hk P w k) c')) →
      wpAny (model P w) A (setSearchFrom a (.ref x) (hk P w k) adding f st) Q E s := by
  obtain ⟨o, ho, hex, hd⟩ := R.ob
  intro f
  induction f with
  | zero => exact fun c st _ _ hf _ => absurd hf (Nat.not_lt_zero _)
  | succ f ih =>
    intro c st hst hc hf hre
    rw [setSearchFrom_succ]
    refine wpAny_bind (wpAny_setState_of ho hd R.fits ?_)
    dsimp only
    refine wp_if_neg R.stays ?_
    have hcK : c + (K - c) = K := by omega
    have rowH : ∀ {i : Nat} {p : Addr × List Key}, L[i]? = some p → (es[i]?.map (·.1)).getD 0 = hk P w p.2 := fun hp => by rw [R.row hp]; rfl
    have found : ∀ (i : Nat) p, L[i]? = some p → p.2 = k → (es[i]?.map (·.1)).getD 0 = hk P w k := fun i p hp e => by rw [rowH hp, e]
    rcases go_spec t R.tab.ris R.tab.dm (fun i => (es[i]?.map (·.1)).getD 0) (hk P w k) (10 * SetTable.turns t.mask) (K - c) (stp t (hk P w k) c) (stp_clean _ _ _) (by omega)
      (fun q hq => by rw [stp_add]; exact hKb (c + q) (by omega)) (by rw [stp_add, hcK]; exact hK) with ⟨q, i, hq, hi, hh, hno, hpr⟩ | ⟨hno, hpr⟩
    · rw [stp_add] at hi
      have hpr' : t.probe (fun i => (es[i]?.map (·.1)).getD 0) (hk P w k) (st.getD (t.probeStart (hk P w k))) = some (.candidate (stp t (hk P w k) (c + q)).j i (stp t (hk P w k) (c + (q + 1)))) := by
        rw [hst, ← stp_add, ← stp_add]
        exact hpr
      rw [hpr']
      dsimp only
      have hil : i < L.length := by
        have h1 : i < t.place.toList.length := (List.getElem?_eq_some_iff.mp hi).1
        rw [Array.length_toList, R.places] at h1
        exact h1
      obtain ⟨p, hp⟩ : ∃ p, L[i]? = some p := ⟨_, List.getElem?_eq_getElem hil⟩
      have hpt := R.mem p (List.mem_of_getElem? hp)
      have live : t.slot (stp t (hk P w k) (c + q)).j = .live i := slot_live R.tab.ris hi
      have rest : wpAny (model P w) A (searchRest a (.ref x) (hk P w k) adding f es t (stp t (hk P w k) (c + q)).j i (stp t (hk P w k) (c + (q + 1)))) Q E s := by
        unfold searchRest
        rw [R.row hp]
        dsimp only
        refine wpAny_bind (wpAny_holding (wpAny_eqBool_tuple hu hpt hx ?_))
        refine wpAny_bind (wpAny_setState_of ho hd R.fits ?_)
        dsimp only
        by_cases hkk : p.2 = k
        · have hm : k ∈ L.map (·.2) := List.mem_map.mpr ⟨p, List.mem_of_getElem? hp, hkk⟩
          cases adding with
          | true => exact wp_if_pos (by simp [hkk]) (wpAny_pure (hin hm _ (fun _ => rfl) (fun z => nomatch z)))
          | false =>
            refine wp_if_neg (by simp) ?_
            rw [sameMem]
            dsimp only
            simp only [if_true, live, R.row hp]
            refine wpAny_bind (wpAny_isSame_ref_self (wpAny_bind (wpAny_pure ?_)))
            simp only [if_true]
            exact wp_if_pos (by simp [hkk]) (wpAny_pure (hin hm _ (fun z => nomatch z) (fun _ => rfl)))
        · refine wp_if_neg (by simp [hkk]) ?_
          rw [sameMem]
          dsimp only
          simp only [if_true, live, R.row hp]
          refine wpAny_bind (wpAny_isSame_ref_self (wpAny_bind (wpAny_pure ?_)))
          simp only [if_true]
          refine wp_if_neg (by simp [hkk]) ?_
          refine ih (c + (q + 1)) _ rfl (by omega) (by omega) fun i0 p0 h0 hk0 => ?_
          obtain ⟨c', a1, a2, a3⟩ := hre i0 p0 h0 hk0
          refine ⟨c', ?_, a2, a3⟩
          rcases Nat.lt_trichotomy c' (c + q) with z | z | z
          · refine absurd (found i0 p0 h0 hk0) (hno (c' - c) i0 (by omega) ?_)
            rw [stp_add, show c + (c' - c) = c' by omega]
            exact a3
          · rw [z] at a3
            have := slot_live R.tab.ris a3
            rw [show t.slot (way t.mask (hk P w k) (c + q)) = .live i from live] at this
            cases this
            rw [hp] at h0
            cases h0
            exact absurd hk0 hkk
          · omega
      by_cases hl : t.led = true
      · exact wp_if_neg (by simp [hl]) rest
      · refine wp_if_pos (by simp [hl]) (wpAny_bind (unseen hx (fun y hy => ?_) (wp_if_neg (by decide) rest)))
        obtain ⟨e, he, rfl⟩ := List.mem_map.mp hy
        have he2 : e ∈ es.toList := by
          have : e ∈ es ∧ e.1 = hk P w k := by simpa using he
          simpa using this.1
        rw [R.rows] at he2
        obtain ⟨p2, hp2, rfl⟩ := List.mem_map.mp he2
        exact ⟨p2.2, p2.1, rfl, R.mem p2 hp2⟩
    · have hpr' : t.probe (fun i => (es[i]?.map (·.1)).getD 0) (hk P w k) (st.getD (t.probeStart (hk P w k))) = some (.empty (stp t (hk P w k) K).j none) := by
        rw [hst]
        have := hpr
        rw [stp_add, hcK] at this
        exact this
      rw [hpr']
      refine wpAny_pure (hout fun hm => ?_)
      obtain ⟨p0, h0, hk0⟩ := List.mem_map.mp hm
      obtain ⟨i0, h00⟩ := List.mem_iff_getElem?.mp h0
      obtain ⟨c', a1, a2, a3⟩ := hre i0 p0 h00 hk0
      refine absurd (found i0 p0 h00 hk0) (hno (c' - c) i0 (by omega) ?_)
      rw [stp_add, show c + (c' - c) = c' by omega]
      exact a3
theorem srch (R : TS P w s.heap a L es ep t) {x : Addr} {k : List Key} (hx : IsK P w s.heap k x) (hu : A.units < cLine) (adding : Bool) {Q : SetFound → Shared → Prop}
    (hin : k ∈ L.map (·.2) → ∀ r, (adding = true → r = none) → (adding = false → r.isSome = true) → Q (.there r) s)
    (hout : k ∉ L.map (·.2) → ∀ K, way t.mask (hk P w k) K ∉ t.place.toList → (∀ c, c < K → way t.mask (hk P w k) c ∈ t.place.toList) → Q (.free (way t.mask (hk P w k) K) false) s) :
    wpAny (model P w) A (setSearch a (.ref x) (hk P w k) adding) Q E s := by
  have hroom := R.room
  obtain ⟨K, hKf, hK, hKb⟩ := R.tab.first (by rw [List.length_map]; omega) (hk P w k)
  have hbig : K < 100000 := by
    have : 10 * SetTable.turns t.mask ≤ 1420 := by
      unfold SetTable.turns
      rcases R.tab.mok with e | e | e <;> omega
    omega
  unfold setSearch
  refine srch_go R hx hu adding hKf hK hKb hin (fun z => hout z K hK hKb) 100000 0 none rfl (Nat.zero_le _) (by omega) fun i p hp e => ?_
  have hi : (L.map fun p => hk P w p.2)[i]? = some (hk P w k) := by rw [List.getElem?_map, hp, ← e]; rfl
  obtain ⟨j, hj⟩ : ∃ j, t.place.toList[i]? = some j := ⟨_, List.getElem?_eq_getElem (by
    rw [Array.length_toList, R.places]
    exact (List.getElem?_eq_some_iff.mp hp).1)⟩
  obtain ⟨c, hc, ec⟩ := R.tab.before hK hi hj
  exact ⟨c, Nat.zero_le _, hc, by rw [hj, ec]⟩
end
end ST
end Bt
namespace Bt
namespace ST
open PySem PySem.Spec PyProof.Rows L2
/-! ### a tuple put into a set of tuples -/
section
variable {α β : Type}
theorem range_pick (L : List α) : (List.range L.length).filterMap (fun i => L[i]?) = L := by
  have go : ∀ n, n ≤ L.length → (List.range n).filterMap (fun i => L[i]?) = L.take n := fun n => by
    induction n with
    | zero => exact fun _ => rfl
    | succ n ih =>
      intro hn
      rw [List.range_succ, List.filterMap_append, ih (by omega), List.take_add_one]
      congr 1
  rw [go _ (Nat.le_refl _), List.take_length]
theorem pick_perm (L : List α) {ord : List Nat} (h : ord.Perm (List.range L.length)) : (ord.filterMap fun i => L[i]?).Perm L := by
  have := h.filterMap (fun i => L[i]?)
  rwa [range_pick] at this
theorem pick_map (L : List α) (g : α → β) (ord : List Nat) : (ord.filterMap fun i => (L.map g)[i]?) = (ord.filterMap fun i => L[i]?).map g := by
  rw [List.map_filterMap]
  congr 1
  funext i
  rw [List.getElem?_map]
theorem pick_getD (L : List α) (g : α → β) (z : β) : ∀ ord : List Nat, (∀ i ∈ ord, i < L.length) → (ord.map fun i => (L.map g).getD i z) = (ord.filterMap fun i => L[i]?).map g
  | [], _ => rfl
  | i :: ord, h => by
    have hi := h i List.mem_cons_self
    rw [List.map_cons, pick_getD L g z ord fun j hj => h j (List.mem_cons_of_mem _ hj), List.filterMap_cons_some (List.getElem?_eq_getElem hi), List.map_cons]
    congr 1
    rw [List.getD_eq_getElem?_getD, List.getElem?_map, List.getElem?_eq_getElem hi]
    rfl
theorem ins_perm (L : List α) (p : Nat) (x : α) : (L.take p ++ x :: L.drop p).Perm (x :: L) := by
  refine List.perm_middle.trans ?_
  rw [List.take_append_drop]
end
section
variable {P : Program} {w : World} {A : Around} {E : Value → Shared → Prop} {s : Shared} {a : Addr} {L : List (Addr × List Key)} {es : Array (Int × Value)} {ep : Nat} {t : SetTable}
theorem key_same {h h' : Heap} {k : List Key} {b : Addr} {o : Obj} (hb : IsK P w h k b) (ho : h.get? a = some o) (hd : o.data = .set es ep t) (hs : Heap.SameBut a h h') : IsK P w h' k b := by
  obtain ⟨o', items, n, h1, h2, h3, h4⟩ := hb
  refine ⟨o', items, n, (hs.2 b fun z => ?_).trans h1, h2, h3, h4⟩
  rw [z, ho] at h1
  cases h1
  rw [hd] at h3
  cases h3
theorem relay {o : Obj} (ho : s.heap.get? a = some o) (hex : o.ExactSet) (hd : o.data = .set es ep t) (hrows : es.toList = L.map fun p => (hk P w p.2, Value.ref p.1)) (hsz : t.place.size = es.size) (hdm : t.dummies = #[]) (hfl : es.size ≤ t.mask)
    (nd : (L.map (·.2)).Nodup) (mem : ∀ p ∈ L, IsK P w s.heap p.2 p.1) (few : L.length < 64) {wanted M : Nat}
    (hw : SetTable.sizeAbove wanted - 1 = M) (hM : MaskOk M) (hw2 : SetTable.sizeAbove wanted ≤ 128) (hn : L.length * 5 < M * 3) {Q : Unit → Shared → Prop}
    (hQ : ∀ h' L' es' ep' t', Heap.SameBut a s.heap h' → TS P w h' a L' es' ep' t' → L'.Perm L → Q () { s with heap := h' }) : wpAny (model P w) A (setRelay a wanted) Q E s := by
  have hsl : es.size = L.length := by rw [← Array.length_toList, hrows, List.length_map]
  have fits : t.fits es.size = true := by
    unfold SetTable.fits SetTable.fill
    rw [hdm, Bool.and_eq_true, beq_iff_eq, decide_eq_true_eq]
    exact ⟨hsz, by show t.place.size + 0 ≤ t.mask; omega⟩
  obtain ⟨t', order, e, hp, T, em, _, _, ed⟩ := relaid_ok t (hs := es.map (·.1)) (wanted := wanted) hw hM (by rw [Array.size_map, hsl]; omega)
  rw [Array.size_map, hsl] at hp
  have pm := pick_perm L hp
  have r1 : (order.filterMap (es[·]?)).toList = (order.toList.filterMap fun i => L[i]?).map fun p => (hk P w p.2, Value.ref p.1) := by
    rw [Array.toList_filterMap, ← pick_map, ← hrows]
    congr 1
    funext i
    rw [Array.getElem?_toList]
  have r3 : (order.toList.map fun i => (es.map (·.1)).getD i 0) = (order.toList.filterMap fun i => L[i]?).map fun p => hk P w p.2 := by
    rw [← pick_getD L (fun p => hk P w p.2) 0 order.toList fun i hi => List.mem_range.mp (hp.mem_iff.mp hi)]
    congr 1
    funext i
    have ee : es.map (·.1) = (L.map fun p => hk P w p.2).toArray := by
      apply Array.toList_inj.mp
      rw [Array.toList_map, hrows, List.map_map]
      rfl
    rw [ee]
    simp [Array.getD_eq_getD_getElem?, List.getD_eq_getElem?_getD]
  rw [r3] at T
  have hs2 : (order.filterMap (es[·]?)).size = es.size := by
    rw [← Array.length_toList, r1, List.length_map, pm.length_eq, hsl]
  rw [setRelay_eq]
  refine wpAny_bind (wpAny_setState_of ho hd fits ?_)
  dsimp only
  refine wp_if_neg (by rw [sizeLine_eq]; omega) ?_
  rw [e]
  dsimp only
  refine wpAny_bind (wp_if_neg (by rw [hs2]; simp) ?_)
  refine wpAny_pure ?_
  dsimp only
  refine wpAny_storeSet_of ho hd ?_ (by rw [hs2, hsl, sizeLine_eq]; omega)
  have sb : Heap.SameBut a s.heap (s.heap.update a (Obj.putSet (order.filterMap (es[·]?)) t')) := Heap.SameBut.update ..
  refine hQ _ _ _ (ep + 1) t' sb ⟨⟨_, store_at ho hd, ⟨hex.1, hex.2.1, hex.2.2⟩, rfl⟩, r1, T, (pm.map (·.2)).nodup_iff.mpr nd, fun p hpm => key_same (mem p (pm.mem_iff.mp hpm)) ho hd sb, ?_, ?_⟩ pm
  · rw [pm.length_eq, em]
    exact hn
  · rw [pm.length_eq]
    exact few
theorem put_in (R : TS P w s.heap a L es ep t) {x : Addr} {k : List Key} (hx : IsK P w s.heap k x) (hu : A.units < cLine) (few : L.length + 1 < 64) {Q : Bool → Shared → Prop}
    (hQ : ∀ b h' L' es' ep' t', Heap.SameBut a s.heap h' → TS P w h' a L' es' ep' t' → (k ∈ L.map (·.2) → L' = L) → (k ∉ L.map (·.2) → L'.Perm ((x, k) :: L)) → Q b { s with heap := h' }) :
    wpAny (model P w) A (setAddHashed a (.ref x) (hk P w k)) Q E s := by
  obtain ⟨o, ho, hex, hd⟩ := R.ob
  have hsl := R.size
  have hroom := R.room
  unfold setAddHashed
  refine wpAny_holding ?_
  rw [show (100000 : Nat) = 99999 + 1 from rfl, setAddHashedIn_succ]
  refine wpAny_bind (wpAny_setState_of ho hd R.fits ?_)
  dsimp only
  refine wp_if_neg (by simp [byScan, Value.scannable]) ?_
  refine wpAny_bind (srch R hx hu true (fun hm r hr _ => ?_) fun hm K hK hb => ?_)
  · exact wpAny_pure (hQ false s.heap L es ep t (Heap.SameBut.refl a s.heap) R (fun _ => rfl) fun z => absurd hm z)
  · dsimp only
    refine wpAny_bind (wpAny_setState_of ho hd R.fits ?_)
    dsimp only
    obtain ⟨q1, q2, q3, q4, _, _, _, _, q9⟩ := R.tab.put hK hb
    generalize hpt : t.put (way t.mask (hk P w k) K) = pt at q1 q3 q4 q9 ⊢
    obtain ⟨t1, p⟩ := pt
    dsimp only at q1 q3 q4 q9 ⊢
    subst q1
    have hrow : (SetTable.insertAt es (SetTable.below t.place (way t.mask (hk P w k) K)) (hk P w k, Value.ref x)).toList = (L.take (SetTable.below t.place (way t.mask (hk P w k) K)) ++ (x, k) :: L.drop (SetTable.below t.place (way t.mask (hk P w k) K))).map fun p => (hk P w p.2, Value.ref p.1) := by
      rw [SetTable.toList_insertAt, R.rows, List.map_append, List.map_cons, List.map_take, List.map_drop]
    have hmid : (L.map fun p => hk P w p.2).take (SetTable.below t.place (way t.mask (hk P w k) K)) ++ hk P w k :: (L.map fun p => hk P w p.2).drop (SetTable.below t.place (way t.mask (hk P w k) K)) =
        (L.take (SetTable.below t.place (way t.mask (hk P w k) K)) ++ (x, k) :: L.drop (SetTable.below t.place (way t.mask (hk P w k) K))).map fun p => hk P w p.2 := by
      rw [List.map_append, List.map_cons, List.map_take, List.map_drop]
    rw [hmid] at q3
    have pm := ins_perm L (SetTable.below t.place (way t.mask (hk P w k) K)) (x, k)
    generalize hes1 : SetTable.insertAt es (SetTable.below t.place (way t.mask (hk P w k) K)) (hk P w k, Value.ref x) = es1 at hrow ⊢
    generalize L.take (SetTable.below t.place (way t.mask (hk P w k) K)) ++ (x, k) :: L.drop (SetTable.below t.place (way t.mask (hk P w k) K)) = L1 at pm hrow q3
    have len : L1.length = L.length + 1 := pm.length_eq
    have size1 : es1.size = L.length + 1 := by rw [← Array.length_toList, hrow, List.length_map, len]
    have nd1 : (L1.map (·.2)).Nodup := (pm.map (·.2)).nodup_iff.mpr (by rw [List.map_cons]; exact List.nodup_cons.mpr ⟨hm, R.nd⟩)
    have after : ∀ t2 : SetTable, TabOk t2 (L1.map fun p => hk P w p.2) → t2.mask = t.mask → t2.fill = L.length + 1 → wpAny (model P w) A (do
        storeSet a es1 t2
        if (!false && t2.tooFull) = true then do
            setRelay a (SetTable.grown (es.size + 1))
            pure true
          else pure true) Q E s := fun t2 T2 m2 f2 => by
      refine wpAny_bind (wpAny_storeSet_of ho hd ?_ (by rw [size1, sizeLine_eq]; omega))
      have sb : Heap.SameBut a s.heap (s.heap.update a (Obj.putSet es1 t2)) := Heap.SameBut.update ..
      have ho1 := store_at (es' := es1) (t' := t2) ho hd
      generalize s.heap.update a (Obj.putSet es1 t2) = h1 at sb ho1 ⊢
      have mem1 : ∀ p ∈ L1, IsK P w h1 p.2 p.1 := fun p hp => by
        rcases List.mem_cons.mp (pm.mem_iff.mp hp) with rfl | hp
        · exact key_same hx ho hd sb
        · exact key_same (R.mem p hp) ho hd sb
      by_cases hf : t2.tooFull = true
      · refine wp_if_pos (by simp [hf]) (wpAny_bind ?_)
        have full : (L.length + 1) * 5 ≥ t2.mask * 3 := by
          have h := hf
          unfold SetTable.tooFull at h
          rw [decide_eq_true_eq, f2] at h
          exact h
        have hsz1 : t2.place.size = es1.size := by rw [T2.sz, List.length_map, len, size1]
        rw [hsl]
        have two : (t.mask = 7 ∧ L.length = 4) ∨ (t.mask = 31 ∧ L.length = 18) := by
          rcases R.tab.mok with e | e | e <;> rw [m2, e] at full <;> rw [e] at hroom <;> omega
        have go : ∀ M, SetTable.sizeAbove (SetTable.grown (L.length + 1)) - 1 = M → MaskOk M → SetTable.sizeAbove (SetTable.grown (L.length + 1)) ≤ 128 → (L.length + 1) * 5 < M * 3 →
            wpAny (model P w) A (setRelay a (SetTable.grown (L.length + 1))) (fun _ s' => wpAny (model P w) A (pure true) Q E s') E { s with heap := h1 } := fun M z1 z2 z3 z4 => by
          refine relay (s := { s with heap := h1 }) ho1 ⟨hex.1, hex.2.1, hex.2.2⟩ rfl hrow hsz1 T2.dm (by rw [size1, m2]; rcases two with ⟨e, e2⟩ | ⟨e, e2⟩ <;> omega) nd1 mem1 (by rw [len]; exact few) z1 z2 z3 (by rw [len]; exact z4) ?_
          exact fun h2 L2 es2 ep2 t3 sb2 R2 pm2 => wpAny_pure (hQ true h2 L2 es2 ep2 t3 (sb.trans sb2) R2 (fun z => absurd z hm) fun _ => pm2.trans pm)
        rcases two with ⟨_, e2⟩ | ⟨_, e2⟩
        · exact go 31 (by rw [e2, size_20]) (.inr (.inl rfl)) (by rw [e2, size_20]; decide) (by omega)
        · exact go 127 (by rw [e2, size_76]) (.inr (.inr rfl)) (by rw [e2, size_76]; decide) (by omega)
      · refine wp_if_neg (by simp [hf]) (wpAny_pure (hQ true h1 L1 es1 (ep + 1) t2 sb ⟨⟨_, ho1, ⟨hex.1, hex.2.1, hex.2.2⟩, rfl⟩, hrow, T2, nd1, mem1, ?_, by rw [len]; exact few⟩ (fun z => absurd z hm) fun _ => pm))
        have h := hf
        unfold SetTable.tooFull at h
        rw [decide_eq_true_eq, f2] at h
        rw [len]
        omega
    have f1 : t1.fill = L.length + 1 := by rw [q9, List.length_map]
    have q3' : TabOk { t1 with plain := false } (L1.map fun p => hk P w p.2) := ⟨q3.ris, q3.dm, q3.sz, q3.mok, q3.bd, q3.reach⟩
    by_cases hpl : t1.plain = true
    · refine wp_if_pos hpl (wpAny_bind (byValue_key hx fun c => ?_))
      cases c
      · exact after _ q3' q4 f1
      · exact after _ q3 q4 f1
    · exact wp_if_neg hpl (wpAny_bind (wpAny_pure (after _ q3 q4 f1)))
/-- the set at a, its members told by their places; that these hold the tuples is told apart -/
def TS0 (P : Program) (w : World) (h : Heap) (a : Addr) (L : List (Addr × List Key)) : Prop := ∃ (es : Array (Int × Value)) (ep : Nat) (t : SetTable), (∃ o, h.get? a = some o ∧ o.ExactSet ∧ o.data = .set es ep t) ∧ (es.toList = L.map fun p => (hk P w p.2, Value.ref p.1)) ∧
  TabOk t (L.map fun p => hk P w p.2) ∧ (L.map (·.2)).Nodup ∧ L.length * 5 < t.mask * 3 ∧ L.length < 64
theorem TS.bare {h : Heap} (R : TS P w h a L es ep t) : TS0 P w h a L := ⟨es, ep, t, R.ob, R.rows, R.tab, R.nd, R.room, R.few⟩
theorem TS0.full {h : Heap} (R : TS0 P w h a L) (m : ∀ p ∈ L, IsK P w h p.2 p.1) : ∃ es ep t, TS P w h a L es ep t := let ⟨es, ep, t, h1, h2, h3, h4, h5, h6⟩ := R; ⟨es, ep, t, h1, h2, h3, h4, m, h5, h6⟩
def SetKO (P : Program) (w : World) (a : Addr) (L : List (Addr × List Key)) : HO := .ext fun h => TS0 P w h a L
theorem setKO_new {H : Hp} {h : Heap} (R : TS0 P w h a L) : ObjOk P w H h a (SetKO P w a L) := by
  refine ⟨R, ?_, fun h1 h2 x k => ?_⟩
  · obtain ⟨_, _, _, ⟨o, ho, _⟩, _⟩ := R
    exact ⟨o, ho⟩
  · obtain ⟨es, ep, t, ⟨o, ho, r⟩, r2⟩ := x
    exact ⟨es, ep, t, ⟨o, k o ho, r⟩, r2⟩
theorem fresh_set {h : Heap} : TS0 P w (h.push { cls := .type "set", dict := none, data := .set #[] 0 (.fresh 0 0 (!w.params.followText "set-order")) }) h.objs.size [] := by
  refine ⟨#[], 0, _, ⟨_, Heap.get?_push_size _ rfl, ⟨rfl, rfl, rfl⟩, rfl⟩, rfl, ⟨List.Pairwise.nil, rfl, rfl, .inl rfl, fun x hx => (by cases hx), fun i h j hi => (by simp at hi)⟩, List.nodup_nil, ?_, by decide⟩
  show 0 * 5 < 7 * 3
  decide
end
section
variable {X : Cx} {pins : List (Addr × Obj)} {σ : L2.St} {H : Hp} {s : Shared} {E : Value → Shared → Prop}
/-- the members are tracked -/
def Mem (H : Hp) (L : List (Addr × List Key)) : Prop := ∀ p ∈ L, H p.1 = some (.tup (p.2.map kV))
theorem set_get {a : Addr} {L : List (Addr × List Key)} (I : Inv X pins σ H s) (ha : H a = some (SetKO X.prog X.w a L)) (m : Mem H L) : ∃ es ep t, TS X.prog X.w s.heap a L es ep t := (I.hok a _ ha).1.full fun p hp => key_of I.hok (m p hp)
theorem set_add {D b : Addr} {L : List (Addr × List Key)} {k : List Key} {Q : Value → Shared → Prop} (I : Inv X pins σ H s) (hu : X.A.units + 2 < cLine) (hD : H D = some (SetKO X.prog X.w D L)) (m : Mem H L) (hb : H b = some (.tup (k.map kV))) (few : L.length + 1 < 64)
    (h : ∀ s' L', (k ∈ L.map (·.2) → L' = L) → (k ∉ L.map (·.2) → L'.Perm ((b, k) :: L)) → Inv X pins σ (upd H D (SetKO X.prog X.w D L')) s' → Q .none s') : wpAny (model X.prog X.w) X.A (call (.builtin "set.add") [.ref D, .ref b]) Q E s := by
  obtain ⟨es, ep, t, R⟩ := set_get I hD m
  obtain ⟨o, ho, hex, hd⟩ := id R.ob
  have ty : s.TypeIs (.ref D) "set" := ⟨o, ho, hex.1⟩
  refine wpAny_call_entry F.slot_set_add ty F.entry_set_add ?_ (F.args_set_add_2 _ _)
  unfold Builtin.«set.add» Builtin.Frozenset.oneOther
  simp only [List.isEmpty_nil, bind_assoc]
  unfold Builtin.Frozenset.addrOf setAdd
  refine wpAny_bind (wpAny_pure ?_)
  try dsimp only
  refine wpAny_bind (wpAny_pure ?_)
  try dsimp only
  refine wpAny_bind (wpAny_holding ?_)
  refine wpAny_bind ((tupleKind (mixKind X.prog X.w)).pyHash (k := k) ?_ (key_of I.hok hb) ?_)
  · show X.A.in1.units < cLine
    simp only [Around.in1]
    omega
  refine put_in (s := { s with toks := s.toks + (tupleKind (mixKind X.prog X.w)).draws k }) R (key_of I.hok hb) ?_ few fun b' h' L' es' ep' t' sb R' c1 c2 => ?_
  · show X.A.in1.units < cLine
    simp only [Around.in1]
    omega
  show wpAny _ _ (ret Value.none) _ _ _
  have he : ∃ u, h'.get? D = some u := by
    obtain ⟨o', ho', _⟩ := R'.ob
    exact ⟨o', ho'⟩
  exact wpAny_pure ⟨_, rfl, h _ L' c1 c2 (I.write (e := D) (t' := s.toks + (tupleKind (mixKind X.prog X.w)).draws k) (by rw [hD]; trivial) (.inl rfl) (fun b u hb hu => (sb.2 b hb).trans hu) he (setKO_new R'.bare))⟩
end
end ST
end Bt
namespace Bt
namespace ST
open PySem PySem.Spec PyProof.Rows L2
/-! ### {k for .. in ..}, k a tuple of texts; its length -/
/-- what one turn gives: a tuple put in -/
def addK (P : Program) (w : World) (D : Addr) (y : V) (H : Hp) (N : Hp → Prop) : Prop := ∃ (b : Addr) (k : List Key) (L : List (Addr × List Key)), y = .ref b ∧ H b = some (.tup (k.map kV)) ∧ H D = some (SetKO P w D L) ∧ Mem H L ∧ L.length + 1 < 64 ∧
  ∀ L', (k ∈ L.map (·.2) → L' = L) → (k ∉ L.map (·.2) → L'.Perm ((b, k) :: L)) → N (upd H D (SetKO P w D L'))
def tScK (P : Program) (w : World) (wi : TI) (g : TG) (tt : TT) (te : TE) (vs : List Nat) : TE := fun σ H Q => wi σ H fun J H1 => ∀ D, H1 D = none → ∃ W : Nat → Nat → Hp → Prop, (∃ m, W 0 m (upd H1 D (SetKO P w D []))) ∧ ∀ i m H, W i m H →
  (J.stop i H ∧ Q (.ref D) H) ∨ (J.go i H ∧ ∃ Nx : Hp → Prop, (∀ H', Nx H' → ∃ m', m' < m ∧ W (i + 1) m' H') ∧ ∀ x H', J.yld i H x H' → g x (wipe σ vs) H' fun σ2 H2 => wipe σ2 vs = wipe σ vs ∧ tt σ2 H2 fun b H3 =>
    if b = true then te σ2 H3 fun y H4 => addK P w D y H4 Nx else Nx H3)
section
variable {X : Cx}
theorem addK_ok {X' : Cx} {pins : List (Addr × Obj)} {σ : L2.St} {H : Hp} {s : Shared} {D : Addr} {y : V} {u : Value} {N : Hp → Prop} {E : Value → Shared → Prop} {Q : Value → Shared → Prop} (I : Inv X' pins σ H s) (hu : X'.A.units + 2 < cLine) (r : RelV y u) (h : addK X'.prog X'.w D y H N)
    (q : ∀ s' H', Inv X' pins σ H' s' → N H' → Q .none s') : wpAny (model X'.prog X'.w) X'.A (call (.builtin "set.add") [.ref D, u]) Q E s := by
  obtain ⟨b, k, L, rfl, hb, hD, m, few, n⟩ := h
  cases r
  exact set_add I hu hD m hb few fun s' L' c1 c2 I' => q s' _ I' (n L' c1 c2)
theorem scK_run {pins : List (Addr × Obj)} {σ : L2.St} {Q : VK} {elt tg iter : Expr} {ifs : List Expr} {scope : Scope} {own : List (Str × Nat)} {pos : Pos} {g : TG} {tt : TT} {te : TE} {J : It} {fp : List Addr} {it D : Addr} {tn : Nat → Heap → Prop} {s3 : Shared} {H3 : Hp} {W : Nat → Nat → Hp → Prop} {m0 : Nat}
    (hc : X.calm = true) (hu : X.A.units + 2 < cLine) (hN : X.N.Nodup) (ok : BlkOk X.N X.env.scope scope own)
    (hg : ∀ (s : Shared) (H : Hp) (C : Addr) (cl : List (Str × Addr)) (fp : List Addr), PG (X.blk s H scope (compEnvC scope cl C X.env) fp) tg g) (ht : ∀ (s : Shared) (H : Hp) (C : Addr) (cl : List (Str × Addr)) (fp : List Addr), PTs (X.blk s H scope (compEnvC scope cl C X.env) fp) ifs tt)
    (he : ∀ (s : Shared) (H : Hp) (C : Addr) (cl : List (Str × Addr)) (fp : List Addr), PE (X.blk s H scope (compEnvC scope cl C X.env) fp) elt te)
    (T : Turn X.prog X.w X.K tg J fp it tn) (I3 : Inv X pins σ H3 s3) (f3 : ∀ b ∈ fp, FpOk X pins H3 b ∧ b < s3.heap.objs.size) (st3 : tn 0 s3.heap) (w0 : W 0 m0 H3)
    (turn : ∀ i m H, W i m H → (J.stop i H ∧ Q (.ref D) H) ∨ (J.go i H ∧ ∃ Nx : Hp → Prop, (∀ H', Nx H' → ∃ m', m' < m ∧ W (i + 1) m' H') ∧ ∀ x H', J.yld i H x H' → g x (wipe σ (own.map (·.2))) H' fun σ2 H2 => wipe σ2 (own.map (·.2)) = wipe σ (own.map (·.2)) ∧ tt σ2 H2 fun b H3 =>
      if b = true then te σ2 H3 fun y H4 => addK X.prog X.w D y H4 Nx else Nx H3)) :
    codeAny (model X.prog X.w) X.A (.compStart (.SetComp elt [⟨tg, iter, ifs, 0⟩] scope pos) 0 (.ref it) (.ref D) (compEnvC scope (cellsFrom (s3.heap.objs.size + 1) scope.names (cloFrom X.env.cells scope.names [])) s3.heap.objs.size X.env))
      (compPost (model X.prog X.w) X.A X.xe none (EP X pins σ Q) (.ref D) s3.heap.objs.size) { s3 with heap := pushCells (s3.heap.push { cls := .type "dict", data := .dict #[] }) scope.names } := by
  have I4 := block_start I3 ok hN f3
  obtain ⟨cells, hcells⟩ : ∃ c, c = cellsFrom (s3.heap.objs.size + 1) scope.names (cloFrom X.env.cells scope.names []) := ⟨_, rfl⟩
  rw [← hcells] at I4 ⊢
  have pg := hg s3 H3 s3.heap.objs.size cells fp
  have pt := ht s3 H3 s3.heap.objs.size cells fp
  have pe := he s3 H3 s3.heap.objs.size cells fp
  have cL : (compEnvC scope cells s3.heap.objs.size X.env).locals = s3.heap.objs.size := rfl
  generalize compEnvC scope cells s3.heap.objs.size X.env = ce at I4 pg pt pe cL ⊢
  have st4 : tn 0 ({ s3 with heap := pushCells (s3.heap.push { cls := .type "dict", data := .dict #[] }) scope.names } : Shared).heap := T.keep _ _ (pushCells (s3.heap.push { cls := .type "dict", data := .dict #[] }) scope.names) st3 fun b _ o e => pushCells_keeps _ _ _ _ (Heap.get?_push_of_some _ e)
  have own' : ∀ {σ' : L2.St} {H' : Hp} {s' : Shared}, Inv (X.blk s3 H3 scope ce fp) [] σ' H' s' → (∀ b ∈ fp, H' b = none) → ∀ b ∈ fp, FpOk (X.blk s3 H3 scope ce fp) [] H' b := fun I' hn b hb =>
    ⟨hn b hb, (I'.ok.exf b hb).1, I'.ok.exfs b hb, .inl hb, fun x c e => (I'.ok.exf b hb).2 x c e, fun p hp => nomatch hp⟩
  generalize ({ s3 with heap := pushCells (s3.heap.push { cls := .type "dict", data := .dict #[] }) scope.names } : Shared) = s4 at I4 st4 ⊢
  have nofp : ∀ b ∈ fp, H3 b = none := fun b hb => (f3 b hb).1.1
  have loop : codeAny (model X.prog X.w) X.A (.compLoop (.SetComp elt [⟨tg, iter, ifs, 0⟩] scope pos) 0 (.ref it) (.ref D) ce) (compPost (model X.prog X.w) X.A X.xe none (EP X pins σ Q) (.ref D) s3.heap.objs.size) s4 := by
    refine PpSet.compLoopS_any (fun n s' => ∃ i H', Inv (X.blk s3 H3 scope ce fp) [] (wipe σ (own.map (·.2))) H' s' ∧ tn i s'.heap ∧ (∀ b ∈ fp, H' b = none) ∧ W i n H') ?_ m0 ⟨0, H3, I4, st4, nofp, w0⟩
    rintro n s5 ⟨i, H5, I5, st5, n5, w5⟩
    rcases turn i n H5 w5 with ⟨stop, qq⟩ | ⟨go, Nx, hNx, step⟩
    · refine thnF (T.done (X.blk s3 H3 scope ce fp) rfl rfl rfl hc i [] s5 _ H5 (fun _ _ => False) I5 (own' I5 n5) st5 stop) fun r s6 ⟨hr, I6⟩ => ?_
      subst hr
      have I7 : Inv X pins σ H5 s6 := I3.call' (ch := fp) I6.os I6.base I6.hok I6.bare fun b hb => ⟨(f3 b hb).1.2.2.2.1, (f3 b hb).1.2.1, (f3 b hb).1.2.2.2.2.1, (f3 b hb).1.2.2.2.2.2⟩
      have nC : H5 s3.heap.objs.size = none := cL ▸ (show H5 ce.locals = none from I6.free)
      obtain ⟨m, hn, _⟩ := I6.loc
      have hn' : s6.heap.Ns s3.heap.objs.size m := cL ▸ (show s6.heap.Ns ce.locals m from hn)
      obtain ⟨f0, f1, f2, f4, f5, f6⟩ := I3.fpOk (Nat.le_refl _) nC
      exact ⟨m, hn', fun h'' sb => ⟨.ref D, H5, I7.turned (t' := s6.toks) (fun b o hb e => (sb.2 b hb).trans e) f0 f1 f4 f5 f6, rfl, qq⟩⟩
    · refine thnF (T.item (X.blk s3 H3 scope ce fp) rfl rfl rfl hc i [] s5 _ H5 (fun _ _ => False) I5 (own' I5 n5) st5 go) fun r s6 ⟨u, hr, h6⟩ => ?_
      subst hr
      refine thnF h6 fun _ s7 ⟨x, H7, I7, r7, y7, st7, n7⟩ => ?_
      have I7' := I7.pinned (own' I7 n7) (T.obj _ _ st7)
      refine thnF (pg.run _ s7 _ H7 x u _ I7' r7 (step x H7 y7)) fun _ s8 ⟨σ8, H8, I8, hw8, q8⟩ => ?_
      refine thnF (pt.run _ s8 σ8 H8 _ I8 q8) fun b s9 ⟨H9, I9, q9⟩ => ?_
      have fin : ∀ {s' : Shared} {H' : Hp}, Inv (X.blk s3 H3 scope ce fp) ([] ++ pinsAt fp s7.heap) σ8 H' s' → Nx H' → ∃ m, m < n ∧ ∃ i H', Inv (X.blk s3 H3 scope ce fp) [] (wipe σ (own.map (·.2))) H' s' ∧ tn i s'.heap ∧ (∀ b ∈ fp, H' b = none) ∧ W i m H' := fun {s' H'} I' nx => by
        obtain ⟨m', hm, w'⟩ := hNx H' nx
        have pin : ∀ b ∈ fp, ∀ o, s7.heap.get? b = some o → s'.heap.get? b = some o ∧ H' b = none := fun b hb o e =>
          let z := I'.pin (b, o) (List.mem_append_right _ (List.mem_append_right _ (mem_pinsAt hb e)))
          ⟨z.1, z.2.1⟩
        refine ⟨m', hm, i + 1, H', (I'.unpinned (pins := [])).weak (by rw [← hw8, wipe_length]) (fun j v e => (wipe_some (hw8 ▸ e)).1), T.keep _ _ _ st7 fun b hb o e => (pin b hb o e).1, fun b hb => ?_, w'⟩
        obtain ⟨o, e, _⟩ := T.obj _ _ st7 b hb
        exact (pin b hb o e).2
      cases b with
      | false =>
        simp only [Bool.false_eq_true, if_false] at q9 ⊢
        exact fin I9 q9
      | true =>
        simp only [if_true] at q9 ⊢
        exact thnF (pe.run _ s9 σ8 H9 _ I9 q9) fun z s10 ⟨yv, H10, I10, r10, ad⟩ => addK_ok (X' := X.blk s3 H3 scope ce fp) I10 hu r10 ad fun s11 H11 I11 nx => fin I11 nx
  exact PpSet.codeAny_compStart_set loop (T.self X.A 0 _ _ _ st4 loop)
theorem pe_scK {elt tg iter : Expr} {ifs : List Expr} {scope : Scope} {own : List (Str × Nat)} {pos : Pos} {wi : TI} {g : TG} {tt : TT} {te : TE} (hc : X.calm = true) (hu : X.A.units + 2 < cLine) (hN : X.N.Nodup) (hi : PI X tg iter wi) (ok : BlkOk X.N X.env.scope scope own)
    (hg : ∀ (s : Shared) (H : Hp) (C : Addr) (cl : List (Str × Addr)) (fp : List Addr), PG (X.blk s H scope (compEnvC scope cl C X.env) fp) tg g) (ht : ∀ (s : Shared) (H : Hp) (C : Addr) (cl : List (Str × Addr)) (fp : List Addr), PTs (X.blk s H scope (compEnvC scope cl C X.env) fp) ifs tt)
    (he : ∀ (s : Shared) (H : Hp) (C : Addr) (cl : List (Str × Addr)) (fp : List Addr), PE (X.blk s H scope (compEnvC scope cl C X.env) fp) elt te) (hs : ∀ x, foldedSetIterable iter X.env x = pure x := by intro _; rfl) :
    PE X (.SetComp elt [⟨tg, iter, ifs, 0⟩] scope pos) (tScK X.prog X.w wi g tt te (own.map (·.2))) := by
  refine ⟨fun pins s σ H Q I h => ?_⟩
  rw [PpSet.eval_SetComp]
  have known : ∀ y ∈ scope.names, y.2 = .free → ∃ c, X.env.cells.lookup y.1 = some c := fun y hy e => I.ok.has _ (ok.free y hy e)
  refine wpAny_comprehension_free (use := none) rfl hs (closure_ok known) ok.kind (fun y hy e => by rw [ok.uniq y hy, e]) (thn (hi.run pins s σ H _ I h) fun xv s1 hx => thn hx fun itv s2 ⟨it, fp, tn, J, H2, ei, I2, T, st2, f2, q⟩ => ?_)
  subst ei
  refine PpSet.newSet_ok (newEnv_comp ?_)
  have hDn : H2 s2.heap.objs.size = none := I2.hok.fresh (Nat.le_refl _)
  obtain ⟨W, ⟨m0, w0⟩, turn⟩ := q _ hDn
  have I3 : Inv X pins σ (upd H2 s2.heap.objs.size (SetKO X.prog X.w s2.heap.objs.size [])) { s2 with heap := s2.heap.push { cls := .type "set", dict := none, data := .set #[] 0 (.fresh 0 0 (!X.w.params.followText "set-order")) } } :=
    I2.laid (t' := s2.toks) (fun b o e => Heap.get?_push_of_some _ e) (Nat.le_refl _) (setKO_new fresh_set)
  have f3 : ∀ b ∈ fp, FpOk X pins (upd H2 s2.heap.objs.size (SetKO X.prog X.w s2.heap.objs.size [])) b ∧ b < (s2.heap.push { cls := .type "set", dict := none, data := .set #[] 0 (.fresh 0 0 (!X.w.params.followText "set-order")) }).objs.size := fun b hb => by
    obtain ⟨o, e, _⟩ := T.obj _ _ st2 b hb
    have lt := Heap.lt_size e
    refine ⟨⟨by rw [upd_ne (Nat.ne_of_lt lt)]; exact (f2 b hb).1, (f2 b hb).2⟩, by rw [Heap.size_push]; exact Nat.lt_succ_of_lt lt⟩
  have st3 := T.keep _ _ (s2.heap.push { cls := .type "set", dict := none, data := .set #[] 0 (.fresh 0 0 (!X.w.params.followText "set-order")) }) st2 fun b _ o e => Heap.get?_push_of_some _ e
  exact scK_run (pos := pos) hc hu hN ok hg ht he T I3 f3 st3 w0 turn
end
end ST
end Bt
namespace Bt
namespace ST
open PySem PySem.Spec PyProof.Rows L2
/-! ### sets of tuples: len, in, reading lemmas -/
def rLenK (P : Program) (w : World) : List V → Hp → VK → Prop := fun xs H Q => ∃ (a : Addr) (L : List (Addr × List Key)), xs = [V.ref a] ∧ H a = some (SetKO P w a L) ∧ Q (.int L.length) H
theorem call_lenK {X : Cx} : CallR X (.builtin "len") (rLenK X.prog X.w) := by
  intro pins s σ H xs us Q I r h
  obtain ⟨a, L, rfl, ha, q⟩ := h
  obtain ⟨u, rfl, ru⟩ := vals1 r
  cases ru
  obtain ⟨es, ep, t, ⟨o, ho, hx, hd⟩, rows, tab, nd, room, few⟩ := (I.hok a _ ha).1
  have size : es.size = L.length := by rw [← Array.length_toList, rows, List.length_map]
  have fits : t.fits es.size = true := by
    have h1 := tab.sz
    rw [List.length_map] at h1
    unfold SetTable.fits SetTable.fill
    rw [tab.dm, Bool.and_eq_true, beq_iff_eq, decide_eq_true_eq]
    exact ⟨by omega, by show t.place.size + 0 ≤ t.mask; omega⟩
  exact call_len_set ho hx hd fits (by omega) ⟨.int L.length, H, I.tok _, ⟨_, by rw [size]⟩, q⟩
theorem hasK_iff {L : List (Addr × List Key)} {k : List Key} : (L.any fun p => decide (p.2 = k)) = true ↔ k ∈ L.map (·.2) := by
  rw [List.any_eq_true, List.mem_map]
  exact ⟨fun ⟨p, h, e⟩ => ⟨p, h, of_decide_eq_true e⟩, fun ⟨p, h, e⟩ => ⟨p, h, decide_eq_true e⟩⟩
def hasK (L : List (Addr × List Key)) (k : List Key) : Bool := L.any fun p => decide (p.2 = k)
/-- k in s, k not in s -/
def rInK (P : Program) (w : World) (f : Bool → Bool) : R2 := fun x y H Q => ∃ (b a : Addr) (k : List Key) (L : List (Addr × List Key)), x = .ref b ∧ y = .ref a ∧ H b = some (.tup (k.map kV)) ∧ H a = some (SetKO P w a L) ∧ Mem H L ∧ Q (.bl (f (hasK L k))) H
theorem has_ok {X : Cx} {pins : List (Addr × Obj)} {σ : L2.St} {H : Hp} {s : Shared} {E : Value → Shared → Prop} {a b : Addr} {k : List Key} {L : List (Addr × List Key)} {Q : Value → Shared → Prop} (I : Inv X pins σ H s) (hu : X.A.units + 3 < cLine) (hb : H b = some (.tup (k.map kV))) (ha : H a = some (SetKO X.prog X.w a L)) (m : Mem H L)
    (f : Bool → Bool) (h : ∀ tk, Q (.bool (f (hasK L k))) { s with toks := tk }) : wpAny (model X.prog X.w) X.A (do return .bool (f (← contains (.ref a) (.ref b)))) Q E s := by
  obtain ⟨es, ep, t, R⟩ := set_get I ha m
  obtain ⟨o, ho, hex, hd⟩ := id R.ob
  have ty : s.TypeIs (.ref a) "set" := ⟨o, ho, hex.1⟩
  refine wpAny_bind ?_
  unfold contains
  try with_reducible refine wpAny_holding ?_
  refine wpAny_bind (wpAny_specialOf ty F.slot_set_contains.lookup ?_)
  show wpAny _ _ (if (some (Value.builtin "set.__contains__") == some Value.none) = true then _ else _) _ E s
  rw [if_neg (by rw [beq_builtin_none]; exact Bool.false_ne_true)]
  refine wpAny_bind (wpAny_callSpecialUnlessNone?_slot (name := Str.ofString "__contains__") ty F.slot_set_contains
    (wpAny_call_entry F.slot_set_contains ty entry_set_contains ?_ (F.args_set_contains_2 _ _)))
  unfold Builtin.«frozenset.__contains__» Builtin.Frozenset.oneOther
  simp only [List.isEmpty_nil, bind_assoc]
  unfold Builtin.Frozenset.addrOf Builtin.Frozenset.withSetAsKey setContains
  refine wpAny_bind (wpAny_pure ?_)
  try dsimp only
  refine wpAny_bind (wpAny_pure ?_)
  try dsimp only
  refine wpAny_bind (wpAny_tryCatch ?_)
  refine wpAny_holding ?_
  refine wpAny_bind ((tupleKind (mixKind X.prog X.w)).pyHash (k := k) ?_ (key_of I.hok hb) ?_)
  · show X.A.in1.units < cLine
    simp only [Around.in1]
    omega
  unfold setFind
  rw [show (100000 : Nat) = 99999 + 1 from rfl]
  unfold setFindIn
  refine wpAny_bind (wpAny_bind (wpAny_setState_of ho hd R.fits ?_))
  dsimp only
  refine wp_if_neg (by simp [byScan, Value.scannable]) ?_
  have fin : ∀ (r : Option Nat), r.isSome = hasK L k → wpAny (model X.prog X.w) X.A.in1 (ret (Value.bool r.isSome)) (fun fin s' => ∃ v, fin = .done (.ret v) ∧ wpAny (model X.prog X.w) X.A (truthy v) (fun c s'' => wpAny (model X.prog X.w) X.A (pure (.bool (f c))) Q E s'') E s') E { s with toks := s.toks + (tupleKind (mixKind X.prog X.w)).draws k } := fun r e => by
    rw [e]
    exact wpAny_pure ⟨_, rfl, wpAny_truthy_bool (wpAny_pure (h _))⟩
  refine wpAny_bind (srch (s := { s with toks := s.toks + (tupleKind (mixKind X.prog X.w)).draws k }) R (key_of I.hok hb) ?_ false (fun hm r _ hr => ?_) fun hm K _ _ => ?_)
  · show X.A.in1.units < cLine
    simp only [Around.in1]
    omega
  · refine wpAny_pure ?_
    exact wpAny_pure (fin r (by rw [hr rfl]; exact (hasK_iff.mpr hm).symm))
  · refine wpAny_pure ?_
    exact wpAny_pure (fin none (by
      show false = hasK L k
      cases e : hasK L k with
      | false => rfl
      | true => exact absurd (hasK_iff.mp e) hm))
theorem op_inK {X : Cx} (hu : X.A.units + 3 < cLine) : OpR X (compareOp .In) (rInK X.prog X.w id) := by
  intro pins s σ H x y v u Q I rx ry h
  obtain ⟨b, a, k, L, rfl, rfl, hb, ha, m, q⟩ := h
  cases rx
  cases ry
  exact has_ok I hu hb ha m id fun tk => ⟨.bl (hasK L k), H, I.tok tk, rfl, q⟩
theorem op_notinK {X : Cx} (hu : X.A.units + 3 < cLine) : OpR X (compareOp .NotIn) (rInK X.prog X.w not) := by
  intro pins s σ H x y v u Q I rx ry h
  obtain ⟨b, a, k, L, rfl, rfl, hb, ha, m, q⟩ := h
  cases rx
  cases ry
  exact has_ok I hu hb ha m not fun tk => ⟨.bl (!hasK L k), H, I.tok tk, rfl, q⟩
/-- {.. for x in a list} -/
theorem s_scK {P : Program} {w : World} {wi : TI} {g : TG} {tt : TT} {te : TE} {vs : List Nat} {σ : L2.St} {H : Hp} {Q : VK} (h : wi σ H fun J H1 => ∀ D, H1 D = none → ∃ W : Nat → Nat → Hp → Prop, (∃ m, W 0 m (upd H1 D (SetKO P w D []))) ∧ ∀ i m H, W i m H →
  (J.stop i H ∧ Q (.ref D) H) ∨ (J.go i H ∧ ∃ Nx : Hp → Prop, (∀ H', Nx H' → ∃ m', m' < m ∧ W (i + 1) m' H') ∧ ∀ x H', J.yld i H x H' → g x (wipe σ vs) H' fun σ2 H2 => wipe σ2 vs = wipe σ vs ∧ tt σ2 H2 fun b H3 =>
    if b = true then te σ2 H3 fun y H4 => addK P w D y H4 Nx else Nx H3)) : tScK P w wi g tt te vs σ H Q := h
theorem sc_listK {P : Program} {w : World} {K : PySem.W.Frag} {a : Addr} {xs : List V} {g : TG} {tt : TT} {te : TE} {vs : List Nat} {σ : L2.St} {H1 : Hp} {D : Addr} {Qd : Hp → Prop} (Pv : Nat → Hp → Prop) (h0 : Pv 0 (upd H1 D (SetKO P w D []))) (hl : ∀ i H, i ≤ xs.length → Pv i H → SqL K H a xs)
    (hs : ∀ i x H, xs[i]? = some x → Pv i H → g x (wipe σ vs) H fun σ2 H2 => wipe σ2 vs = wipe σ vs ∧ tt σ2 H2 fun b H3 => if b = true then te σ2 H3 fun y H4 => addK P w D y H4 (Pv (i + 1)) else Pv (i + 1) H3) (hd : ∀ H, Pv xs.length H → Qd H) :
    ∃ W : Nat → Nat → Hp → Prop, (∃ m, W 0 m (upd H1 D (SetKO P w D []))) ∧ ∀ i m H, W i m H →
      ((Itl K a).stop i H ∧ Qd H) ∨ ((Itl K a).go i H ∧ ∃ Nx : Hp → Prop, (∀ H', Nx H' → ∃ m', m' < m ∧ W (i + 1) m' H') ∧ ∀ x H', (Itl K a).yld i H x H' → g x (wipe σ vs) H' fun σ2 H2 => wipe σ2 vs = wipe σ vs ∧ tt σ2 H2 fun b H3 =>
        if b = true then te σ2 H3 fun y H4 => addK P w D y H4 Nx else Nx H3) := by
  refine ⟨fun i m H => m = xs.length - i ∧ i ≤ xs.length ∧ Pv i H, ⟨xs.length, by simp, Nat.zero_le _, h0⟩, ?_⟩
  rintro i m H ⟨rfl, hi, p⟩
  have q := hl i H hi p
  by_cases hlt : i < xs.length
  · refine .inr ⟨⟨xs, xs[i], q, by simp [hlt]⟩, Pv (i + 1), fun H' p' => ⟨xs.length - (i + 1), by omega, rfl, hlt, p'⟩, fun x H' y => ?_⟩
    obtain ⟨rfl, y⟩ := y
    exact hs i x _ (y xs q) p
  · have e : i = xs.length := by omega
    subst e
    exact .inl ⟨⟨xs, q, Nat.le_refl _⟩, hd H p⟩
end ST
end Bt
namespace Bt
namespace ST
open PySem PySem.Spec PyProof.Rows L2
/-! ### set(xs), the items tuples of texts -/
section
variable {P : Program} {w : World} {A : Around} {E : Value → Shared → Prop} {s : Shared}
theorem IsK.keep {h h' : Heap} {k : List Key} {b : Addr} (x : IsK P w h k b) (kp : ∀ c o, h.get? c = some o → h'.get? c = some o) : IsK P w h' k b := let ⟨o, items, n, ho, r⟩ := x; ⟨o, items, n, kp b o ho, r⟩
theorem TS.keep {h h' : Heap} {a : Addr} {L : List (Addr × List Key)} {es : Array (Int × Value)} {ep : Nat} {t : SetTable} (R : TS P w h a L es ep t) (ha : ∀ o, h.get? a = some o → h'.get? a = some o) (hm : ∀ p ∈ L, IsK P w h' p.2 p.1) : TS P w h' a L es ep t :=
  ⟨let ⟨o, ho, r⟩ := R.ob; ⟨o, ha o ho, r⟩, R.rows, R.tab, R.nd, hm, R.room, R.few⟩
/-- the members behind i items -/
structure Seen (ks : List (Addr × List Key)) (i : Nat) (L : List (Addr × List Key)) : Prop where
  sub : ∀ q ∈ L, q ∈ ks.take i
  all : ∀ q ∈ ks.take i, q.2 ∈ L.map (·.2)
  len : L.length ≤ i
  nd : L.length = i ↔ ((ks.take i).map (·.2)).Nodup
theorem Seen.old {ks L : List (Addr × List Key)} {i : Nat} {x : Addr × List Key} (g : Seen ks i L) (hx : ks[i]? = some x) (hm : x.2 ∈ L.map (·.2)) : Seen ks (i + 1) L := by
  have tk : ks.take (i + 1) = ks.take i ++ [x] := by rw [List.take_add_one, hx]; rfl
  refine ⟨fun p hp => by rw [tk]; exact List.mem_append_left _ (g.sub p hp), fun p hp => ?_, Nat.le_succ_of_le g.len, ⟨fun e => absurd g.len (by omega), fun n => ?_⟩⟩
  rw [tk, List.mem_append, List.mem_singleton] at hp
  rcases hp with hp | rfl
  · exact g.all p hp
  · exact hm
  · rw [tk, List.map_append] at n
    obtain ⟨p, mp, ep⟩ := List.mem_map.mp hm
    exact absurd rfl ((List.nodup_append.mp n).2.2 p.2 (List.mem_map.mpr ⟨p, g.sub p mp, rfl⟩) x.2 (by simp) |> fun z => ep ▸ z)
theorem Seen.new {ks L L' : List (Addr × List Key)} {i : Nat} {x : Addr × List Key} (g : Seen ks i L) (hx : ks[i]? = some x) (hm : x.2 ∉ L.map (·.2)) (pm : L'.Perm (x :: L)) : Seen ks (i + 1) L' := by
  have tk : ks.take (i + 1) = ks.take i ++ [x] := by rw [List.take_add_one, hx]; rfl
  refine ⟨fun p hp => ?_, fun p hp => ?_, by rw [pm.length_eq]; exact Nat.succ_le_succ g.len, ?_⟩
  · rw [tk, List.mem_append, List.mem_singleton]
    rcases List.mem_cons.mp (pm.mem_iff.mp hp) with e | hp
    · exact .inr e
    · exact .inl (g.sub p hp)
  · rw [(pm.map (·.2)).mem_iff, List.map_cons, List.mem_cons]
    rw [tk, List.mem_append, List.mem_singleton] at hp
    rcases hp with hp | rfl
    · exact .inr (g.all p hp)
    · exact .inl rfl
  · rw [pm.length_eq, List.length_cons, tk, List.map_append, List.nodup_append, ← g.nd]
    refine ⟨fun e => ⟨by omega, by simp, fun a ha b hb e => ?_⟩, fun e => by omega⟩
    obtain ⟨p, mp, rfl⟩ := List.mem_map.mp ha
    rw [List.map_singleton, List.mem_singleton] at hb
    rw [hb] at e
    exact hm (e ▸ g.all p mp)
theorem upd_keys {it : Addr} {fp wr : List Addr} {G : Array GenState → Array GenState → Prop} {n : Nat} {Pv : Nat → Value → Prop} {St : Nat → Shared → Prop} {R : Result → Shared → Prop} (W : WalksS P w A.in1 it fp wr G n Pv St) (D : Addr) (nD : D ∉ fp)
    (ks : List (Addr × List Key)) (en : n = ks.length) (few : ks.length < 64) (val : ∀ i v, Pv i v → ∃ p, ks[i]? = some p ∧ v = .ref p.1) (h0 : Heap) (hk0 : ∀ p ∈ ks, IsK P w h0 p.2 p.1) (hD0 : h0.get? D = none) (hw0 : ∀ b ∈ wr, h0.get? b = none) (hu : A.in1.units < cLine) :
    ∀ (m i : Nat) (s : Shared), n - i = m → i ≤ n → St i s → (∀ b o, h0.get? b = some o → s.heap.get? b = some o) → (∃ L es ep t, TS P w s.heap D L es ep t ∧ Seen ks i L) →
      (∀ s' L es ep t, Moved (D :: wr) G s s' → TS P w s'.heap D L es ep t → Seen ks n L → (∀ b o, h0.get? b = some o → s'.heap.get? b = some o) → R (.ok (.ret .none)) s') → codeAny (model P w) A (.builtin "set.update.loop" ⟨[.ref D, .ref it], []⟩) R s := by
  have nDw : D ∉ wr := fun z => nD (W.sub _ z)
  have kpM : ∀ {u u' : Shared}, Moved wr G u u' → (∀ b o, h0.get? b = some o → u.heap.get? b = some o) → ∀ b o, h0.get? b = some o → u'.heap.get? b = some o := fun mv kp b o e => mv.heap b o (fun z => by rw [hw0 b z] at e; cases e) (kp b o e)
  have up : ∀ b ∈ wr, b ∈ D :: wr := fun b z => List.mem_cons_of_mem _ z
  intro m
  induction m with
  | zero =>
    rintro i s hm hi st kp ⟨L, es, ep, t, hT, g⟩ hR
    obtain rfl : i = n := by omega
    refine codeAny_builtin (b := Builtin.«set.update.loop») F.entry_set_update_loop ?_; rw [Around.under_plainId F.plain_set_update_loop _]
    refine wpAny_bind (m := pyNext (.ref it)) (W.done s _ _ st fun s' mv => ?_)
    have kp' := kpM mv kp
    exact wpAny_pure (hR s' L es ep t (mv.mono up) (hT.keep (fun o e => mv.heap D o nDw e) fun p hp => IsK.keep (hk0 p (List.mem_of_mem_take (g.sub p hp))) kp') g kp')
  | succ m ih =>
    rintro i s hm hi st kp ⟨L, es, ep, t, hT, g⟩ hR
    have lt : i < n := by omega
    refine codeAny_builtin (b := Builtin.«set.update.loop») F.entry_set_update_loop ?_; rw [Around.under_plainId F.plain_set_update_loop _]
    refine wpAny_bind (m := pyNext (.ref it)) (W.item i s _ _ lt st fun v s' pv st' mv => ?_)
    obtain ⟨p, hp, rfl⟩ := val i v pv
    have kp' := kpM mv kp
    have hT' : TS P w s'.heap D L es ep t := hT.keep (fun o e => mv.heap D o nDw e) fun q hq => IsK.keep (hk0 q (List.mem_of_mem_take (g.sub q hq))) kp'
    have hx : IsK P w s'.heap p.2 p.1 := IsK.keep (hk0 p (List.mem_of_getElem? hp)) kp'
    refine wpAny_bind (m := holding [Value.ref p.1] (setAdd D (.ref p.1))) (wpAny_holding ?_)
    unfold setAdd
    refine wpAny_holding (wpAny_bind ((tupleKind (mixKind P w)).pyHash (k := p.2) hu hx ?_))
    refine put_in (s := { s' with toks := s'.toks + (tupleKind (mixKind P w)).draws p.2 }) hT' hx hu (by have := g.len; omega) fun b h' L' es' ep' t' sb hT2 c1 c2 => ?_
    have g' : Seen ks (i + 1) L' := (Classical.em (p.2 ∈ L.map (·.2))).elim (fun c => by rw [c1 c]; exact g.old hp c) fun c => g.new hp c (c2 c)
    have kp2 : ∀ b o, h0.get? b = some o → h'.get? b = some o := fun b o e => (sb.2 b fun z => by rw [z, hD0] at e; cases e).trans (kp' b o e)
    refine wpAny_pure ⟨plainId_quiet F.plain_set_update_loop _, ih (i + 1) _ (by omega) lt (W.frame _ s' _ _ st' (Nat.le_add_right _ _) fun b hb o e => (sb.2 b fun z => nD (z ▸ hb)).trans e) kp2 ⟨L', es', ep', t', hT2, g'⟩ fun s'' L2 es2 ep2 t2 mv2 hT3 g2 kp3 => ?_⟩
    exact hR s'' L2 es2 ep2 t2 (Moved.trans W.gtrans ((mv.mono up).then_heap (Nat.le_add_right _ _) fun b o hb e => (sb.2 b fun z => hb (z ▸ List.mem_cons_self)).trans e) mv2) hT3 g2 kp3
theorem newSet {h : Heap} (ho : h.get? s.heap.objs.size = some { cls := .type "set", dict := none, data := .set #[] 0 (.fresh 0 0 (!w.params.followText "set-order")) }) : TS P w h s.heap.objs.size [] #[] 0 (.fresh 0 0 (!w.params.followText "set-order")) where
  ob := ⟨_, ho, ⟨rfl, rfl, rfl⟩, rfl⟩
  rows := rfl
  tab := ⟨.nil, rfl, rfl, .inl rfl, (fun _ z => by cases z), fun i h j hi => by simp at hi⟩
  nd := .nil
  mem := fun _ z => by cases z
  room := by show 0 * 5 < 7 * 3; decide
  few := by show 0 < 64; decide
theorem set_of_list {l : Addr} {its : Array Value} (ks : List (Addr × List Key)) {Q : Value → Shared → Prop} (hh : A.handled = none) (hl : s.heap.IsList l its) (ei : its.toList = ks.map fun p => Value.ref p.1) (hk : ∀ p ∈ ks, IsK P w s.heap p.2 p.1) (few : ks.length < 64) (hu : A.units + 3 < cLine)
    (h : ∀ (h' : Heap) (tk : Nat) L es ep t, TS P w h' s.heap.objs.size L es ep t → Seen ks ks.length L → (∀ b o, s.heap.get? b = some o → h'.get? b = some o) → Q (.ref s.heap.objs.size) { s with heap := h', toks := tk }) : wpAny (model P w) A (call (.type "set") [.ref l]) Q E s := by
  have hz : its.size = ks.length := by rw [← Array.length_toList, ei, List.length_map]
  obtain ⟨c, tl, hmro⟩ := F.called_set.mro
  have f1 := F.called_set.made; have f2 := F.called_set.sub; have f3 := F.called_set.notType; have f4 := F.called_set.canCreate
  have f5 := F.typeCall_set_1 (.ref l)
  refine wpAny_call (codeAny_of_tree (show wpAny _ _ (callAny (.type "set") _) _ _ _ from wpAny_pure ⟨Code.quiet_builtin _ (by decide +kernel), codeAny_builtin F.entry_type_call ?_⟩))
  rw [Around.under_plain (weight_type_call_type "set" [.ref l] []) rfl]
  repeat (any_goals (first | assumption | wp_step))
  obtain ⟨N, eN⟩ : ∃ N : Heap, N = s.heap.push { cls := .type "set", dict := none, data := .set #[] 0 (.fresh 0 0 (!w.params.followText "set-order")) } := ⟨_, rfl⟩
  have zN : N.objs.size = s.heap.objs.size + 1 := by rw [eN]; exact Heap.size_push ..
  have oN : ∀ b o, s.heap.get? b = some o → N.get? b = some o := fun b o e => by rw [eN]; exact Heap.get?_push_of_some _ e
  have hD : N.get? s.heap.objs.size = some { cls := .type "set", dict := none, data := .set #[] 0 (.fresh 0 0 (!w.params.followText "set-order")) } := by rw [eN]; exact Heap.get?_push_size _ rfl
  have gone : ∀ b, s.heap.objs.size ≤ b → s.heap.get? b = none := fun b hb => by
    cases e : s.heap.get? b with
    | none => rfl
    | some o => exact absurd (Heap.lt_size e) (Nat.not_lt.mpr hb)
  refine codeAny_mono (code_set_led1 (.ref l) (E := E) (Q₁ := fun obj s₁ => obj = .ref s.heap.objs.size ∧ s₁ = { s with heap := N }) (by rw [eN]; exact ⟨rfl, rfl⟩)) fun r s1 hr => ?_
  rcases r with e | fl
  · exact hr
  cases fl with
  | next => exact hr.elim
  | brk => exact hr.elim
  | cont => exact hr.elim
  | ret obj =>
  obtain ⟨rfl, rfl⟩ := hr
  have ty : Shared.TypeIs { s with heap := N } (.ref s.heap.objs.size) "set" := ⟨_, hD, rfl⟩
  have g1 := F.called_set.init.lookup; have g2 := F.called_set.init.bind (.ref s.heap.objs.size)
  repeat (any_goals (first | assumption | wp_step))
  refine codeAny_mono (codeAny_call_builtin (R := wants (fun r s₂ => r = .none ∧ ∃ h' tk L es ep t, s₂ = { s with heap := h', toks := tk } ∧ TS P w h' s.heap.objs.size L es ep t ∧ Seen ks ks.length L ∧ ∀ b o, s.heap.get? b = some o → h'.get? b = some o) E) F.called_set.init.plain F.entry_set_init (check_set_init_1 ty ?_)) fun r s2 hr => ?_
  · obtain ⟨⟨cl, od, da, sl⟩, ho, ec, nl, ed⟩ := hl
    simp only at ec ed
    subst ec ed
    have ho1 := oN _ _ ho
    have q1 := F.sub_list_set; have q2 := F.sub_list_frozenset; have q3 : (Value.type "list" == Value.type "dict") = false := by decide
    have il : N.IsList l its := ⟨_, ho1, rfl, nl, rfl⟩
    unfold Builtin.«set.__init__» noKeywords Builtin.Frozenset.updateFrom
    generalize ePI : pyIter = PI
    wp_walk
    subst ePI
    refine wpAny_pyIter_list il (wpAny_bind (wpAny_runValue ?_))
    have lt := Heap.lt_size ho
    have lN : l ≠ N.objs.size := by rw [zN]; exact Nat.ne_of_lt (Nat.lt_succ_of_lt lt)
    have dN : s.heap.objs.size ∉ [N.objs.size, l] := by
      rw [zN]
      simp only [List.mem_cons, List.not_mem_nil, or_false, not_or]
      exact ⟨Nat.ne_of_lt (Nat.lt_succ_self _), Nat.ne_of_gt lt⟩
    have val : ∀ (i : Nat) (v : Value), its[i]? = some v → ∃ p, ks[i]? = some p ∧ v = .ref p.1 := fun i v hv => by
      rw [← Array.getElem?_toList, ei, List.getElem?_map] at hv
      obtain ⟨p, hp, e⟩ := Option.map_eq_some_iff.mp hv
      exact ⟨p, hp, e.symm⟩
    refine upd_keys ((Walks.list (by simp [hh]) _ l lN its).toS) s.heap.objs.size dN ks hz few val s.heap hk (gone _ (Nat.le_refl _)) (fun b hb => gone b (by rw [List.mem_singleton.mp hb, zN]; exact Nat.le_succ _)) hu (its.size - 0) 0 _ (by omega) (Nat.zero_le _)
      ⟨⟨_, Heap.get?_push_size _ rfl, rfl, rfl⟩, il.push _⟩ (fun b o e => Heap.get?_push_of_some _ (oN b o e)) ⟨[], #[], 0, _, newSet (Heap.get?_push_of_some _ hD), (fun _ z => by cases z), (fun p z => by simp at z), Nat.le_refl _, by simp⟩ fun s' L es ep t mv hT g kp => ?_
    obtain ⟨h', g', d', tk, os'⟩ := s'
    obtain rfl : g' = s.gens := mv.gens
    obtain rfl : d' = s.drawn := mv.drawn
    obtain rfl : os' = s.os := mv.os
    rw [hz] at g
    exact wpAny_pure (wpAny_pure ⟨rfl, h', tk, L, es, ep, t, rfl, hT, g, kp⟩)
  · rcases r with e | fl
    · exact hr
    cases fl with
    | next => exact hr.elim
    | brk => exact hr.elim
    | cont => exact hr.elim
    | ret obj =>
      obtain ⟨rfl, h', tk, L, es, ep, t, rfl, hT, g, kp⟩ := hr
      repeat (any_goals (first | assumption | wp_step))
      exact h _ _ _ _ _ _ hT g kp
end
def rSetK (K : PySem.W.Frag) (P : Program) (w : World) : List V → Hp → VK → Prop := fun vs H Q => ∃ (a : Addr) (ks : List (Addr × List Key)), vs = [.ref a] ∧ SqL K H a (ks.map fun p => V.ref p.1) ∧ (∀ p ∈ ks, H p.1 = some (.tup (p.2.map kV))) ∧ ks.length < 64 ∧
  ∀ D L, H D = none → Seen ks ks.length L → (L.map (·.2)).Nodup → Q (.ref D) (upd H D (SetKO P w D L))
theorem refs_eq : ∀ {ks : List (Addr × List Key)} {us : List Value}, Vals (ks.map fun p => V.ref p.1) us → us = ks.map fun p => Value.ref p.1
  | [], _, h => by cases h; rfl
  | p :: ks, _, h => by
    cases h with
    | cons h r =>
      cases h
      rw [refs_eq r]
      rfl
theorem cr_setK {X : Cx} (hc : X.calm = true) (hu : X.A.units + 64 < cLine) : CallR X (.type "set") (rSetK X.K X.prog X.w) := by
  intro pins s σ H vs us Q I r h
  obtain ⟨a, ks, rfl, ha, hk, few, q⟩ := h
  rw [Vals.ref1 r]
  obtain ⟨its, rv, hl, hz⟩ := I.list ha
  refine set_of_list ks (I.ok.hd hc) hl.isList (by rw [← refs_eq rv]) (fun p hp => key_of I.hok (hk p hp)) few (by omega) fun h' tk L es ep t R g kp => ?_
  have nD : H s.heap.objs.size = none := I.hok.fresh (Nat.le_refl _)
  refine ⟨V.ref s.heap.objs.size, _, I.laid (t' := tk) kp (Nat.le_refl _) (setKO_new R.bare), rfl, q _ L nD g R.nd⟩
theorem q_setK {K : PySem.W.Frag} {P : Program} {w : World} {H : Hp} {Q : VK} {a : Addr} (ks : List (Addr × List Key)) (ha : SqL K H a (ks.map fun p => V.ref p.1)) (hk : ∀ p ∈ ks, H p.1 = some (.tup (p.2.map kV))) (few : ks.length < 64)
    (q : ∀ D H' L, H D = none → Same H H' → H' D = some (SetKO P w D L) → Seen ks ks.length L → (L.map (·.2)).Nodup → Q (.ref D) H') : rSetK K P w [.ref a] H Q := ⟨a, ks, rfl, ha, hk, few, fun D L n g nd => q D _ L n (Same.new n) upd_same g nd⟩
end ST
end Bt
namespace Bt
open PySem PySem.Spec PyProof.Rows L2 LamX NdefX
open PySem.W (dataLt dataLe alike AllAlike Sortable)
theorem words91_ : True := by
  k_with "s_C13" => first
    | ((with_reducible refine' s_var ?hv ?_); (case hv => exact rfl))
    | with_reducible first
      | refine' s_c ?_ | refine' s_op ?_ | refine' s_asg ?_ | refine' s_gname ?_ | refine' s_seq ?_ | refine' s_next ?_ | refine' s_ret ?_ | refine' s_ifS ?_ | refine' s_drop ?_ | refine' s_retN ?_ | refine' s_test ?_ | refine' s_B ?_ | refine' q_test ?_ | refine' s_int ?_ | refine' s_cons ?_ | refine' s_nil ?_ | refine' s_call ?_ | refine' s_CB ?_ | refine' s_andT ?_ | refine' s_orT ?_ | refine' s_notT ?_ | refine' s_andV ?_ | refine' s_orV ?_ | refine' s_notV ?_ | refine' s_ifV ?_ | refine' s_chain ?_ | refine' s_sl ?_ | refine' s_noPart ?_ | refine' s_part ?_ | refine' s_gsub ?_ | refine' s_BM ?_ | refine' s_tup ?_ | refine' s_lst ?_ | refine' q_add ?_ | refine' q_sub ?_ | refine' q_lt ?_ | refine' q_le ?_ | refine' q_gt ?_ | refine' q_ge ?_ | refine' s_ifT ?_ | refine' s_ifF ?_ | refine' s_yes ?_ | refine' s_iStr ?_ | refine' s_M0 ?_ | refine' s_for ?_ | refine' s_rng1 ?_ | refine' s_par ?_ | refine' s_gcons ?_ | refine' s_gnil ?_ | refine' s_iList ?_ | refine' s_iEnum ?_ | refine' s_raise1 ?_
      | (refine' q_mod ?hm ?_; (case hm => first | omega | decide))
    | dsimp only
  k_with "r_C13" => repeat (k_extra "s_C13")
  trivial
/-! ### changes -/
abbrev Plc : Type := Str × Str
inductive Ch where
  | add (p : Plc)
  | take (p : Plc)
  | ren (p q : Plc)
def Ch.wd : Ch → Str
  | .add _ => "add"
  | .take _ => "take"
  | .ren _ _ => "rename"
def Ch.pcs : Ch → List Plc
  | .add p => [p]
  | .take p => [p]
  | .ren p q => [p, q]
def Ch.gs : Ch → Option Plc
  | .add _ => none
  | .take p => some p
  | .ren p _ => some p
def Ch.cs : Ch → Option Plc
  | .add p => some p
  | .take _ => none
  | .ren _ q => some q
abbrev GC : Type := Int × Ch
def NmP (q : Plc) : Prop := Nm q.1 ∧ Nm q.2
/-- the change z stands in H -/
def ChAt (H : Hp) (x : V) (z : GC) : Prop := ∃ t ys, x = .ref t ∧ H t = some (.tup (.int z.1 :: .str z.2.wd :: ys)) ∧ Pls H ys z.2.pcs
theorem ChAt.mono {H H' : Hp} {x : V} {z : GC} (S : Same H H') : ChAt H x z → ChAt H' x z := fun ⟨t, ys, e, h, p⟩ => ⟨t, ys, e, S _ _ h, p.mono S⟩
theorem ChAt.nl {H H' : Hp} {x : V} {z : GC} (N : NL H H') : ChAt H x z → ChAt H' x z := fun ⟨t, ys, e, h, p⟩ => ⟨t, ys, e, N _ _ h (fun _ z => by cases z), p.nl N⟩
abbrev ChsAt (H : Hp) : List V → List GC → Prop := Paired (ChAt H)
theorem ChsAt.mono {H H' : Hp} {xs : List V} {zs : List GC} (S : Same H H') (h : ChsAt H xs zs) : ChsAt H' xs zs := Paired.mapP h fun _ _ z => z.mono S
theorem ChsAt.nl {H H' : Hp} {xs : List V} {zs : List GC} (N : NL H H') (h : ChsAt H xs zs) : ChsAt H' xs zs := Paired.mapP h fun _ _ z => z.nl N
theorem Paired.get {α β : Type} {R : α → β → Prop} {xs : List α} {zs : List β} (h : Paired R xs zs) : ∀ {i : Nat} {x : α}, xs[i]? = some x → ∃ z, zs[i]? = some z ∧ R x z := by
  induction h with
  | nil => intro i x e; simp at e
  | cons h _ ih =>
    intro i x e
    cases i with
    | zero => cases Option.some.inj e; exact ⟨_, rfl, h⟩
    | succ i =>
      obtain ⟨z, m, p⟩ := ih (i := i) (by simpa using e)
      exact ⟨z, by simpa using m, p⟩
theorem Paired.snoc {α β : Type} {R : α → β → Prop} {xs : List α} {zs : List β} {x : α} {z : β} (h : Paired R xs zs) (r : R x z) : Paired R (xs ++ [x]) (zs ++ [z]) := by
  induction h with
  | nil => exact .cons r .nil
  | cons h _ ih => exact .cons h ih
/-- a place, or None -/
def OpAt (H : Hp) (y : V) : Option Plc → Prop
  | none => y = .non
  | some p => PlAt H y p
theorem OpAt.mono {H H' : Hp} {y : V} {o : Option Plc} (S : Same H H') (h : OpAt H y o) : OpAt H' y o := by
  cases o with
  | none => exact h
  | some p => exact PlAt.mono S h
structure TxtC13 (K : PySem.W.Frag) (mg : Str → Option Value) : Prop where
  d_pl : Df K mg "is_place_list" s_is_place_list ["value"]
  d_ic : Df K mg "is_change" s_is_change ["value"]
  d_goes : Df K mg "goes" s_goes ["change"]
  d_comes : Df K mg "comes" s_comes ["change"]
  d_poss : Df K mg "is_possible" s_is_possible ["change", "standing"]
  d_carry : Df K mg "carry_out" s_carry_out ["change", "standing"]
section
variable {P : Program} {w : World} {K : PySem.W.Frag} {mg : Str → Option Value} {base : Heap}
def spGoes : Sp := fun vs H Q _ => ∃ x z, vs = [x] ∧ ChAt H x z ∧ ∀ y, OpAt H y z.2.gs → Q y H
theorem ok_goes (C : TxtC13 K mg) : Cal P w K mg base 1 "goes" spGoes := by
  refine C.d_goes.cal sc_goes (fun vs H Q E h => ?_) (fun f cdv A outer s H vs Q E hr h => ?_)
  · obtain ⟨x, z, rfl, _⟩ := h
    rfl
  · obtain ⟨x, z, rfl, ⟨t, ys, rfl, ht, hy⟩, k⟩ := h
    refine ⟨_, (pss_one (ps_ret (pe_ifExp (pt_cmpR op_eq (pe_ix ix_seq (pv 0) pe_int (fun _ _ => rfl)) pe_str (by rfl)) pe_non (pe_ix ix_seq (pv 0) pe_int (fun _ _ => rfl))))), ?_⟩
    k_extra "r_C13"
    refine q_ixT (SqT.of ht) (at_of (j := 1) rfl rfl) ?_
    k_extra "r_C13"
    obtain ⟨g, c⟩ := z
    cases c with
    | add p =>
      refine ⟨rfl, q_test (s_if1 (show decide (V.str "add" = V.str "add") = true by decide) ?_)⟩
      k_extra "r_C13"
      exact k _ rfl
    | take p =>
      refine ⟨rfl, q_test (s_if0 (show decide (V.str "take" = V.str "add") = false by decide +kernel) ?_)⟩
      k_extra "r_C13"
      cases hy with
      | cons h hn =>
        cases hn
        refine q_ixT (SqT.of ht) (at_of (j := 2) rfl rfl) ?_
        exact k _ h
    | ren p q =>
      refine ⟨rfl, q_test (s_if0 (show decide (V.str "rename" = V.str "add") = false by decide +kernel) ?_)⟩
      k_extra "r_C13"
      cases hy with
      | cons h hn =>
        refine q_ixT (SqT.of ht) (at_of (j := 2) rfl rfl) ?_
        exact k _ h
def spComes : Sp := fun vs H Q _ => ∃ x z, vs = [x] ∧ ChAt H x z ∧ ∀ y, OpAt H y z.2.cs → Q y H
theorem ok_comes (C : TxtC13 K mg) : Cal P w K mg base 1 "comes" spComes := by
  refine C.d_comes.cal sc_comes (fun vs H Q E h => ?_) (fun f cdv A outer s H vs Q E hr h => ?_)
  · obtain ⟨x, z, rfl, _⟩ := h
    rfl
  · obtain ⟨x, z, rfl, ⟨t, ys, rfl, ht, hy⟩, k⟩ := h
    refine ⟨_, (pss_one (ps_ret (pe_ifExp (pt_cmpR op_eq (pe_ix ix_seq (pv 0) pe_int (fun _ _ => rfl)) pe_str (by rfl)) pe_non (pe_ix ix_seq (pv 0) (pe_un un_neg pe_int) (fun _ _ => rfl))))), ?_⟩
    k_extra "r_C13"
    refine q_ixT (SqT.of ht) (at_of (j := 1) rfl rfl) ?_
    k_extra "r_C13"
    obtain ⟨g, c⟩ := z
    cases c with
    | take p =>
      refine ⟨rfl, q_test (s_if1 (show decide (V.str "take" = V.str "take") = true by decide) ?_)⟩
      k_extra "r_C13"
      exact k _ rfl
    | add p =>
      refine ⟨rfl, q_test (s_if0 (show decide (V.str "add" = V.str "take") = false by decide +kernel) ?_)⟩
      k_extra "r_C13"
      cases hy with
      | cons h hn =>
        cases hn
        refine ⟨_, rfl, q_ixT (SqT.of ht) (atI_last [V.int g, V.str "add"] _) ?_⟩
        exact k _ h
    | ren p q =>
      refine ⟨rfl, q_test (s_if0 (show decide (V.str "rename" = V.str "take") = false by decide +kernel) ?_)⟩
      k_extra "r_C13"
      cases hy with
      | cons h hn =>
        cases hn with
        | cons h2 hn =>
          cases hn
          refine ⟨_, rfl, q_ixT (SqT.of ht) (atI_last [V.int g, V.str "rename", _] _) ?_⟩
          exact k _ h2
theorem Pls.keys {H : Hp} {xs : List V} {ps : List Plc} (h : Pls H xs ps) : ∃ ks : List (Addr × List Key), xs = ks.map (fun p => V.ref p.1) ∧ ks.map (·.2) = ps.map keyOf ∧ ∀ p ∈ ks, H p.1 = some (.tup (p.2.map kV)) := by
  induction h with
  | nil => exact ⟨[], rfl, rfl, fun _ h => by cases h⟩
  | @cons x q _ _ h _ ih =>
    obtain ⟨a, rfl, ha⟩ := h
    obtain ⟨ks, rfl, e, k⟩ := ih
    refine ⟨(a, keyOf q) :: ks, rfl, by rw [List.map_cons, e, List.map_cons], fun p m => ?_⟩
    rcases List.mem_cons.mp m with rfl | m
    · exact ha
    · exact k p m
theorem keys_nd {ps : List Plc} : (ps.map keyOf).Nodup ↔ ps.Nodup := ⟨fun h => List.Pairwise.of_map keyOf (fun _ _ ne e => ne (congrArg keyOf e)) h, fun h => List.Pairwise.map keyOf (fun _ _ ne e => ne (keyOf_inj e)) h⟩
theorem PlAt.placeV {H : Hp} {x : V} {q : Plc} (n : NmP q) : PlAt H x q → PlaceV H x := fun ⟨a, e, h⟩ => ⟨a, _, _, e, h, ⟨_, rfl, n.1⟩, ⟨_, rfl, n.2⟩⟩
/-- is_place of a place -/
theorem q_isPl {H : Hp} {Q : VK} {E : XK} {x : V} {q : Plc} (h : PlAt H x q) (n : NmP q) (k : ∀ H', Same H H' → Q (.bl true) H') : spPlace K [x] H Q E := by
  have pv := h.placeV n
  obtain ⟨a, rfl, ha⟩ := h
  refine ⟨_, _, rfl, Pl.tup ha, fun e => absurd rfl e, fun _ => ⟨a, _, rfl, ha, fun y hy => ?_, fun z => absurd pv z, fun _ H' S => k H' S⟩⟩
  simp only [List.mem_cons, List.not_mem_nil, or_false] at hy
  rcases hy with rfl | rfl
  · exact nm_arg n.1
  · exact nm_arg n.2
def spPlList : Sp := fun vs H Q _ => ∃ q xs ps, vs = [.ref q] ∧ H q = some (.lst xs) ∧ Pls H xs ps ∧ (∀ p ∈ ps, NmP p) ∧ xs.length < 64 ∧ ps.Nodup ∧ ∀ H', Same H H' → Q (.bl true) H'
theorem ok_is_place_list (T : Txt K mg) (N : TxtN K mg) (I : TxtI K mg) (C : TxtC13 K mg) : Cal P w K mg base 3 "is_place_list" spPlList := by
  refine C.d_pl.cal sc_is_place_list (fun vs H Q E h => ?_) (fun f cdv A outer s H vs Q E hr h => ?_)
  · obtain ⟨q, xs, ps, rfl, _⟩ := h
    rfl
  · obtain ⟨q, xs, ps, rfl, hq, pl, nm, hz, nd, k⟩ := h
    have hu := hr.units
    refine ⟨_, (pss_cons (ps_if (pt_not (PW.pt (pw_and (pt_val (pe_callB call_isi (by rfl) T.n_isinstance (by decide +kernel) (pa_cons (pv 0) (pa_cons (pe_bltn (v := .ty "list") (by rfl) T.n_list (by decide +kernel) rfl) pa_nil)))) (pw_and1 (pt_val (pe_callB (call_allB rfl) (by rfl) N.n_all (by decide +kernel) (pa_cons (pe_lc (own := [("item", 1)]) (g := gName 1) (tt := tYes) (te := tCall (spPlace K) [] E0 (tCons (tVar 1) tNil)) rfl sc_is_place_list.nd (pi_list (pv 0)) (blkOk_by (own := [("item", 1)]) (N := ["value", "item"]) (sc := defScope s_is_place_list) (by decide +kernel)) (fun _ _ _ _ _ => pg_name (i := 1) sc_is_place_list.nd rfl (Or.inl rfl)) (fun _ _ _ _ _ => pts_nil) (fun _ _ _ _ _ => by exact (pe_c (ok_is_place T N I) hr (by decide) rfl (pa_cons (pv 1) pa_nil)))) pa_nil))))))) (pss_one (ps_ret pe_bl)) pss_nil)
      (pss_one (ps_ret (pe_cmpR op_eq (pe_callB ST.call_lenK (by rfl) N.n_len (by decide +kernel) (pa_cons (pe_callTy (ST.cr_setK rfl hu) (by rfl) T.n_set (by decide +kernel) (pa_cons (pv 0) pa_nil)) pa_nil)) (pe_callB call_lenQ (by rfl) N.n_len (by decide +kernel) (pa_cons (pv 0) pa_nil)) (by rfl))))), ?_⟩
    k_extra "r_C13"
    refine q_isi (Pl.lst hq) .lst ?_
    k_extra "r_C13"
    refine s_if1 rfl ?_
    k_extra "r_C13"
    refine s_lc ?_
    k_extra "r_C13"
    refine ⟨q, rfl, ⟨_, SqL.of hq⟩, fun D nD => lc_list (K := K) (a := q) (xs := xs) (fun i H' => Same H H' ∧ H' D = some (.lst ((xs.take i).map fun _ => .bl true))) ⟨Same.new nD, upd_same⟩ (fun i H' _ h => SqL.of (h.1 _ _ hq)) ?_ ?_⟩
    · rintro j x H1 hj ⟨S1, h1⟩
      obtain ⟨p, mp, hp⟩ := pl.get hj
      k_extra "r_C13"
      refine ⟨rfl, ?_⟩
      k_extra "r_C13"
      refine q_isPl (hp.mono S1) (nm p mp) fun H2 S2 => ?_
      refine ⟨_, S2 _ _ h1, ?_, same_mut (S1.trans S2) nD, ?_⟩
      · rw [List.length_map, List.length_take]
        exact szlt (by omega)
      · rw [upd_same, take_map_more hj]
    · rintro H1 ⟨S1, h1⟩
      rw [List.take_of_length_le (Nat.le_refl _)] at h1
      k_extra "r_C13"
      refine q_allB (bs := xs.map fun _ => true) (SqL.of (by rw [List.map_map]; exact h1)) ?_
      rw [show (xs.map fun _ => true).all id = true by simp]
      k_extra "r_C13"
      refine s_if0 rfl ?_
      k_extra "r_C13"
      obtain ⟨ks, rfl, e, hk⟩ := pl.keys
      rw [List.length_map] at hz
      refine ST.q_setK ks (SqL.of (S1 _ _ hq)) (fun p m => S1 _ _ (hk p m)) hz fun D H2 L nD2 S2 hD g _ => ?_
      k_extra "r_C13"
      refine ⟨D, L, rfl, hD, ?_⟩
      k_extra "r_C13"
      refine q_lenL (SqL.of ((S1.trans S2) _ _ hq)) ?_
      have eL : L.length = ks.length := g.nd.mpr (by rw [List.take_of_length_le (Nat.le_refl _), e]; exact keys_nd.mpr nd)
      refine ⟨rfl, ?_⟩
      rw [decide_eq_true (by rw [List.length_map, eL])]
      exact k H2 (S1.trans S2)
end
end Bt
namespace Bt
open PySem PySem.Spec PyProof.Rows L2
open PySem.W (dataLt alike)
/-! ### a <= b, a > b of data that are alike; v in o, v not in o by an own __contains__ -/
def rLeD (K : PySem.W.Frag) : R2 := fun x y H Q => ∃ d e, Dp K H x d ∧ Dp K H y e ∧ alike d e = true ∧ d ≠ .none ∧ d.depth ≤ 60 ∧ Q (.bl (!dataLt e d)) H
def rGtD (K : PySem.W.Frag) : R2 := fun x y H Q => ∃ d e, Dp K H x d ∧ Dp K H y e ∧ alike d e = true ∧ d ≠ .none ∧ d.depth ≤ 60 ∧ Q (.bl (dataLt e d)) H
theorem op_leD {X : Cx} (hu : X.A.units + 64 < cLine) : OpR X (compareOp .LtE) (rLeD X.K) := by
  intro pins s σ H x y v u Q I rx ry h
  obtain ⟨d, e, dx, dy, al, nn, dp, q⟩ := h
  obtain ⟨as, r1⟩ := Dp.reads I d x v dx rx
  obtain ⟨bs, r2⟩ := Dp.reads I e y u dy ry
  show wpAny (model X.prog X.w) X.A (richCompare .LtE v u) (EP X pins σ Q) X.xe s
  exact PySem.W.rcLe_alike d e X.A s v u as bs r1 r2 al nn (by omega) X.prog X.w _ _ ⟨.bl _, H, I, rfl, q⟩
theorem op_gtD {X : Cx} (hu : X.A.units + 64 < cLine) : OpR X (compareOp .Gt) (rGtD X.K) := by
  intro pins s σ H x y v u Q I rx ry h
  obtain ⟨d, e, dx, dy, al, nn, dp, q⟩ := h
  obtain ⟨as, r1⟩ := Dp.reads I d x v dx rx
  obtain ⟨bs, r2⟩ := Dp.reads I e y u dy ry
  show wpAny (model X.prog X.w) X.A (richCompare .Gt v u) (EP X pins σ Q) X.xe s
  exact PySem.W.rcGt_alike d e X.A s v u as bs r1 r2 al nn (by omega) X.prog X.w _ _ ⟨.bl _, H, I, rfl, q⟩
theorem q_leD {K : PySem.W.Frag} {x y : V} {H : Hp} {Q : VK} {d e : PyData} (dx : Dp K H x d) (dy : Dp K H y e) (al : alike d e = true) (nn : d ≠ .none) (dp : d.depth ≤ 60) (q : Q (.bl (!dataLt e d)) H) : rLeD K x y H Q := ⟨d, e, dx, dy, al, nn, dp, q⟩
theorem q_gtD {K : PySem.W.Frag} {x y : V} {H : Hp} {Q : VK} {d e : PyData} (dx : Dp K H x d) (dy : Dp K H y e) (al : alike d e = true) (nn : d ≠ .none) (dp : d.depth ≤ 60) (q : Q (.bl (dataLt e d)) H) : rGtD K x y H Q := ⟨d, e, dx, dy, al, nn, dp, q⟩
def rInOwn (K : PySem.W.Frag) (C : Addr) (neg : Bool) (sp : Sp) (E : XK) : R2 := fun x y H Q => ∃ a dx fs, y = .ref a ∧ H a = some (.ins C dx fs) ∧ sp [y, x] H (fun v H' => ∃ b, v = .bl b ∧ Q (.bl (if neg then !b else b)) H') E
theorem op_inOwn {X : Cx} {CX : CXT} {n : Nat} {C f : Addr} {fd : FuncData} {ps : List Str} {sp : Sp} {E : XK} (F : FnOk X.prog X.w X.K X.mg X.base CX n f fd ps sp) (hr : Room n X.A)
    (hs : PySem.W.findIn X.K (.ref C) "__contains__" = some (some (.ref f))) (hf : PySem.W.isFn X.K (.ref f) = true) (hb : Binds X.K fd ps []) (hx : Passes CX X E) : OpR X (compareOp .In) (rInOwn X.K C false sp E) := by
  intro pins s σ H x y v u Q I rx ry hq
  obtain ⟨a, dx, fs, rfl, ha, hsp⟩ := hq
  cases ry
  obtain ⟨mA, J, _⟩ := ins_get I.hok ha
  obtain ⟨od, J, _⟩ := J.look
  obtain ⟨m, hF⟩ := I.fr
  refine PySem.W.in_K hF I.ok.mod.kin J hs hf ?_
  have hl := F.len _ _ _ _ hsp
  have r2 : Vals [V.ref a, x] [Value.ref a, v] := .cons rfl (.cons rx .nil)
  refine wpAny_call (codeAny_mono (F.run X.A X.stack s H ⟨[.ref a, v], []⟩ [.ref a, v] [.ref a, x] _ E hr I.env0 (by
    have := hb s [.ref a, v] I.kIn (by simpa using hl)
    simpa using this) r2 hsp) fun r s' hq => ?_)
  cases r with
  | error e => exact hx pins σ H s e s' I hq
  | ok fl =>
    cases fl with
    | ret w =>
      obtain ⟨z, H', I', rz, b, ez, q⟩ := I.after hq
      subst ez
      cases rz
      exact wpAny_pure (a := b) ⟨.bl b, H', I', rfl, q⟩
    | next => exact False.elim hq
    | brk => exact False.elim hq
    | cont => exact False.elim hq
theorem op_notInOwn {X : Cx} {CX : CXT} {n : Nat} {C f : Addr} {fd : FuncData} {ps : List Str} {sp : Sp} {E : XK} (F : FnOk X.prog X.w X.K X.mg X.base CX n f fd ps sp) (hr : Room n X.A)
    (hs : PySem.W.findIn X.K (.ref C) "__contains__" = some (some (.ref f))) (hf : PySem.W.isFn X.K (.ref f) = true) (hb : Binds X.K fd ps []) (hx : Passes CX X E) : OpR X (compareOp .NotIn) (rInOwn X.K C true sp E) := by
  intro pins s σ H x y v u Q I rx ry hq
  obtain ⟨a, dx, fs, rfl, ha, hsp⟩ := hq
  cases ry
  obtain ⟨mA, J, _⟩ := ins_get I.hok ha
  obtain ⟨od, J, _⟩ := J.look
  obtain ⟨m, hF⟩ := I.fr
  refine PySem.W.notIn_K hF I.ok.mod.kin J hs hf ?_
  have hl := F.len _ _ _ _ hsp
  have r2 : Vals [V.ref a, x] [Value.ref a, v] := .cons rfl (.cons rx .nil)
  refine wpAny_call (codeAny_mono (F.run X.A X.stack s H ⟨[.ref a, v], []⟩ [.ref a, v] [.ref a, x] _ E hr I.env0 (by
    have := hb s [.ref a, v] I.kIn (by simpa using hl)
    simpa using this) r2 hsp) fun r s' hq => ?_)
  cases r with
  | error e => exact hx pins σ H s e s' I hq
  | ok fl =>
    cases fl with
    | ret w =>
      obtain ⟨z, H', I', rz, b, ez, q⟩ := I.after hq
      subst ez
      cases rz
      exact wpAny_pure (a := b) ⟨.bl (!b), H', I', rfl, q⟩
    | next => exact False.elim hq
    | brk => exact False.elim hq
    | cont => exact False.elim hq
end Bt
namespace Bt
open PySem PySem.Spec PyProof.Rows L2
/-! ### len(o), o[i], o += v, o an instance with an own __len__, __getitem__, __iadd__ -/
section
variable {X : Cx} {CX : CXT} {n : Nat} {C f : Addr} {fd : FuncData} {ps : List Str} {sp : Sp} {E : XK}
/-- an own method called with the values vs: the run -/
theorem own_run {A : Around} {pins : List (Addr × Obj)} {σ : L2.St} {H : Hp} {s : Shared} {us : List Value} {vs : List V} {Q : VK} {Qv : Value → Shared → Prop} {E' : Value → Shared → Prop} (F : FnOk X.prog X.w X.K X.mg X.base CX n f fd ps sp) (hr : Room n A)
    (e0 : Env0 X.prog X.w X.K X.mg X.base A X.stack s H) (hb : Binds X.K fd ps []) (I : Inv X pins σ H s) (r : Vals vs us) (h : sp vs H Q E) (hv : ∀ v s', EP X pins σ Q v s' → Qv v s')
    (hx : ∀ e s', CX X.stack H s E e s' → E' e s') : wpAny (model X.prog X.w) A (call (.ref f) us) Qv E' s := by
  have hl := F.len _ _ _ _ h
  have hl' : (us ++ []).length = ps.length := by rw [List.append_nil, ← r.length]; exact hl
  have hb' := hb s us I.kIn hl'
  rw [List.append_nil] at hb'
  refine wpAny_call (codeAny_mono (F.run A X.stack s H ⟨us, []⟩ us vs Q E hr e0 hb' r h) fun r s' hq => ?_)
  cases r with
  | error e => exact hx e s' hq
  | ok fl =>
    cases fl with
    | ret u => exact hv u s' (I.after hq)
    | next => exact False.elim hq
    | brk => exact False.elim hq
    | cont => exact False.elim hq
def rLenOwn (C : Addr) (sp : Sp) (E : XK) : List V → Hp → VK → Prop := fun xs H Q => ∃ a dx fs, xs = [.ref a] ∧ H a = some (.ins C dx fs) ∧ sp [.ref a] H (fun v H' => ∃ m : Int, v = .int m ∧ 0 ≤ m ∧ m < 2 ^ 63 ∧ Q (.int m) H') E
theorem call_lenOwn (F : FnOk X.prog X.w X.K X.mg X.base CX n f fd ps sp) (hr : Room (n + 1) X.A) (hs : PySem.W.findIn X.K (.ref C) "__len__" = some (some (.ref f))) (hf : PySem.W.isFn X.K (.ref f) = true) (hb : Binds X.K fd ps []) (hx : Passes CX X E) :
    CallR X (.builtin "len") (rLenOwn C sp E) := by
  intro pins s σ H xs us Q I rv h
  obtain ⟨a, dx, fs, rfl, ha, hsp⟩ := h
  obtain ⟨u, rfl, ru⟩ := rv.one
  cases ru
  obtain ⟨mA, J, _⟩ := ins_get I.hok ha
  obtain ⟨od, J, _⟩ := J.look
  obtain ⟨m, hF⟩ := I.fr
  refine PySem.W.len_K hF I.ok.mod.kin J hs hf ?_
  refine own_run F hr.in1 I.env0.in1 hb I (.cons (show RelV (.ref a) (.ref a) from rfl) .nil) hsp (fun v s' hq => ?_) (fun e s' hq => hx pins σ H s e s' I hq)
  obtain ⟨z, H', I', rz, k, ez, k0, k1, q⟩ := hq
  subst ez
  obtain ⟨t, rfl⟩ := rz
  exact ⟨⟨k0, k1⟩, .int k, H', I'.tok _, ⟨_, rfl⟩, q⟩
theorem s_lenOwn {K : PySem.W.Frag} {a : Addr} {H : Hp} {Q : VK} {dx : Addr} {fs : List (Str × V)} (ha : H a = some (.ins C dx fs)) (h : sp [.ref a] H (fun v H' => ∃ m : Int, v = .int m ∧ 0 ≤ m ∧ m < 2 ^ 63 ∧ Q (.int m) H') E) : rLenOwn C sp E [.ref a] H Q := ⟨a, dx, fs, rfl, ha, h⟩
/-- o += v, the own __iadd__ gives an instance -/
def rIaddOwn (C : Addr) (sp : Sp) (E : XK) : V → V → Hp → VK → Prop := fun x y H Q => ∃ a dx fs, x = .ref a ∧ H a = some (.ins C dx fs) ∧ sp [x, y] H (fun v H' => ∃ b, v = .ref b ∧ Q v H') E
theorem in_iaddOwn (F : FnOk X.prog X.w X.K X.mg X.base CX n f fd ps sp) (hr : Room n X.A) (hc : PySem.W.selfFirst X.K C = true) (hs : PySem.W.findIn X.K (.ref C) "__iadd__" = some (some (.ref f))) (hf : PySem.W.isFn X.K (.ref f) = true) (hb : Binds X.K fd ps []) (hx : Passes CX X E) :
    InOp X .Add (rIaddOwn C sp E) := by
  intro pins s σ H x y u v Q I rx ry h
  obtain ⟨a, dx, fs, rfl, ha, hsp⟩ := h
  cases rx
  obtain ⟨mA, J, _⟩ := ins_get I.hok ha
  obtain ⟨od, J, _⟩ := J.look
  obtain ⟨m, hF⟩ := I.fr
  refine PySem.W.ksp_inplace hF I.ok.mod.kin J hc hs hf ?_
  refine own_run F hr I.env0 hb I (.cons (show RelV (.ref a) (.ref a) from rfl) (.cons ry .nil)) hsp (fun v s' hq => ?_) (fun e s' hq => hx pins σ H s e s' I hq)
  obtain ⟨z, H', I', rz, b, ez, q⟩ := hq
  subst ez
  cases rz
  exact ⟨.ref b, H', I', rfl, q⟩
/-- o[i] -/
def tIxOwn (C : Addr) (sp : Sp) (E : XK) (to ti : TE) : TE := fun σ H Q => to σ H fun x H1 => ti σ H1 fun y H2 => ∃ a dx fs, x = .ref a ∧ H2 a = some (.ins C dx fs) ∧ sp [x, y] H2 Q E
theorem pe_ixOwn {o i : Expr} {pos : Pos} {to ti : TE} (ho : PE X o to) (hi : PE X i ti) (F : FnOk X.prog X.w X.K X.mg X.base CX n f fd ps sp) (hr : Room (n + 1) X.A) (hs : PySem.W.findIn X.K (.ref C) "__getitem__" = some (some (.ref f))) (hf : PySem.W.isFn X.K (.ref f) = true) (hfi : PySem.W.fnIn X.K f = true)
    (hb : Binds X.K fd ps []) (hx : Passes CX X E) (hn : ∀ a v, subscripted i true (.ref a) v = runValue (.builtin "lifetime.subscript" ⟨[.ref a, v], []⟩) := by intro _ _; rfl) : PE X (.Subscript o i pos) (tIxOwn C sp E to ti) := by
  refine ⟨fun pins s σ H Q I h => ?_⟩
  refine Subscript_ (thn (ho.run pins s σ H _ I h) fun u s1 ⟨x, H1, I1, rx, q1⟩ => thn (hi.run pins s1 σ H1 _ I1 q1) fun v s2 ⟨y, H2, I2, ry, a, dx, fs, ex, ha, hsp⟩ => ?_)
  subst ex
  cases rx
  obtain ⟨mA, J, _⟩ := ins_get I2.hok ha
  obtain ⟨od, J, _⟩ := J.look
  obtain ⟨m, hF⟩ := I2.fr
  refine PySem.W.sub_K hF I2.ok.mod.kin J hs hfi hf ?_ (hn a v)
  exact own_run F hr.in1 I2.env0.in1 hb I2 (.cons (show RelV (.ref a) (.ref a) from rfl) (.cons ry .nil)) hsp (fun v s' hq => hq) (fun e s' hq => hx pins σ H2 s2 e s' I2 hq)
theorem s_ixOwn {to ti : TE} {σ : L2.St} {H : Hp} {Q : VK} (h : to σ H fun x H1 => ti σ H1 fun y H2 => ∃ a dx fs, x = .ref a ∧ H2 a = some (.ins C dx fs) ∧ sp [x, y] H2 Q E) : tIxOwn C sp E to ti σ H Q := h
end
end Bt
namespace Bt
namespace DT
open PySem PySem.Spec PyProof.Rows L2
/-! ### dicts whose keys are tuples of texts: {k: v for .. in ..}, del d[k] -/
section
variable {X : Cx} {pins : List (Addr × Obj)} {σ : L2.St} {H : Hp} {s : Shared} {a : Addr} {kvs : List (List Key × V)} {A : Around} {E : Value → Shared → Prop}
theorem KT.drop {H : Hp} {kvs : List (List Key × V)} {xs : List (List Key × Addr × Value)} (r : KT H kvs xs) (k : List Key) : KT H (dropK kvs k) (withoutH xs k) := by
  induction r with
  | nil => exact .nil
  | @cons p q ps qs h t ih =>
    unfold dropK withoutH at ih ⊢
    by_cases e : p.1 = k
    · rw [List.filter_cons_of_neg (by simp [e]), List.filter_cons_of_neg (by simp [← h.1, e])]
      exact ih
    · rw [List.filter_cons_of_pos (by simp [e]), List.filter_cons_of_pos (by simp [← h.1, e])]
      exact .cons h ih
theorem KT.away {H : Hp} {xs : List (List Key × Addr × Value)} {u : HO} (e : H a = some u) (n : ∀ ys, u ≠ .tup ys) (ob : HO) (r : KT H kvs xs) : KT (upd H a ob) kvs xs :=
  r.keeps fun c ys ec => by rw [upd_ne (fun z => by rw [z, e] at ec; exact n _ (Option.some.inj ec))]; exact ec
theorem d_dictSetT {D b : Addr} {k : List Key} {v : V} {r : Value} {Q : Unit → Shared → Prop} (hu : X.A.units < cLine) (I : Inv X pins σ H s) (hD : H D = some (.dT kvs)) (hz : kvs.length < sizeLine) (hb : H b = some (.tup (k.map kV)))
    (rv : RelV v r) (h : ∀ s', Inv X pins σ (upd H D (.dT (putK kvs k v))) s' → Q () s') : wpAny (model X.prog X.w) X.A (dictSet D (.ref b) r) Q E s := by
  obtain ⟨z, hd, xs, rel, dd⟩ := dt_of I.hok hD
  have lx : xs.length ≤ sizeLine := by rw [← Paired.length rel]; exact z
  have lp := length_putK kvs k v
  refine wpAny_dictSet_heap (knd := tupleKind (mixKind X.prog X.w)) (k := k) (hsz := lx) hu (key_of I.hok hb) dd fun h' dd' hs => h _ ?_
  obtain ⟨q, es, ep, hq, h2, h3, h4, _, h5⟩ := dd'
  exact d_write I (by rw [hD]; exact True.intro) hs ⟨q, hq⟩ ⟨by omega, hd, _, KT.away hD (fun _ z => nomatch z) _ (rel.put k hb rv), q, es, ep, hq, h2, h3, h4, h5⟩
theorem d_delT {b : Addr} {k : List Key} {Q : Unit → Shared → Prop} (hu : A.units + 1 < cLine) (I : Inv X pins σ H s) (e : H a = some (.dT kvs)) (hb : H b = some (.tup (k.map kV))) (l : (valV kvs k).isSome = true)
    (h : ∀ s', Inv X pins σ (upd H a (.dT (dropK kvs k))) s' → Q () s') : wpAny (model X.prog X.w) A (delItem (.ref a) (.ref b)) Q E s := by
  obtain ⟨z, hd, xs, rel, dd⟩ := dt_of I.hok e
  have lx : xs.length ≤ sizeLine := by rw [← Paired.length rel]; exact z
  have is := (rel.val k).isSome_eq
  rw [l, Option.isSome_map] at is
  obtain ⟨p, hp⟩ := Option.isSome_iff_exists.mp is.symm
  refine wpAny_delItem_heap (hsz := lx) (tupleKind_room_in1 hu) (key_of I.hok hb) hd dd hp fun h' dd' hs => h _ ?_
  obtain ⟨q, es, ep, hq, h2, h3, h4, _, h5⟩ := dd'
  exact d_write I (by rw [e]; exact True.intro) hs ⟨q, hq⟩ ⟨Nat.le_trans (dropK_le kvs k) z, hd, _, KT.away e (fun _ z => nomatch z) _ (KT.drop rel k), q, es, ep, hq, h2, h3, h4, h5⟩
end
def sDDelT (td ty : TE) : TS := fun D σ H => td σ H fun x H1 => ty σ H1 fun y H2 => ∃ a b kvs k, x = .ref a ∧ y = .ref b ∧ H2 a = some (.dT kvs) ∧ H2 b = some (.tup (k.map kV)) ∧ (valV kvs k).isSome = true ∧ D.nx σ (upd H2 a (.dT (dropK kvs k)))
theorem ps_ddelT {X : Cx} {o i : Expr} {pos tpos : Pos} {td ty : TE} (hu : X.A.units + 1 < cLine) (ho : PE X o td) (hi : PE X i ty) : PS X (.Delete [.Subscript o i tpos] pos) (sDDelT td ty) := by
  refine ⟨fun pins s σ H D I h => wpAny_Delete (wpAny_deleteEach_cons (wpAny_delete_Subscript (thn (ho.run pins s σ H _ I h) fun u s1 ⟨x, H1, I1, rx, q1⟩ => thn (hi.run pins s1 σ H1 _ I1 q1) fun v s2 ⟨y, H2, I2, ry, a, b, kvs, k, ex, ey, e, hb, l, q2⟩ => ?_)))⟩
  subst ex ey
  cases rx
  cases ry
  exact d_delT hu I2 e hb l fun s3 I3 => wpAny_deleteEach_nil ⟨σ, _, I3, q2⟩
theorem s_ddelT {td ty : TE} {D : Ends} {σ : L2.St} {H : Hp} (h : td σ H fun x H1 => ty σ H1 fun y H2 => ∃ a b kvs k, x = .ref a ∧ y = .ref b ∧ H2 a = some (.dT kvs) ∧ H2 b = some (.tup (k.map kV)) ∧ (valV kvs k).isSome = true ∧ D.nx σ (upd H2 a (.dT (dropK kvs k)))) : sDDelT td ty D σ H := h
/-- what one turn gives: the key, its value -/
def putT (D : Addr) (y z : V) (H : Hp) (N : Hp → Prop) : Prop := ∃ (b : Addr) (k : List Key) (kvs : List (List Key × V)), y = .ref b ∧ H b = some (.tup (k.map kV)) ∧ H D = some (.dT kvs) ∧ kvs.length < sizeLine ∧ N (upd H D (.dT (putK kvs k z)))
def tDcT (wi : TI) (g : TG) (tt : TT) (tk tv : TE) (vs : List Nat) : TE := fun σ H Q => wi σ H fun J H1 => ∀ D, H1 D = none → ∃ W : Nat → Nat → Hp → Prop, (∃ m, W 0 m (upd H1 D (.dT []))) ∧ ∀ i m H, W i m H →
  (J.stop i H ∧ Q (.ref D) H) ∨ (J.go i H ∧ ∃ Nx : Hp → Prop, (∀ H', Nx H' → ∃ m', m' < m ∧ W (i + 1) m' H') ∧ ∀ x H', J.yld i H x H' → g x (wipe σ vs) H' fun σ2 H2 => wipe σ2 vs = wipe σ vs ∧ tt σ2 H2 fun b H3 =>
    if b = true then tk σ2 H3 fun y H4 => tv σ2 H4 fun z H5 => putT D y z H5 Nx else Nx H3)
section
variable {X : Cx}
theorem dcT_run {pins : List (Addr × Obj)} {σ : L2.St} {Q : VK} {kx vx tg iter : Expr} {ifs : List Expr} {scope : Scope} {own : List (Str × Nat)} {pos : Pos} {g : TG} {tt : TT} {tk tv : TE} {J : It} {fp : List Addr} {it D : Addr} {tn : Nat → Heap → Prop} {s3 : Shared} {H3 : Hp} {W : Nat → Nat → Hp → Prop} {m0 : Nat} {use : Option (Value → Sem Unit)} {Qf : Value → Shared → Prop}
    (hc : X.calm = true) (hu : X.A.units + 2 < cLine) (hN : X.N.Nodup) (ok : BlkOk X.N X.env.scope scope own)
    (hg : ∀ (s : Shared) (H : Hp) (C : Addr) (cl : List (Str × Addr)) (fp : List Addr), PG (X.blk s H scope (compEnvC scope cl C X.env) fp) tg g) (ht : ∀ (s : Shared) (H : Hp) (C : Addr) (cl : List (Str × Addr)) (fp : List Addr), PTs (X.blk s H scope (compEnvC scope cl C X.env) fp) ifs tt)
    (hk : ∀ (s : Shared) (H : Hp) (C : Addr) (cl : List (Str × Addr)) (fp : List Addr), PE (X.blk s H scope (compEnvC scope cl C X.env) fp) kx tk) (he : ∀ (s : Shared) (H : Hp) (C : Addr) (cl : List (Str × Addr)) (fp : List Addr), PE (X.blk s H scope (compEnvC scope cl C X.env) fp) vx tv)
    (ends : ∀ C s' m H', Inv X pins σ H' s' → Q (.ref D) H' → s'.heap.Ns C m → FpOk X pins H' C → compPost (model X.prog X.w) X.A X.xe use Qf (.ref D) C (.ok .next) s')
    (T : Turn X.prog X.w X.K tg J fp it tn) (I3 : Inv X pins σ H3 s3) (f3 : ∀ b ∈ fp, FpOk X pins H3 b ∧ b < s3.heap.objs.size) (st3 : tn 0 s3.heap) (w0 : W 0 m0 H3)
    (turn : ∀ i m H, W i m H → (J.stop i H ∧ Q (.ref D) H) ∨ (J.go i H ∧ ∃ Nx : Hp → Prop, (∀ H', Nx H' → ∃ m', m' < m ∧ W (i + 1) m' H') ∧ ∀ x H', J.yld i H x H' → g x (wipe σ (own.map (·.2))) H' fun σ2 H2 => wipe σ2 (own.map (·.2)) = wipe σ (own.map (·.2)) ∧ tt σ2 H2 fun b H3 =>
      if b = true then tk σ2 H3 fun y H4 => tv σ2 H4 fun z H5 => putT D y z H5 Nx else Nx H3)) :
    codeAny (model X.prog X.w) X.A (.compStart (.DictComp kx vx [⟨tg, iter, ifs, 0⟩] scope pos) 0 (.ref it) (.ref D) (compEnvC scope (cellsFrom (s3.heap.objs.size + 1) scope.names (cloFrom X.env.cells scope.names [])) s3.heap.objs.size X.env))
      (compPost (model X.prog X.w) X.A X.xe use Qf (.ref D) s3.heap.objs.size) { s3 with heap := pushCells (s3.heap.push { cls := .type "dict", data := .dict #[] }) scope.names } := by
  have I4 := block_start I3 ok hN f3
  obtain ⟨cells, hcells⟩ : ∃ c, c = cellsFrom (s3.heap.objs.size + 1) scope.names (cloFrom X.env.cells scope.names []) := ⟨_, rfl⟩
  rw [← hcells] at I4 ⊢
  have pg := hg s3 H3 s3.heap.objs.size cells fp
  have pt := ht s3 H3 s3.heap.objs.size cells fp
  have pk := hk s3 H3 s3.heap.objs.size cells fp
  have pe := he s3 H3 s3.heap.objs.size cells fp
  have cL : (compEnvC scope cells s3.heap.objs.size X.env).locals = s3.heap.objs.size := rfl
  generalize compEnvC scope cells s3.heap.objs.size X.env = ce at I4 pg pt pk pe cL ⊢
  have st4 : tn 0 ({ s3 with heap := pushCells (s3.heap.push { cls := .type "dict", data := .dict #[] }) scope.names } : Shared).heap := T.keep _ _ (pushCells (s3.heap.push { cls := .type "dict", data := .dict #[] }) scope.names) st3 fun b _ o e => pushCells_keeps _ _ _ _ (Heap.get?_push_of_some _ e)
  have own' : ∀ {σ' : L2.St} {H' : Hp} {s' : Shared}, Inv (X.blk s3 H3 scope ce fp) [] σ' H' s' → (∀ b ∈ fp, H' b = none) → ∀ b ∈ fp, FpOk (X.blk s3 H3 scope ce fp) [] H' b := fun I' hn b hb =>
    ⟨hn b hb, (I'.ok.exf b hb).1, I'.ok.exfs b hb, .inl hb, fun x c e => (I'.ok.exf b hb).2 x c e, fun p hp => nomatch hp⟩
  generalize ({ s3 with heap := pushCells (s3.heap.push { cls := .type "dict", data := .dict #[] }) scope.names } : Shared) = s4 at I4 st4 ⊢
  have nofp : ∀ b ∈ fp, H3 b = none := fun b hb => (f3 b hb).1.1
  have loop : codeAny (model X.prog X.w) X.A (.compLoop (.DictComp kx vx [⟨tg, iter, ifs, 0⟩] scope pos) 0 (.ref it) (.ref D) ce) (compPost (model X.prog X.w) X.A X.xe use Qf (.ref D) s3.heap.objs.size) s4 := by
    refine compLoop_anyD (fun n s' => ∃ i H', Inv (X.blk s3 H3 scope ce fp) [] (wipe σ (own.map (·.2))) H' s' ∧ tn i s'.heap ∧ (∀ b ∈ fp, H' b = none) ∧ W i n H') ?_ m0 ⟨0, H3, I4, st4, nofp, w0⟩
    rintro n s5 ⟨i, H5, I5, st5, n5, w5⟩
    rcases turn i n H5 w5 with ⟨stop, qq⟩ | ⟨go, Nx, hNx, step⟩
    · refine thnF (T.done (X.blk s3 H3 scope ce fp) rfl rfl rfl hc i [] s5 _ H5 (fun _ _ => False) I5 (own' I5 n5) st5 stop) fun r s6 ⟨hr, I6⟩ => ?_
      subst hr
      have I7 : Inv X pins σ H5 s6 := I3.call' (ch := fp) I6.os I6.base I6.hok I6.bare fun b hb => ⟨(f3 b hb).1.2.2.2.1, (f3 b hb).1.2.1, (f3 b hb).1.2.2.2.2.1, (f3 b hb).1.2.2.2.2.2⟩
      have nC : H5 s3.heap.objs.size = none := cL ▸ (show H5 ce.locals = none from I6.free)
      obtain ⟨m, hn, _⟩ := I6.loc
      have hn' : s6.heap.Ns s3.heap.objs.size m := cL ▸ (show s6.heap.Ns ce.locals m from hn)
      exact ends s3.heap.objs.size s6 m H5 I7 qq hn' (I3.fpOk (Nat.le_refl _) nC)
    · refine thnF (T.item (X.blk s3 H3 scope ce fp) rfl rfl rfl hc i [] s5 _ H5 (fun _ _ => False) I5 (own' I5 n5) st5 go) fun r s6 ⟨u, hr, h6⟩ => ?_
      subst hr
      refine thnF h6 fun _ s7 ⟨x, H7, I7, r7, y7, st7, n7⟩ => ?_
      have I7' := I7.pinned (own' I7 n7) (T.obj _ _ st7)
      refine thnF (pg.run _ s7 _ H7 x u _ I7' r7 (step x H7 y7)) fun _ s8 ⟨σ8, H8, I8, hw8, q8⟩ => ?_
      refine thnF (pt.run _ s8 σ8 H8 _ I8 q8) fun b s9 ⟨H9, I9, q9⟩ => ?_
      have fin : ∀ {s' : Shared} {H' : Hp}, Inv (X.blk s3 H3 scope ce fp) ([] ++ pinsAt fp s7.heap) σ8 H' s' → Nx H' → ∃ m, m < n ∧ ∃ i H', Inv (X.blk s3 H3 scope ce fp) [] (wipe σ (own.map (·.2))) H' s' ∧ tn i s'.heap ∧ (∀ b ∈ fp, H' b = none) ∧ W i m H' := fun {s' H'} I' nx => by
        obtain ⟨m', hm, w'⟩ := hNx H' nx
        have pin : ∀ b ∈ fp, ∀ o, s7.heap.get? b = some o → s'.heap.get? b = some o ∧ H' b = none := fun b hb o e =>
          let z := I'.pin (b, o) (List.mem_append_right _ (List.mem_append_right _ (mem_pinsAt hb e)))
          ⟨z.1, z.2.1⟩
        refine ⟨m', hm, i + 1, H', (I'.unpinned (pins := [])).weak (by rw [← hw8, wipe_length]) (fun j v e => (wipe_some (hw8 ▸ e)).1), T.keep _ _ _ st7 fun b hb o e => (pin b hb o e).1, fun b hb => ?_, w'⟩
        obtain ⟨o, e, _⟩ := T.obj _ _ st7 b hb
        exact (pin b hb o e).2
      cases b with
      | false =>
        simp only [Bool.false_eq_true, if_false] at q9 ⊢
        exact fin I9 q9
      | true =>
        simp only [if_true] at q9 ⊢
        refine thnF (pk.run _ s9 σ8 H9 _ I9 q9) fun z s10 ⟨yk, H10, I10, r10, q10⟩ => ?_
        refine thnF (pe.run _ s10 σ8 H10 _ I10 q10) fun z2 s11 ⟨yv, H11, I11, r11, b, k, kvs, ek, hb, hD, hz, nx⟩ => ?_
        subst ek
        cases r10
        exact d_dictSetT (X := X.blk s3 H3 scope ce fp) (by show X.A.units < cLine; omega) I11 hD hz hb r11 fun s12 I12 => fin I12 nx
  exact codeAny_compStart_dict loop (T.self X.A 0 _ _ _ st4 loop)
theorem dcT_core {pins : List (Addr × Obj)} {σ : L2.St} {H : Hp} {Q : VK} {s : Shared} {pos' : Pos} {use : Option (Value → Sem Unit)} {Qf : Value → Shared → Prop} {kx vx tg iter : Expr} {ifs : List Expr} {scope : Scope} {own : List (Str × Nat)} {pos : Pos} {wi : TI} {g : TG} {tt : TT} {tk tv : TE} (hc : X.calm = true) (hu : X.A.units + 2 < cLine) (hN : X.N.Nodup) (hi : PI X tg iter wi) (ok : BlkOk X.N X.env.scope scope own)
    (hg : ∀ (s : Shared) (H : Hp) (C : Addr) (cl : List (Str × Addr)) (fp : List Addr), PG (X.blk s H scope (compEnvC scope cl C X.env) fp) tg g) (ht : ∀ (s : Shared) (H : Hp) (C : Addr) (cl : List (Str × Addr)) (fp : List Addr), PTs (X.blk s H scope (compEnvC scope cl C X.env) fp) ifs tt)
    (hk : ∀ (s : Shared) (H : Hp) (C : Addr) (cl : List (Str × Addr)) (fp : List Addr), PE (X.blk s H scope (compEnvC scope cl C X.env) fp) kx tk) (he : ∀ (s : Shared) (H : Hp) (C : Addr) (cl : List (Str × Addr)) (fp : List Addr), PE (X.blk s H scope (compEnvC scope cl C X.env) fp) vx tv) (hs : ∀ x, foldedSetIterable iter X.env x = pure x := by intro _; rfl) (I : Inv X pins σ H s) (h : tDcT wi g tt tk tv (own.map (·.2)) σ H Q)
    (ends : ∀ D C s' m H', Inv X pins σ H' s' → Q (.ref D) H' → s'.heap.Ns C m → FpOk X pins H' C → compPost (model X.prog X.w) X.A X.xe use Qf (.ref D) C (.ok .next) s') :
    wpAny (model X.prog X.w) X.A (comprehension (.DictComp kx vx [⟨tg, iter, ifs, 0⟩] scope pos) scope X.env pos' newDict false (eval iter X.env) use) Qf X.xe s := by
  have known : ∀ y ∈ scope.names, y.2 = .free → ∃ c, X.env.cells.lookup y.1 = some c := fun y hy e => I.ok.has _ (ok.free y hy e)
  refine wpAny_comprehension_free (use := use) rfl hs (closure_ok known) ok.kind (fun y hy e => by rw [ok.uniq y hy, e]) (thn (hi.run pins s σ H _ I h) fun xv s1 hx => thn hx fun itv s2 ⟨it, fp, tn, J, H2, ei, I2, T, st2, f2, q⟩ => ?_)
  subst ei
  refine wpAny_newObj_type (newEnv_comp ?_)
  have hDn : H2 s2.heap.objs.size = none := I2.hok.fresh (Nat.le_refl _)
  obtain ⟨W, ⟨m0, w0⟩, turn⟩ := q _ hDn
  have I3 : Inv X pins σ (upd H2 s2.heap.objs.size (.dT [])) { s2 with heap := s2.heap.push { cls := .type "dict", data := .dict #[] } } :=
    I2.laid (t' := s2.toks) (fun b o e => Heap.get?_push_of_some _ e) (Nat.le_refl _) (dt_empty s2.heap I2.big)
  have f3 : ∀ b ∈ fp, FpOk X pins (upd H2 s2.heap.objs.size (.dT [])) b ∧ b < (s2.heap.push { cls := .type "dict", data := .dict #[] }).objs.size := fun b hb => by
    obtain ⟨o, e, _⟩ := T.obj _ _ st2 b hb
    have lt := Heap.lt_size e
    refine ⟨⟨by rw [upd_ne (Nat.ne_of_lt lt)]; exact (f2 b hb).1, (f2 b hb).2⟩, by rw [Heap.size_push]; exact Nat.lt_succ_of_lt lt⟩
  have st3 := T.keep _ _ (s2.heap.push { cls := .type "dict", data := .dict #[] }) st2 fun b _ o e => Heap.get?_push_of_some _ e
  exact dcT_run (pos := pos) hc hu hN ok hg ht hk he (ends _) T I3 f3 st3 w0 turn
theorem pe_dcT {kx vx tg iter : Expr} {ifs : List Expr} {scope : Scope} {own : List (Str × Nat)} {pos : Pos} {wi : TI} {g : TG} {tt : TT} {tk tv : TE} (hc : X.calm = true) (hu : X.A.units + 2 < cLine) (hN : X.N.Nodup) (hi : PI X tg iter wi) (ok : BlkOk X.N X.env.scope scope own)
    (hg : ∀ (s : Shared) (H : Hp) (C : Addr) (cl : List (Str × Addr)) (fp : List Addr), PG (X.blk s H scope (compEnvC scope cl C X.env) fp) tg g) (ht : ∀ (s : Shared) (H : Hp) (C : Addr) (cl : List (Str × Addr)) (fp : List Addr), PTs (X.blk s H scope (compEnvC scope cl C X.env) fp) ifs tt)
    (hk : ∀ (s : Shared) (H : Hp) (C : Addr) (cl : List (Str × Addr)) (fp : List Addr), PE (X.blk s H scope (compEnvC scope cl C X.env) fp) kx tk) (he : ∀ (s : Shared) (H : Hp) (C : Addr) (cl : List (Str × Addr)) (fp : List Addr), PE (X.blk s H scope (compEnvC scope cl C X.env) fp) vx tv) (hs : ∀ x, foldedSetIterable iter X.env x = pure x := by intro _; rfl) :
    PE X (.DictComp kx vx [⟨tg, iter, ifs, 0⟩] scope pos) (tDcT wi g tt tk tv (own.map (·.2))) := by
  refine ⟨fun pins s σ H Q I h => ?_⟩
  rw [arm_eval_DictComp]
  refine dcT_core hc hu hN hi ok hg ht hk he hs I h fun D C s' m H' I' q hn ⟨f0, f1, f2, f3, f4, f5⟩ => ⟨m, hn, fun h'' sb => ⟨.ref D, H', I'.turned (t' := s'.toks) (fun b o hb e => (sb.2 b hb).trans e) f0 f1 f3 f4 f5, rfl, q⟩⟩
/-- name = {..} on one line, the name a local -/
theorem ps_setDcT {i : Nat} {y : Str} {py spos : Pos} {kx vx tg iter : Expr} {ifs : List Expr} {scope : Scope} {own : List (Str × Nat)} {pos : Pos} {wi : TI} {g : TG} {tt : TT} {tk tv : TE} (hy : X.N[i]? = some y) (hyl : X.env.scope.names.lookup y = some .local) (hsw : swapsWith (.DictComp kx vx [⟨tg, iter, ifs, 0⟩] scope pos) (some (.Name y py)) spos.line X.env = pure true) (hc : X.calm = true) (hu : X.A.units + 2 < cLine) (hN : X.N.Nodup) (hi : PI X tg iter wi) (ok : BlkOk X.N X.env.scope scope own)
    (hg : ∀ (s : Shared) (H : Hp) (C : Addr) (cl : List (Str × Addr)) (fp : List Addr), PG (X.blk s H scope (compEnvC scope cl C X.env) fp) tg g) (ht : ∀ (s : Shared) (H : Hp) (C : Addr) (cl : List (Str × Addr)) (fp : List Addr), PTs (X.blk s H scope (compEnvC scope cl C X.env) fp) ifs tt)
    (hk : ∀ (s : Shared) (H : Hp) (C : Addr) (cl : List (Str × Addr)) (fp : List Addr), PE (X.blk s H scope (compEnvC scope cl C X.env) fp) kx tk) (he : ∀ (s : Shared) (H : Hp) (C : Addr) (cl : List (Str × Addr)) (fp : List Addr), PE (X.blk s H scope (compEnvC scope cl C X.env) fp) vx tv) (hs : ∀ x, foldedSetIterable iter X.env x = pure x := by intro _; rfl) :
    PS X (.Assign [.Name y py] (.DictComp kx vx [⟨tg, iter, ifs, 0⟩] scope pos) spos) (tAsg (tDcT wi g tt tk tv (own.map (·.2))) (gName i)) := by
  refine ⟨fun pins s σ H D I h => ?_⟩
  rw [exec_Assign_Name_used _ _ _ _ hsw]
  refine wpAny_bind (wpAny_standAt (wpAny_bind ?_))
  have h' : tDcT wi g tt tk tv (own.map (·.2)) σ H (fun x H1 => gName i x σ H1 D.nx) := h
  refine wpAny_bind (thn (dcT_core (Qf := fun _ s' => SP X pins D .next s') (use := some (assign (.Name y py) X.env)) hc hu hN hi ok hg ht hk he hs I h' fun L C s' m H' I' q hn ⟨f0, f1, f2, f3, f4, f5⟩ => ?_) fun _ s' hq => wpAny_pure (wpAny_pure hq))
  refine wpAny_assign_Name (store_ok2 (v := V.ref L) I' hN hy (.inl hyl) rfl (fun s2 I2 ⟨a, sb, ha⟩ => ?_) (.inr hyl))
  have aC : C ≠ a := ha.elim (fun z => by rw [z]; exact f1) fun z e => f4 y a z e.symm
  exact ⟨m, hn.sameBut sb aC, fun h3 sb3 => ⟨_, H', I2.turned (t' := s2.toks) (fun b o hb e => (sb3.2 b hb).trans e) f0 f1 f3 f4 f5, q⟩⟩
end
theorem swD_true {kx vx : Expr} {gs : List Comprehension} {scope : Scope} {pos py : Pos} {y : Str} {l : Nat} {env : Env} (hk : env.scope.kind = .function) (hy : env.scope.names.lookup y = some .local) (hl : (py.line == pos.line) = true)
    (ha : (scope.names.any fun (n, k) => n == y && (k == .local || k == .cell)) = false) : swapsWith (.DictComp kx vx gs scope pos) (some (.Name y py)) l env = pure true := by
  have k1 : env.kindOf y = some .local := hy
  have k2 : env.blockKind = .function := by unfold Env.blockKind; rw [hk]; rfl
  unfold swapsWith
  simp only [k2, k1, ha, Expr.pos, hl]
  rfl
theorem s_dcT {wi : TI} {g : TG} {tt : TT} {tk tv : TE} {vs : List Nat} {σ : L2.St} {H : Hp} {Q : VK} (h : wi σ H fun J H1 => ∀ D, H1 D = none → ∃ W : Nat → Nat → Hp → Prop, (∃ m, W 0 m (upd H1 D (.dT []))) ∧ ∀ i m H, W i m H →
    (J.stop i H ∧ Q (.ref D) H) ∨ (J.go i H ∧ ∃ Nx : Hp → Prop, (∀ H', Nx H' → ∃ m', m' < m ∧ W (i + 1) m' H') ∧ ∀ x H', J.yld i H x H' → g x (wipe σ vs) H' fun σ2 H2 => wipe σ2 vs = wipe σ vs ∧ tt σ2 H2 fun b H3 =>
      if b = true then tk σ2 H3 fun y H4 => tv σ2 H4 fun z H5 => putT D y z H5 Nx else Nx H3)) : tDcT wi g tt tk tv vs σ H Q := h
theorem dc_listT {K : PySem.W.Frag} {a : Addr} {xs : List V} {g : TG} {tt : TT} {tk tv : TE} {vs : List Nat} {σ : L2.St} {H1 : Hp} {D : Addr} {Qd : Hp → Prop} (Pv : Nat → Hp → Prop) (h0 : Pv 0 (upd H1 D (.dT []))) (hl : ∀ i H, i ≤ xs.length → Pv i H → SqL K H a xs)
    (hs : ∀ i x H, xs[i]? = some x → Pv i H → g x (wipe σ vs) H fun σ2 H2 => wipe σ2 vs = wipe σ vs ∧ tt σ2 H2 fun b H3 => if b = true then tk σ2 H3 fun y H4 => tv σ2 H4 fun z H5 => putT D y z H5 (Pv (i + 1)) else Pv (i + 1) H3) (hd : ∀ H, Pv xs.length H → Qd H) :
    ∃ W : Nat → Nat → Hp → Prop, (∃ m, W 0 m (upd H1 D (.dT []))) ∧ ∀ i m H, W i m H →
      ((Itl K a).stop i H ∧ Qd H) ∨ ((Itl K a).go i H ∧ ∃ Nx : Hp → Prop, (∀ H', Nx H' → ∃ m', m' < m ∧ W (i + 1) m' H') ∧ ∀ x H', (Itl K a).yld i H x H' → g x (wipe σ vs) H' fun σ2 H2 => wipe σ2 vs = wipe σ vs ∧ tt σ2 H2 fun b H3 =>
        if b = true then tk σ2 H3 fun y H4 => tv σ2 H4 fun z H5 => putT D y z H5 Nx else Nx H3) := by
  refine ⟨fun i m H => m = xs.length - i ∧ i ≤ xs.length ∧ Pv i H, ⟨xs.length, by simp, Nat.zero_le _, h0⟩, ?_⟩
  rintro i m H ⟨rfl, hi, p⟩
  have q := hl i H hi p
  by_cases hlt : i < xs.length
  · refine .inr ⟨⟨xs, xs[i], q, by simp [hlt]⟩, Pv (i + 1), fun H' p' => ⟨xs.length - (i + 1), by omega, rfl, hlt, p'⟩, fun x H' y => ?_⟩
    obtain ⟨rfl, y⟩ := y
    exact hs i x _ (y xs q) p
  · have e : i = xs.length := by omega
    subst e
    exact .inl ⟨⟨xs, q, Nat.le_refl _⟩, hd H p⟩
end DT
end Bt
namespace PySem.W
open PySem PySem.Calls PyProof.Rows
/-! ### sorted(o), o walked by a source: its items in a new list, list.sort -/
section
variable {prog : Program} {w : World} {A : Around} {E : Value → Shared → Prop} {s : Shared} {T : String} {r d : Addr} {n : Nat} {P : Nat → Value → Prop} {OK : Heap → Prop} {Q : Value → Shared → Prop} {β : Type} {enc : β → PyData} {R : Value → β → Prop} {bs : List β}
theorem sorted_src (K : KdlSrc prog w T r d n P OK) (hh : A.handled = none) (hok : OK s.heap) (hn : n ≤ sizeLine) (hb : bs.length = n) (hal : AllAlike (bs.map enc)) (hk : Sortable (bs.map enc)) (hu : ∀ b, b ∈ bs → A.units + 2 + (enc b).depth < cLine)
    (he : ∀ vs : List Value, vs.length = n → (∀ (j : Nat) (v : Value), vs[j]? = some v → P j v) → EachIs R vs bs ∧ EachIs (fun v b => ∃ as, Reads s.heap v (enc b) as) vs bs)
    (h : ∀ (hp : Heap) (tk : Nat) (out : List Value) (B : Addr), (∀ b o, s.heap.get? b = some o → hp.get? b = some o) → s.heap.get? B = none → (∃ ep, hp.get? B = some (seqObj "list" (List.toArray out) ep)) → EachIs R out (bs.mergeSort (dataLe false enc)) → Q (.ref B) { s with heap := hp, toks := tk }) :
    wpAny (model prog w) A (call (.builtin "sorted") [.ref r]) Q E s := by
  refine call_function_entry kind_sorted plain_sorted entry_sorted (args_sorted1 _) ?_
  unfold Builtin.«sorted»
  refine wpAny_bind (m := checkCount "sorted" 1 1 _) (wpAny_pure (wpAny_bind (kdu_collect (A := A.in1) K hh hok hn fun h' tk acc hk' hacc => ?_)))
  obtain ⟨vs, evs⟩ : ∃ vs, vs = acc.toList := ⟨_, rfl⟩
  have hl : vs.length = n := by rw [evs, Array.length_toList]; exact hacc.1
  obtain ⟨e1, e2⟩ := he vs hl fun j v e => hacc.2 j v (by rw [← Array.getElem?_toList, ← evs]; exact e)
  rw [← evs]
  refine wpAny_bind (wpAny_newList ?_ (by omega))
  generalize hB : h'.objs.size = B
  have nB : s.heap.get? B = none := by
    cases q : s.heap.get? B with
    | none => rfl
    | some o => exact absurd (Heap.lt_size (hk' _ _ q)) (by rw [hB]; exact Nat.lt_irrefl _)
  have atB : (h'.push (seqObj "list" vs.toArray 0)).get? B = some (seqObj "list" vs.toArray 0) := by rw [← hB]; exact Heap.get?_push_size _ rfl
  have old : ∀ b o, s.heap.get? b = some o → (h'.push (seqObj "list" vs.toArray 0)).get? b = some o := fun b o q => Heap.get?_push_of_some _ (hk' b o q)
  have neB : ∀ b o, s.heap.get? b = some o → b ≠ B := fun b o q z => by rw [z, nB] at q; cases q
  show wpAny (model prog w) A.in1 (holding [Value.ref B] (call (.builtin "list.sort") [.ref B] []) >>= fun _ => ret (Value.ref B)) _ E { s with heap := h'.push (seqObj "list" vs.toArray 0), toks := tk }
  have e3 : EachIs (fun v b => ∃ as, Reads (sortingHeap (h'.push (seqObj "list" vs.toArray 0)) B vs) v (enc b) as) vs bs := e2.mono fun _ _ ⟨as, r⟩ => ⟨as, PyProof.Rows.Reads.keeps (fun b o q => sortingHeap_old (neB b o q) (old b o q)) r⟩
  have so : SortsAt prog w A.in1.in1 { s with heap := sortingHeap (h'.push (seqObj "list" vs.toArray 0)) B vs, toks := tk } (dataKind (sortingHeap (h'.push (seqObj "list" vs.toArray 0)) B vs) (bs.map enc)) vs :=
    SortsAt.data (s := { s with heap := sortingHeap (h'.push (seqObj "list" vs.toArray 0)) B vs, toks := tk }) (each_map (R := fun v d => ∃ as, Reads (sortingHeap (h'.push (seqObj "list" vs.toArray 0)) B vs) v d as) enc e3) hal hk (bound_map hu)
  refine wpAny_bind (wpAny_holding (wpAny_call_entry slot_list_sort ⟨_, atB, rfl⟩ entry_list_sort ?_ (args_list_sort _)))
  refine list_sort_vals (s := { s with heap := h'.push (seqObj "list" vs.toArray 0), toks := tk }) atB so (by omega) ?_
  refine ⟨_, rfl, wpAny_pure ⟨_, rfl, h _ tk _ B (fun b o q => ?_) nB ?_ (sortVals_data false e1 e3 hal)⟩⟩
  · have lt := Heap.lt_size (old b o q)
    rw [sortedHeap_old (neB b o q) lt]
    exact old b o q
  · exact sortedHeap_at atB
end
end PySem.W

namespace Bt
namespace DT
open PySem PySem.Spec PyProof.Rows L2
open PySem.W (dataLe alike AllAlike Sortable EachIs)
/-! ### sorted(d), the keys of d tuples of texts and ints -/
def kD : Key → PyData
  | .inl i => .int i
  | .inr x => .str x
/-- a key as data -/
def keyD (k : List Key) : PyData := .tuple (k.map kD)
theorem dp_keys {K : PySem.W.Frag} {H : Hp} : ∀ k : List Key, DpAll K H (k.map kV) (k.map kD)
  | [] => .nil
  | .inl i :: k => .cons (.int i) (dp_keys k)
  | .inr x :: k => .cons (.str x) (dp_keys k)
theorem dp_key {K : PySem.W.Frag} {H : Hp} {b : Addr} {k : List Key} (h : H b = some (.tup (k.map kV))) : Dp K H (.ref b) (keyD k) := .tup (SqT.of h) (dp_keys k)
theorem ObjOk.there {P : Program} {w : World} {H : Hp} {h : Heap} {a : Addr} {o : HO} (x : ObjOk P w H h a o) : ∃ q, h.get? a = some q := by
  cases o with
  | lst xs => obtain ⟨_, _, _, _, e⟩ := x; exact ⟨_, e⟩
  | tup xs => obtain ⟨_, _, _, ob, e, _⟩ := x; exact ⟨ob, e⟩
  | dK kvs => obtain ⟨_, _, _, _, o, _, _, e, _⟩ := x; exact ⟨_, e⟩
  | dT kvs => obtain ⟨_, _, _, _, o, _, _, e, _⟩ := x; exact ⟨_, e⟩
  | set S n => obtain ⟨o, _, _, _, e, _⟩ := x; exact ⟨_, e⟩
  | ins C dx fs => obtain ⟨_, _, _, e, _⟩ := x; exact ⟨_, e⟩
  | own y => exact x
  | xd fs => obtain ⟨_, ⟨_, _, _, e, _⟩, _⟩ := x; exact ⟨_, e⟩
  | rng lo hi => obtain ⟨_, _, _, e⟩ := x; exact ⟨_, e⟩
  | frz ob u => obtain ⟨e, _⟩ := x; exact ⟨_, e⟩
  | tbl ps => exact ⟨_, show h.get? a = some _ from x⟩
  | met f y => exact ⟨_, show h.get? a = some _ from x⟩
  | ext φ => exact x.2.1
abbrev KA : Type := Addr × List Key
def kaLe : KA → KA → Bool := dataLe false (fun z : KA => keyD z.2)
def rSortKT (K : PySem.W.Frag) : List V → Hp → VK → Prop := fun vs H Q => ∃ (a : Addr) (kvs : List (List Key × V)), vs = [V.ref a] ∧ H a = some (.dT kvs) ∧ (∀ p ∈ kvs, (keyD p.1).depth ≤ 60) ∧ AllAlike (kvs.map fun p => keyD p.1) ∧ Sortable (kvs.map fun p => keyD p.1) ∧
  ∀ (zs : List KA) (p : Addr), zs.map (·.2) = kvs.map (·.1) → (∀ z ∈ zs, H z.1 = some (.tup (z.2.map kV))) → H p = none → Q (.ref p) (upd H p (.lst ((zs.mergeSort kaLe).map fun z => .ref z.1)))
theorem keys_of {H : Hp} : ∀ {kvs : List (List Key × V)} {xs : List (List Key × Addr × Value)}, KT H kvs xs → ∃ zs : List KA, zs.map (·.2) = kvs.map (·.1) ∧ zs.map (·.1) = xs.map (·.2.1) ∧ ∀ z ∈ zs, H z.1 = some (.tup (z.2.map kV))
  | _, _, .nil => ⟨[], rfl, rfl, fun _ h => by cases h⟩
  | p :: _, q :: _, .cons h t => by
    obtain ⟨zs, e1, e2, e3⟩ := keys_of t
    refine ⟨(q.2.1, p.1) :: zs, by rw [List.map_cons, e1, List.map_cons], by rw [List.map_cons, e2, List.map_cons], fun z m => ?_⟩
    rcases List.mem_cons.mp m with rfl | m
    · exact h.2.1
    · exact e3 z m
theorem each_refs : ∀ {vs : List Value} {zs : List KA}, vs.length = zs.length → (∀ (j : Nat) (v : Value), vs[j]? = some v → ∃ z, zs[j]? = some z ∧ v = .ref z.1) → EachIs (fun v (z : KA) => v = .ref z.1) vs zs
  | [], [], _, _ => .nil
  | [], _ :: _, h, _ => by simp at h
  | _ :: _, [], h, _ => by simp at h
  | v :: vs, z :: zs, h, k => by
    obtain ⟨z', e, ev⟩ := k 0 v rfl
    cases Option.some.inj e
    exact .cons ev (each_refs (by simpa using h) fun j u hu => by simpa using k (j + 1) u (by simpa using hu))
theorem each_read {X : Cx} {pins : List (Addr × Obj)} {σ : L2.St} {H : Hp} {s : Shared} (I : Inv X pins σ H s) : ∀ {vs : List Value} {zs : List KA}, EachIs (fun v (z : KA) => v = .ref z.1) vs zs → (∀ z ∈ zs, H z.1 = some (.tup (z.2.map kV))) → EachIs (fun v (z : KA) => ∃ as, Reads s.heap v (keyD z.2) as) vs zs
  | [], [], _, _ => .nil
  | v :: vs, z :: zs, .cons e r, h => by
    subst e
    exact .cons (Dp.reads I (keyD z.2) (.ref z.1) _ (dp_key (K := X.K) (h z List.mem_cons_self)) rfl) (each_read I r fun y m => h y (List.mem_cons_of_mem _ m))
theorem refs_vals : ∀ {vs : List Value} {zs : List KA}, EachIs (fun v (z : KA) => v = .ref z.1) vs zs → Vals (zs.map fun z => V.ref z.1) vs
  | [], [], _ => .nil
  | _ :: _, _ :: _, .cons e r => .cons (by subst e; rfl) (refs_vals r)
theorem cr_sortKT {X : Cx} (hc : X.calm = true) (hu : X.A.units + 64 < cLine) : CallR X (.builtin "sorted") (rSortKT X.K) := by
  intro pins s σ H vs us Q I r h
  obtain ⟨a, kvs, rfl, ha, hd, al, sk, q⟩ := h
  rw [Vals.ref1 r]
  obtain ⟨hz, lo, xs, rel, hdo⟩ := dt_of I.hok ha
  obtain ⟨es, ep, raw, hes, hent⟩ := hdo.raw
  obtain ⟨zs, e1, e2, e3⟩ := keys_of rel
  have lk : kvs.length = xs.length := Paired.length rel
  have lz : zs.length = xs.length := by have := congrArg List.length e2; rwa [List.length_map, List.length_map] at this
  have em : (zs.map fun z => keyD z.2) = kvs.map fun p => keyD p.1 := by
    rw [show (zs.map fun z => keyD z.2) = (zs.map (·.2)).map keyD by rw [List.map_map]; rfl, e1, List.map_map]
    rfl
  refine PySem.W.sorted_src (bs := zs) (enc := fun z : KA => keyD z.2) (R := fun v (z : KA) => v = .ref z.1) (PySem.KdlSrc.rawDict (es := es) (ep := ep) lo) (I.ok.hd hc) raw (by omega) (by omega) (by rw [em]; exact al) (by rw [em]; exact sk) (fun z mz => ?_) (fun vs hl hp => ?_) fun hp tk out B hk nB hB he => ?_
  · have : keyD z.2 ∈ kvs.map fun p => keyD p.1 := by rw [← em]; exact List.mem_map.mpr ⟨z, mz, rfl⟩
    obtain ⟨p, mp, ep⟩ := List.mem_map.mp this
    have := hd p mp
    rw [ep] at this
    show X.A.units + 2 + (keyD z.2).depth < cLine
    omega
  · have ei : EachIs (fun v (z : KA) => v = .ref z.1) vs zs := each_refs (by omega) fun j v hv => by
      obtain ⟨hj, ev⟩ := hp j v hv
      obtain ⟨y, w1, w2, _, _⟩ := hent j hj
      have : (zs.map (·.1))[j]? = some y.2.1 := by rw [e2, List.getElem?_map, w1]; rfl
      rw [List.getElem?_map] at this
      obtain ⟨z, hz', ez⟩ := Option.map_eq_some_iff.mp this
      exact ⟨z, hz', by rw [ev, w2, ez]⟩
    exact ⟨ei, each_read I ei e3⟩
  · obtain ⟨ep', hB⟩ := hB
    have nH : H B = none := by
      cases e : H B with
      | none => rfl
      | some u =>
        obtain ⟨o, ho⟩ := ObjOk.there (I.hok B u e)
        rw [nB] at ho
        cases ho
    refine ⟨.ref B, _, lay_new I hk (Same.new nH) (fun b o eb => upd_ne fun z => by rw [z, nB] at eb; cases eb) fun b u hb hu => ?_, rfl, q zs B e1 e3 nH⟩
    by_cases z : b = B
    · subst z
      rw [upd_same] at hu
      cases hu
      refine ⟨?_, out, ep', refs_vals he, hB⟩
      rw [List.length_map, List.length_mergeSort]
      omega
    · rw [upd_ne z, hb] at hu
      cases hu
theorem q_sortKT {K : PySem.W.Frag} {H : Hp} {Q : VK} {a : Addr} {kvs : List (List Key × V)} (ha : H a = some (.dT kvs)) (hd : ∀ p ∈ kvs, (keyD p.1).depth ≤ 60) (al : AllAlike (kvs.map fun p => keyD p.1)) (sk : Sortable (kvs.map fun p => keyD p.1))
    (q : ∀ (zs : List KA) (p : Addr) (H' : Hp), zs.map (·.2) = kvs.map (·.1) → (∀ z ∈ zs, H z.1 = some (.tup (z.2.map kV))) → H p = none → Same H H' → H' p = some (.lst ((zs.mergeSort kaLe).map fun z => .ref z.1)) → Q (.ref p) H') : rSortKT K [.ref a] H Q :=
  ⟨a, kvs, rfl, ha, hd, al, sk, fun zs p e1 e2 n => q zs p _ e1 e2 n (Same.new n) upd_same⟩
end DT
end Bt
namespace Bt
open PySem PySem.Spec PyProof.Rows L2 LamX NdefX
open PySem.W (dataLt dataLe alike AllAlike Sortable)
theorem words92_ : True := by
  k_with "s_C13b" => first
    | ((with_reducible refine' s_var ?hv ?_); (case hv => exact rfl))
    | with_reducible first
      | refine' s_c ?_ | refine' s_op ?_ | refine' s_asg ?_ | refine' s_gname ?_ | refine' s_seq ?_ | refine' s_next ?_ | refine' s_ret ?_ | refine' s_ifS ?_ | refine' s_drop ?_ | refine' s_retN ?_ | refine' s_test ?_ | refine' s_B ?_ | refine' q_test ?_ | refine' s_int ?_ | refine' s_cons ?_ | refine' s_nil ?_ | refine' s_call ?_ | refine' s_CB ?_ | refine' s_andT ?_ | refine' s_orT ?_ | refine' s_notT ?_ | refine' s_andV ?_ | refine' s_orV ?_ | refine' s_notV ?_ | refine' s_ifV ?_ | refine' s_chain ?_ | refine' s_sl ?_ | refine' s_noPart ?_ | refine' s_part ?_ | refine' s_gsub ?_ | refine' s_BM ?_ | refine' s_tup ?_ | refine' s_lst ?_ | refine' q_add ?_ | refine' q_sub ?_ | refine' q_lt ?_ | refine' q_le ?_ | refine' q_gt ?_ | refine' q_ge ?_ | refine' s_ifT ?_ | refine' s_ifF ?_ | refine' s_yes ?_ | refine' s_iStr ?_ | refine' s_M0 ?_ | refine' s_for ?_ | refine' s_rng1 ?_ | refine' s_par ?_ | refine' s_gcons ?_ | refine' s_gnil ?_ | refine' s_iList ?_ | refine' s_iEnum ?_ | refine' s_raise1 ?_
      | (refine' q_mod ?hm ?_; (case hm => first | omega | decide))
    | dsimp only
  k_with "r_C13b" => repeat (k_extra "s_C13b")
  trivial
/-! ### is_change, is_possible, carry_out -/
theorem s_iTup {K : PySem.W.Frag} {te : TE} {σ : L2.St} {H : Hp} {R : It → Hp → Prop} (h : te σ H fun x H1 => ∃ a, x = .ref a ∧ (∃ xs, SqT K H1 a xs) ∧ R (Itt K a) H1) : iTup K te σ H R := h
theorem q_slT2 {K : PySem.W.Frag} {H : Hp} {Q : VK} {a : Addr} {x y : V} {ys : List V} (h : SqT K H a (x :: y :: ys)) (q : ∀ p H', H p = none → Same H H' → H' p = some (.tup ys) → Q (.ref p) H') : rSlT K (.ref a) (some 2) none H Q := by
  refine ⟨a, _, rfl, h, fun ⟨e, _⟩ => ?_, fun p n => ?_⟩
  · rw [show (2 : Int) = ((2 : Nat) : Int) from rfl, HT.sIx_nat, List.length_cons, List.length_cons] at e
    omega
  · rw [show (some 2 : Option Int) = some ((2 : Nat) : Int) from rfl, cutV_drop]
    exact q p _ n (Same.new n) upd_same
theorem s_dnotin {ty td : TE} {σ : L2.St} {H : Hp} {Q : VK} (h : ty σ H fun y H1 => td σ H1 fun x H2 => ∃ a o, x = .ref a ∧ DGet H2 a y o ∧ Q (.bl (!o.isSome)) H2) : tDNotIn ty td σ H Q := h
theorem s_dput {td ty tv : TE} {D : Ends} {σ : L2.St} {H : Hp} (h : tv σ H fun v H1 => td σ H1 fun x H2 => ty σ H2 fun y H3 => ∃ a H4, x = .ref a ∧ DPut H3 a y v H4 ∧ D.nx σ H4) : sDPut td ty tv D σ H := h
section
variable {P : Program} {w : World} {K : PySem.W.Frag} {mg : Str → Option Value} {base : Heap}
def spIsChange : Sp := fun vs H Q _ => ∃ x z, vs = [x] ∧ ChAt H x z ∧ 0 ≤ z.1 ∧ (∀ p ∈ z.2.pcs, NmP p) ∧ ∀ H', Same H H' → Q (.bl true) H'
theorem ok_is_change (T : Txt K mg) (N : TxtN K mg) (I : TxtI K mg) (C : TxtC13 K mg) : Cal P w K mg base 3 "is_change" spIsChange := by
  refine C.d_ic.cal sc_is_change (fun vs H Q E h => ?_) (fun f cdv A outer s H vs Q E hr h => ?_)
  · obtain ⟨x, z, rfl, _⟩ := h
    rfl
  · obtain ⟨x, z, rfl, ⟨t, ys, rfl, ht, hy⟩, g0, nm, k⟩ := h
    have hu := hr.units
    refine ⟨_, (pss_cons (ps_if (pt_not (PW.pt (pw_and (pt_val (pe_callB call_isi (by rfl) T.n_isinstance (by decide +kernel) (pa_cons (pv 0) (pa_cons (pe_bltn (v := .ty "tuple") (by rfl) T.n_tuple (by decide +kernel) rfl) pa_nil)))) (pw_and (pt_cmpR op_geI (pe_callB call_lenQ (by rfl) N.n_len (by decide +kernel) (pa_cons (pv 0) pa_nil)) pe_int (by rfl)) (pw_and (pt_val (pe_c (ok_is_whole T) hr (by decide) rfl (pa_cons (pe_ix ix_seq (pv 0) pe_int (fun _ _ => rfl)) pa_nil))) (pw_and1 (pt_cmpR op_geI (pe_ix ix_seq (pv 0) pe_int (fun _ _ => rfl)) pe_int (by rfl)))))))) (pss_one (ps_ret pe_bl)) pss_nil)
      (pss_cons (ps_if (pt_cmpR op_notIn_seq (pe_ix ix_seq (pv 0) pe_int (fun _ _ => rfl)) (pe_tup (pa_cons pe_str (pa_cons pe_str (pa_cons pe_str pa_nil)))) (by rfl)) (pss_one (ps_ret pe_bl)) pss_nil)
      (C8.pss_cut (ps_set (i := 1) sc_is_change.nd rfl (.inl rfl) (pe_ifExp (pt_cmpR op_eq (pe_ix ix_seq (pv 0) pe_int (fun _ _ => rfl)) pe_str (by rfl)) pe_int pe_int))
      (pss_one (ps_ret (pe_and (pe_cmpR op_eq (pe_callB call_lenQ (by rfl) N.n_len (by decide +kernel) (pa_cons (pv 0) pa_nil)) (pe_op op_addU pe_int (pv 1)) (by rfl)) (pe_one (pe_callB (call_allB rfl) (by rfl) N.n_all (by decide +kernel) (pa_cons (pe_lc (own := [("item", 2)]) (g := gName 2) (tt := tYes) (te := tCall (spPlace K) [] E0 (tCons (tVar 2) tNil)) rfl sc_is_change.nd (pi_tup (pe_slice sl_tup (pv 0) (po_some pe_int) po_none)) (blkOk_by (own := [("item", 2)]) (N := ["value", "many", "item"]) (sc := defScope s_is_change) (by decide +kernel)) (fun _ _ _ _ _ => pg_name (i := 2) sc_is_change.nd rfl (Or.inl rfl)) (fun _ _ _ _ _ => pts_nil) (fun _ _ _ _ _ => by exact (pe_c (ok_is_place T N I) hr (by decide) rfl (pa_cons (pv 2) pa_nil)))) pa_nil))))))))), ?_⟩
    have ly : ys.length = z.2.pcs.length := hy.len
    have l1 : 1 ≤ ys.length ∧ ys.length ≤ 2 := by
      rw [ly]
      cases z.2 <;> simp [Ch.pcs]
    k_extra "r_C13b"
    refine q_isi (Pl.tup ht) .tup ?_
    k_extra "r_C13b"
    refine s_if1 rfl ?_
    k_extra "r_C13b"
    refine q_lenT (SqT.of ht) ?_
    k_extra "r_C13b"
    refine s_ifD (fun _ => ?_) (fun e => absurd (by simp; omega) e)
    k_extra "r_C13b"
    refine q_ixT (SqT.of ht) (at_of (j := 0) rfl rfl) ?_
    k_extra "r_C13b"
    refine ⟨.int z.1, "int", rfl, Pl.int, ?_⟩
    k_extra "r_C13b"
    refine s_if1 rfl ?_
    k_extra "r_C13b"
    refine q_ixT (SqT.of ht) (at_of (j := 0) rfl rfl) ?_
    k_extra "r_C13b"
    refine s_ifND (fun _ => ?_) (fun e => absurd g0 e)
    k_extra "r_C13b"
    refine q_ixT (SqT.of ht) (at_of (j := 1) rfl rfl) ?_
    k_extra "r_C13b"
    refine q_newT (by show 3 ≤ sizeLine; decide) fun t1 H1 n1 S1 h1 => ?_
    refine ⟨t1, (["add", "take", "rename"] : List Str).map V.str, rfl, .inr (SqT.of h1), rfl, flat_strs _, ?_⟩
    rw [inV_strs, decide_eq_true (by cases z.2 <;> simp [Ch.wd])]
    refine q_test (s_if0 rfl ?_)
    k_extra "r_C13b"
    refine q_cut8 (M := fun σ H' => σ = [some (.ref t), some (.int ys.length), none] ∧ Same H H') ?_ ?_
    · k_extra "r_C13b"
      refine q_ixT (SqT.of (S1 _ _ ht)) (at_of (j := 1) rfl rfl) ?_
      k_extra "r_C13b"
      refine ⟨rfl, ?_⟩
      obtain ⟨g, c⟩ := z
      cases c with
      | add p =>
        refine q_test (s_if0 (show decide (V.str "add" = V.str "rename") = false by decide +kernel) ?_)
        k_extra "r_C13b"
        exact ⟨by rw [ly]; rfl, S1⟩
      | take p =>
        refine q_test (s_if0 (show decide (V.str "take" = V.str "rename") = false by decide +kernel) ?_)
        k_extra "r_C13b"
        exact ⟨by rw [ly]; rfl, S1⟩
      | ren p q =>
        refine q_test (s_if1 (show decide (V.str "rename" = V.str "rename") = true by decide) ?_)
        k_extra "r_C13b"
        exact ⟨by rw [ly]; rfl, S1⟩
    clear h1 n1 S1
    rintro σ H1 ⟨rfl, S1⟩
    k_extra "r_C13b"
    refine q_lenT (SqT.of (S1 _ _ ht)) ?_
    k_extra "r_C13b"
    refine ⟨rfl, ?_⟩
    rw [decide_eq_true (by simp; omega)]
    k_extra "r_C13b"
    refine s_lc ?_
    k_extra "r_C13b"
    refine s_iTup ?_
    k_extra "r_C13b"
    refine q_slT2 (SqT.of (S1 _ _ ht)) fun p H2 n2 S2 h2 => ?_
    refine ⟨p, rfl, ⟨_, SqT.of h2⟩, fun D nD => lc_tup (K := K) (a := p) (xs := ys) (fun i H' => Same H2 H' ∧ H' D = some (.lst ((ys.take i).map fun _ => .bl true))) ⟨Same.new nD, upd_same⟩ (fun i H' _ h => SqT.of (h.1 _ _ h2)) ?_ ?_⟩
    · rintro j x H3 hj ⟨S3, h3⟩
      obtain ⟨q, mq, hq⟩ := hy.get hj
      have lt := (List.getElem?_eq_some_iff.mp hj).1
      k_extra "r_C13b"
      refine ⟨rfl, ?_⟩
      k_extra "r_C13b"
      refine q_isPl (hq.mono (S1.trans (S2.trans S3))) (nm q mq) fun H4 S4 => ?_
      refine ⟨_, S4 _ _ h3, ?_, same_mut (S3.trans S4) nD, ?_⟩
      · rw [List.length_map, List.length_take]
        exact szlt (by omega)
      · rw [upd_same, take_map_more hj]
    · rintro H3 ⟨S3, h3⟩
      rw [List.take_of_length_le (Nat.le_refl _)] at h3
      k_extra "r_C13b"
      refine q_allB (bs := ys.map fun _ => true) (SqL.of (by rw [List.map_map]; exact h3)) ?_
      rw [show (ys.map fun _ => true).all id = true by simp]
      exact k H3 (S1.trans (S2.trans S3))
/-! ### what stands, as a dict -/
/-- the dict of the places st -/
def stK (st : List Plc) : List (List Key × V) := st.map fun p => (keyOf p, V.bl true)
theorem valV_stK (st : List Plc) (p : Plc) : (valV (stK st) (keyOf p)).isSome = decide (p ∈ st) := by
  induction st with
  | nil => rfl
  | cons q st ih =>
    show (valV ((keyOf q, V.bl true) :: stK st) (keyOf p)).isSome = _
    by_cases e : q = p
    · rw [valV_pos (congrArg keyOf e), decide_eq_true (by simp [e])]
      rfl
    · rw [valV_neg (fun z => e (keyOf_inj z)), ih]
      exact decide_eq_decide.mpr ⟨fun h => List.mem_cons_of_mem _ h, fun h => (List.mem_cons.mp h).resolve_left fun z => e z.symm⟩
theorem dropK_stK (st : List Plc) (p : Plc) : dropK (stK st) (keyOf p) = stK (st.filter fun q => decide (q ≠ p)) := by
  unfold dropK stK
  rw [List.filter_map]
  congr 1
  refine List.filter_congr fun q _ => ?_
  exact decide_eq_decide.mpr ⟨fun h e => h (congrArg keyOf e), fun h e => h (keyOf_inj e)⟩
theorem putK_stK {st : List Plc} {p : Plc} (n : p ∉ st) : putK (stK st) (keyOf p) (.bl true) = stK (st ++ [p]) := by
  have : valV (stK st) (keyOf p) = none := by
    cases e : valV (stK st) (keyOf p) with
    | none => rfl
    | some v =>
      have := valV_stK st p
      rw [e, decide_eq_false n] at this
      cases this
  rw [putK_new _ this]
  unfold stK
  rw [List.map_append]
  rfl
theorem stK_len (st : List Plc) : (stK st).length = st.length := List.length_map _
/-- a change can be made -/
def Can (st : List Plc) (c : Ch) : Prop := (∀ p, c.gs = some p → p ∈ st) ∧ ∀ q, c.cs = some q → q ∉ st
/-- the change made -/
def mkC (st : List Plc) (c : Ch) : List Plc := (match c.gs with | none => st | some p => st.filter fun q => decide (q ≠ p)) ++ c.cs.toList
def spPoss : Sp := fun vs H Q _ => ∃ x z d st, vs = [x, .ref d] ∧ ChAt H x z ∧ H d = some (.dT (stK st)) ∧ Can st z.2 ∧ Q (.bl true) H
theorem ok_is_possible (C : TxtC13 K mg) : Cal P w K mg base 2 "is_possible" spPoss := by
  refine C.d_poss.cal sc_is_possible (fun vs H Q E h => ?_) (fun f cdv A outer s H vs Q E hr h => ?_)
  · obtain ⟨x, z, d, st, rfl, _⟩ := h
    rfl
  · obtain ⟨x, z, d, st, rfl, hx, hd, can, k⟩ := h
    have hu := hr.units
    refine ⟨_, (pss_cons (ps_par (i := 2) (j := 3) (by rfl) sc_is_possible.nd rfl rfl (by decide) rfl rfl (pa_cons (pe_c (ok_goes C) hr (by decide) rfl (pa_cons (pv 0) pa_nil)) (pa_cons (pe_c (ok_comes C) hr (by decide) rfl (pa_cons (pv 0) pa_nil)) pa_nil)) (by rfl))
      (pss_one (ps_ret (pe_and (pe_or (pe_cmpR op_isNon (pv 2) pe_non (by rfl)) (pe_one (pe_cmp (pc_din (lt1 hu) (pv 2) (pv 1))))) (pe_one (pe_or (pe_cmpR op_isNon (pv 3) pe_non (by rfl)) (pe_one (pe_cmp (pc_dnotin (lt1 hu) (pv 3) (pv 1)))))))))), ?_⟩
    k_extra "r_C13b"
    refine ⟨x, z, rfl, hx, fun y hy => ?_⟩
    k_extra "r_C13b"
    refine ⟨x, z, rfl, hx, fun u hu' => ?_⟩
    k_extra "r_C13b"
    refine ⟨_, _, rfl, ?_⟩
    k_extra "r_C13b"
    have fin : tOrV (tOp rIsN (tVar 3) (tC .non)) (tDNotIn (tVar 3) (tVar 1)) [some x, some (.ref d), some y, some u] H Q := by
      k_extra "r_C13b"
      refine q_isNon ?_
      cases e : z.2.cs with
      | none =>
        rw [e] at hu'
        obtain rfl : u = .non := hu'
        refine ⟨_, rfl, s_if1 (decide_eq_true rfl) ?_⟩
        exact k
      | some q =>
        rw [e] at hu'
        obtain ⟨b, rfl, hb⟩ := hu'
        refine ⟨_, rfl, s_if0 (decide_eq_false fun z => by cases z) ?_⟩
        refine s_dnotin ?_
        k_extra "r_C13b"
        refine ⟨d, _, rfl, DGet.t (k := keyOf q) hd hb, ?_⟩
        rw [valV_stK, decide_eq_false (can.2 q e)]
        exact k
    refine q_isNon ?_
    cases e : z.2.gs with
    | none =>
      rw [e] at hy
      obtain rfl : y = .non := hy
      refine ⟨_, rfl, s_if1 (decide_eq_true rfl) ?_⟩
      exact ⟨_, rfl, s_if1 rfl fin⟩
    | some p =>
      rw [e] at hy
      obtain ⟨b, rfl, hb⟩ := hy
      refine ⟨_, rfl, s_if0 (decide_eq_false fun z => by cases z) ?_⟩
      refine s_din ?_
      k_extra "r_C13b"
      refine ⟨d, _, rfl, DGet.t (k := keyOf p) hd hb, ?_⟩
      rw [valV_stK, decide_eq_true (can.1 p e)]
      exact ⟨_, rfl, s_if1 rfl fin⟩
def spCarry : Sp := fun vs H Q _ => ∃ x z d st, vs = [x, .ref d] ∧ ChAt H x z ∧ H d = some (.dT (stK st)) ∧ st.length < 100 ∧ Can st z.2 ∧ ∀ H', H' d = some (.dT (stK (mkC st z.2))) → But d H H' → Q .non H'
theorem ok_carry_out (C : TxtC13 K mg) : Cal P w K mg base 2 "carry_out" spCarry := by
  refine C.d_carry.cal sc_carry_out (fun vs H Q E h => ?_) (fun f cdv A outer s H vs Q E hr h => ?_)
  · obtain ⟨x, z, d, st, rfl, _⟩ := h
    rfl
  · obtain ⟨x, z, d, st, rfl, hx, hd, hz, can, k⟩ := h
    have hu := hr.units
    refine ⟨_, (pss_cons (ps_par (i := 2) (j := 3) (by rfl) sc_carry_out.nd rfl rfl (by decide) rfl rfl (pa_cons (pe_c (ok_goes C) hr (by decide) rfl (pa_cons (pv 0) pa_nil)) (pa_cons (pe_c (ok_comes C) hr (by decide) rfl (pa_cons (pv 0) pa_nil)) pa_nil)) (by rfl))
      (C8.pss_cut (ps_if (pt_cmpR op_isNotNon (pv 2) pe_non (by rfl)) (pss_one (DT.ps_ddelT (lt1 hu) (pv 1) (pv 2))) pss_nil)
      (pss_one (ps_if (pt_cmpR op_isNotNon (pv 3) pe_non (by rfl)) (pss_one (ps_dput (lt1 hu) (pv 1) (pv 3) pe_bl rfl)) pss_nil)))), ?_⟩
    k_extra "r_C13b"
    refine ⟨x, z, rfl, hx, fun y hy => ?_⟩
    k_extra "r_C13b"
    refine ⟨x, z, rfl, hx, fun u hu' => ?_⟩
    k_extra "r_C13b"
    refine ⟨_, _, rfl, ?_⟩
    k_extra "r_C13b"
    obtain ⟨s1, es1⟩ : ∃ s1 : List Plc, s1 = (match z.2.gs with | none => st | some p => st.filter fun q => decide (q ≠ p)) := ⟨_, rfl⟩
    refine q_cut8 (M := fun σ H' => σ = [some x, some (.ref d), some y, some u] ∧ H' d = some (.dT (stK s1)) ∧ But d H H') ?_ ?_
    · k_extra "r_C13b"
      refine q_isNotNon ?_
      cases e : z.2.gs with
      | none =>
        rw [e] at hy es1
        obtain rfl : y = .non := hy
        refine ⟨_, rfl, s_if0 (by decide) ?_⟩
        k_extra "r_C13b"
        exact ⟨rfl, by rw [es1]; exact hd, fun _ _ _ e => e⟩
      | some p =>
        rw [e] at hy es1
        obtain ⟨b, rfl, hb⟩ := hy
        refine ⟨_, rfl, s_if1 (by simp) ?_⟩
        refine DT.s_ddelT ?_
        k_extra "r_C13b"
        refine ⟨d, b, _, keyOf p, rfl, rfl, hd, hb, by rw [valV_stK]; exact decide_eq_true (can.1 p e), ?_⟩
        exact ⟨rfl, by rw [upd_same, dropK_stK, es1], But.upd⟩
    rintro σ H1 ⟨rfl, h1, b1⟩
    k_extra "r_C13b"
    refine q_isNotNon ?_
    have lz : s1.length ≤ st.length := by
      rw [es1]
      cases z.2.gs with
      | none => exact Nat.le_refl _
      | some p => exact List.length_filter_le _ _
    have sub : ∀ p ∈ s1, p ∈ st := fun p hp => by
      rw [es1] at hp
      cases e : z.2.gs with
      | none => rw [e] at hp; exact hp
      | some q => rw [e] at hp; exact (List.mem_filter.mp hp).1
    cases e : z.2.cs with
    | none =>
      rw [e] at hu'
      obtain rfl : u = .non := hu'
      refine ⟨_, rfl, s_if0 (by decide) ?_⟩
      refine k H1 ?_ b1
      rw [h1]
      unfold mkC
      rw [e, ← es1]
      simp
    | some q =>
      rw [e] at hu'
      obtain ⟨b, rfl, hb⟩ := hu'
      have nb : b ≠ d := fun z => by rw [z, hd] at hb; cases hb
      refine ⟨_, rfl, s_if1 (by simp) ?_⟩
      refine s_dput ?_
      k_extra "r_C13b"
      refine ⟨d, _, rfl, DPut.t (k := keyOf q) h1 (b1 _ _ nb hb) (szlt (by rw [stK_len]; omega)), ?_⟩
      refine k _ ?_ (b1.trans But.upd)
      rw [upd_same, putK_stK fun m => can.2 q e (sub q m)]
      unfold mkC
      rw [e, ← es1]
      rfl
end
end Bt
namespace Bt
open PySem PySem.Spec PyProof.Rows L2 LamX NdefX
open PySem.W (dataLt dataLe alike AllAlike Sortable)
theorem words93_ : True := by
  k_with "s_S13" => first
    | ((with_reducible refine' s_var ?hv ?_); (case hv => exact rfl))
    | with_reducible first
      | refine' s_c ?_ | refine' s_op ?_ | refine' s_asg ?_ | refine' s_gname ?_ | refine' s_seq ?_ | refine' s_next ?_ | refine' s_ret ?_ | refine' s_ifS ?_ | refine' s_drop ?_ | refine' s_retN ?_ | refine' s_test ?_ | refine' s_B ?_ | refine' q_test ?_ | refine' s_int ?_ | refine' s_cons ?_ | refine' s_nil ?_ | refine' s_call ?_ | refine' s_CB ?_ | refine' s_andT ?_ | refine' s_orT ?_ | refine' s_notT ?_ | refine' s_andV ?_ | refine' s_orV ?_ | refine' s_notV ?_ | refine' s_ifV ?_ | refine' s_chain ?_ | refine' s_sl ?_ | refine' s_noPart ?_ | refine' s_part ?_ | refine' s_gsub ?_ | refine' s_BM ?_ | refine' s_tup ?_ | refine' s_lst ?_ | refine' q_add ?_ | refine' q_sub ?_ | refine' q_lt ?_ | refine' q_le ?_ | refine' q_gt ?_ | refine' q_ge ?_ | refine' s_ifT ?_ | refine' s_ifF ?_ | refine' s_yes ?_ | refine' s_iStr ?_ | refine' s_M0 ?_ | refine' s_for ?_ | refine' s_rng1 ?_ | refine' s_par ?_ | refine' s_gcons ?_ | refine' s_gnil ?_ | refine' s_iList ?_ | refine' s_iEnum ?_ | refine' s_raise1 ?_
      | (refine' q_mod ?hm ?_; (case hm => first | omega | decide))
    | dsimp only
  k_with "r_S13" => repeat (k_extra "s_S13")
  trivial
/-! ### changes in a row -/
def Run : List Plc → Int → List GC → Prop
  | _, _, [] => True
  | st, g, z :: zs => g ≤ z.1 ∧ Can st z.2 ∧ (∀ p ∈ z.2.pcs, NmP p) ∧ st.length < 90 ∧ Run (mkC st z.2) z.1 zs
def runC (st : List Plc) (zs : List GC) : List Plc := zs.foldl (fun st z => mkC st z.2) st
def lastG (g : Int) (zs : List GC) : Int := zs.foldl (fun _ z => z.1) g
theorem Run.get : ∀ {zs : List GC} {st : List Plc} {g : Int}, Run st g zs → ∀ {i : Nat} {z : GC}, zs[i]? = some z → g ≤ lastG g (zs.take i) ∧ lastG g (zs.take i) ≤ z.1 ∧ Can (runC st (zs.take i)) z.2 ∧ (∀ p ∈ z.2.pcs, NmP p) ∧ (runC st (zs.take i)).length < 90
  | [], _, _, _, i, z, e => by simp at e
  | y :: zs, st, g, ⟨h1, h2, h3, h4, h5⟩, 0, z, e => by
    cases Option.some.inj e
    exact ⟨Int.le_refl _, h1, h2, h3, h4⟩
  | y :: zs, st, g, ⟨h1, h2, h3, h4, h5⟩, i + 1, z, e => by
    obtain ⟨k1, k2, k3, k4, k5⟩ := Run.get h5 (i := i) (z := z) (by simpa using e)
    exact ⟨Int.le_trans h1 k1, k2, k3, k4, k5⟩
theorem runC_next (st : List Plc) {zs : List GC} {i : Nat} {z : GC} (e : zs[i]? = some z) : runC st (zs.take (i + 1)) = mkC (runC st (zs.take i)) z.2 := by
  unfold runC
  rw [List.take_add_one, e, List.foldl_append]
  rfl
theorem lastG_next (g : Int) {zs : List GC} {i : Nat} {z : GC} (e : zs[i]? = some z) : lastG g (zs.take (i + 1)) = z.1 := by
  unfold lastG
  rw [List.take_add_one, e, List.foldl_append]
  rfl
structure TxtS13 (K : PySem.W.Frag) (mg : Str → Option Value) : Prop where
  d_may : Df K mg "may_come" s_may_come ["change", "gap", "standing"]
  d_sb : Df K mg "_standing_behind" s__standing_behind ["first", "changes"]
  d_ci : Df K mg "check_index" s_check_index ["value", "many"]
  d_cl : Df K mg "check_least" s_check_least ["value", "least"]
section
variable {P : Program} {w : World} {K : PySem.W.Frag} {mg : Str → Option Value} {base : Heap}
def spMay : Sp := fun vs H Q _ => ∃ x z g d st, vs = [x, .int g, .ref d] ∧ ChAt H x z ∧ 0 ≤ z.1 ∧ g ≤ z.1 ∧ (∀ p ∈ z.2.pcs, NmP p) ∧ H d = some (.dT (stK st)) ∧ Can st z.2 ∧ ∀ H', Same H H' → Q (.bl true) H'
theorem ok_may_come (T : Txt K mg) (N : TxtN K mg) (I : TxtI K mg) (C : TxtC13 K mg) (S : TxtS13 K mg) : Cal P w K mg base 4 "may_come" spMay := by
  refine S.d_may.cal sc_may_come (fun vs H Q E h => ?_) (fun f cdv A outer s H vs Q E hr h => ?_)
  · obtain ⟨x, z, g, d, st, rfl, _⟩ := h
    rfl
  · obtain ⟨x, z, g, d, st, rfl, hx, g0, gz, nm, hd, can, k⟩ := h
    refine ⟨_, (pss_one (ps_ret (pe_and (pe_c (ok_is_change T N I C) hr (by decide) rfl (pa_cons (pv 0) pa_nil)) (pe_and (pe_cmpR op_geI (pe_ix ix_seq (pv 0) pe_int (fun _ _ => rfl)) (pv 1) (by rfl)) (pe_one (pe_c (ok_is_possible C) hr (by decide) rfl (pa_cons (pv 0) (pa_cons (pv 2) pa_nil)))))))), ?_⟩
    k_extra "r_S13"
    refine ⟨x, z, rfl, hx, g0, nm, fun H1 S1 => ?_⟩
    k_extra "r_S13"
    have hx1 := hx.mono S1
    obtain ⟨t, ys, rfl, ht, hy⟩ := id hx1
    refine q_ixT (SqT.of ht) (at_of (j := 0) rfl rfl) ?_
    k_extra "r_S13"
    rw [decide_eq_true gz]
    k_extra "r_S13"
    refine ⟨_, z, d, st, rfl, hx1, S1 _ _ hd, can, ?_⟩
    exact k H1 S1
def spSB : Sp := fun vs H Q _ => ∃ f xs ps c ts zs, vs = [.ref f, .ref c] ∧ H f = some (.lst xs) ∧ Pls H xs ps ∧ (∀ p ∈ ps, NmP p) ∧ xs.length < 64 ∧ ps.Nodup ∧ H c = some (.lst ts) ∧ ChsAt H ts zs ∧ Run ps 0 zs ∧ ∀ D H', H D = none → Same H H' → H' D = some (.dT (stK (runC ps zs))) → Q (.ref D) H'
/-- the places of a list as a dict, one more -/
theorem Pls.get2 {H : Hp} {xs : List V} {ps : List Plc} (h : Pls H xs ps) : ∀ {i : Nat} {x : V}, xs[i]? = some x → ∃ q, ps[i]? = some q ∧ PlAt H x q := by
  induction h with
  | nil => intro i x e; simp at e
  | cons h _ ih =>
    intro i x e
    cases i with
    | zero => cases Option.some.inj e; exact ⟨_, rfl, h⟩
    | succ i =>
      obtain ⟨q, m, p⟩ := ih (i := i) (by simpa using e)
      exact ⟨q, by simpa using m, p⟩
theorem nd_next {ps : List Plc} (nd : ps.Nodup) {i : Nat} {q : Plc} (e : ps[i]? = some q) : q ∉ ps.take i := fun m => by
  have lt := List.getElem?_eq_some_iff.mp e
  have hw : ps = ps.take i ++ q :: ps.drop (i + 1) := by rw [← lt.2, ← List.drop_eq_getElem_cons lt.1, List.take_append_drop]
  rw [hw, List.nodup_append] at nd
  exact nd.2.2 q m q List.mem_cons_self rfl
theorem ok__standing_behind (T : Txt K mg) (N : TxtN K mg) (I : TxtI K mg) (C : TxtC13 K mg) (S : TxtS13 K mg) : Cal P w K mg base 5 "_standing_behind" spSB := by
  refine S.d_sb.cal sc__standing_behind (fun vs H Q E h => ?_) (fun fn cdv A outer s H vs Q E hr h => ?_)
  · obtain ⟨f, xs, ps, c, ts, zs, rfl, _⟩ := h
    rfl
  · obtain ⟨f, xs, ps, c, ts, zs, rfl, hf, pl, nm, hz, nd, hc, cs, run, k⟩ := h
    have hu := hr.units
    refine ⟨_, (pss_cons (ps_if (pt_not (PW.pt (pw_and (pt_val (pe_c (ok_is_place_list T N I C) hr (by decide) rfl (pa_cons (pv 0) pa_nil))) (pw_and1 (pt_val (pe_callB call_isi (by rfl) T.n_isinstance (by decide +kernel) (pa_cons (pv 1) (pa_cons (pe_bltn (v := .ty "list") (by rfl) T.n_list (by decide +kernel) rfl) pa_nil)))))))) (pss_one (ps_ret pe_non)) pss_nil)
      (C8.pss_cut (DT.ps_setDcT (i := 2) (own := [("place", 5)]) (g := gName 5) (tt := tYes) (tk := tVar 5) (tv := tC (.bl true)) rfl rfl (DT.swD_true rfl rfl rfl (by decide +kernel)) rfl (lt2 hu) sc__standing_behind.nd (pi_list (pv 0)) (blkOk_by (own := [("place", 5)]) (N := ["first", "changes", "standing", "gap", "change", "place"]) (sc := defScope s__standing_behind) (by decide +kernel)) (fun _ _ _ _ _ => pg_name (i := 5) sc__standing_behind.nd rfl (Or.inl rfl)) (fun _ _ _ _ _ => pts_nil) (fun _ _ _ _ _ => pv 5) (fun _ _ _ _ _ => pe_bl))
      (pss_cons (ps_set (i := 3) sc__standing_behind.nd rfl (.inl rfl) pe_int)
      (pss_cons (ps_for PassesOwn.never rfl (pi_list (pv 1)) (pg_name (i := 4) sc__standing_behind.nd rfl (.inl rfl))
        (pss_cons (ps_if (pt_not (pt_val (pe_c (ok_may_come T N I C S) hr (by decide) rfl (pa_cons (pv 4) (pa_cons (pv 3) (pa_cons (pv 2) pa_nil)))))) (pss_one (ps_ret pe_non)) pss_nil)
          (pss_cons (ps_expr (pe_c (ok_carry_out C) hr (by decide) rfl (pa_cons (pv 4) (pa_cons (pv 2) pa_nil))))
          (pss_one (ps_set (i := 3) sc__standing_behind.nd rfl (.inl rfl) (pe_ix ix_seq (pv 4) pe_int (fun _ _ => rfl)))))))
      (pss_one (ps_ret (pv 2))))))), ?_⟩
    k_extra "r_S13"
    refine ⟨f, xs, ps, rfl, hf, pl, nm, hz, nd, fun H1 S1 => ?_⟩
    k_extra "r_S13"
    refine q_isi (Pl.lst (S1 _ _ hc)) .lst ?_
    k_extra "r_S13"
    refine s_if0 rfl ?_
    k_extra "r_S13"
    refine q_cut8 (M := fun σ H' => ∃ D, σ = [some (.ref f), some (.ref c), some (.ref D), none, none, none] ∧ H1 D = none ∧ Same H1 H' ∧ H' D = some (.dT (stK ps))) ?_ ?_
    · refine DT.s_dcT ?_
      k_extra "r_S13"
      refine ⟨f, rfl, ⟨_, SqL.of (S1 _ _ hf)⟩, fun D nD => DT.dc_listT (K := K) (a := f) (xs := xs) (fun i H' => Same H1 H' ∧ H' D = some (.dT (stK (ps.take i)))) ⟨Same.new nD, upd_same⟩ (fun i H' _ h => SqL.of (h.1 _ _ (S1 _ _ hf))) ?_ ?_⟩
      · rintro j x H2 hj ⟨S2, h2⟩
        obtain ⟨q, eq, b, rfl, hb⟩ := pl.get2 hj
        have lt := (List.getElem?_eq_some_iff.mp hj).1
        k_extra "r_S13"
        refine ⟨rfl, ?_⟩
        k_extra "r_S13"
        refine ⟨b, keyOf q, _, rfl, (S1.trans S2) _ _ hb, h2, szlt (by rw [stK_len, List.length_take]; omega), same_mut S2 nD, ?_⟩
        rw [upd_same, putK_stK (nd_next nd eq), List.take_add_one, eq]
        rfl
      · rintro H2 ⟨S2, h2⟩
        rw [List.take_of_length_le (Nat.le_of_eq pl.len.symm)] at h2
        k_extra "r_S13"
        exact ⟨D, rfl, nD, S2, h2⟩
    rintro σ H2 ⟨D, rfl, nD, S2, hD⟩
    k_extra "r_S13"
    have hc2 := (S1.trans S2) _ _ hc
    refine ⟨c, rfl, ⟨_, SqL.of hc2⟩, q_forL (K := K) (a := c) (xs := ts) (fun i σ H' => ∃ v4, σ = [some (.ref f), some (.ref c), some (.ref D), some (.int (lastG 0 (zs.take i))), v4, none] ∧ Same H1 H' ∧ H' D = some (.dT (stK (runC ps (zs.take i))))) ⟨_, rfl, S2, hD⟩ (fun i σ H' _ ⟨_, _, S, _⟩ => SqL.of (S _ _ (S1 _ _ hc))) ?_ ?_⟩
    · rintro i x σ H3 hx ⟨v4, rfl, S3, h3⟩
      obtain ⟨z, ez, hz'⟩ := Paired.get cs hx
      obtain ⟨g1, g2, can, nmz, l9⟩ := run.get ez
      have hx3 := (hz'.mono S1).mono S3
      k_extra "r_S13"
      refine ⟨x, z, _, D, _, rfl, hx3, by omega, g2, nmz, h3, can, fun H4 S4 => ?_⟩
      k_extra "r_S13"
      refine s_if0 rfl ?_
      k_extra "r_S13"
      refine ⟨x, z, D, _, rfl, hx3.mono S4, S4 _ _ h3, by omega, can, fun H5 h5 b5 => ?_⟩
      obtain ⟨t, ys, rfl, ht, _⟩ := hx3.mono S4
      have tD : t ≠ D := fun e => by rw [e, S4 _ _ h3] at ht; cases ht
      k_extra "r_S13"
      refine q_ixT (SqT.of (b5 _ _ tD ht)) (at_of (j := 0) rfl rfl) ?_
      k_extra "r_S13"
      exact ⟨_, by rw [lastG_next 0 ez]; rfl, same_but (S3.trans S4) nD b5, by rw [runC_next ps ez]; exact h5⟩
    · rintro σ H3 ⟨v4, rfl, S3, h3⟩
      have lt : ts.length = zs.length := Paired.length cs
      rw [lt, List.take_of_length_le (Nat.le_refl _)] at h3
      k_extra "r_S13"
      exact k D H3 (S1.free nD) (S1.trans S3) h3
end
end Bt
namespace Bt
open PySem PySem.Spec PyProof.Rows L2 LamX NdefX
open PySem.W (dataLt dataLe alike AllAlike Sortable)
theorem words94_ : True := by
  k_with "s_T13" => first
    | ((with_reducible refine' s_var ?hv ?_); (case hv => exact rfl))
    | with_reducible first
      | refine' s_c ?_ | refine' s_op ?_ | refine' s_asg ?_ | refine' s_gname ?_ | refine' s_seq ?_ | refine' s_next ?_ | refine' s_ret ?_ | refine' s_ifS ?_ | refine' s_drop ?_ | refine' s_retN ?_ | refine' s_test ?_ | refine' s_B ?_ | refine' q_test ?_ | refine' s_int ?_ | refine' s_cons ?_ | refine' s_nil ?_ | refine' s_call ?_ | refine' s_CB ?_ | refine' s_andT ?_ | refine' s_orT ?_ | refine' s_notT ?_ | refine' s_andV ?_ | refine' s_orV ?_ | refine' s_notV ?_ | refine' s_ifV ?_ | refine' s_chain ?_ | refine' s_sl ?_ | refine' s_noPart ?_ | refine' s_part ?_ | refine' s_gsub ?_ | refine' s_BM ?_ | refine' s_tup ?_ | refine' s_lst ?_ | refine' q_add ?_ | refine' q_sub ?_ | refine' q_lt ?_ | refine' q_le ?_ | refine' q_gt ?_ | refine' q_ge ?_ | refine' s_ifT ?_ | refine' s_ifF ?_ | refine' s_yes ?_ | refine' s_iStr ?_ | refine' s_M0 ?_ | refine' s_for ?_ | refine' s_rng1 ?_ | refine' s_par ?_ | refine' s_gcons ?_ | refine' s_gnil ?_ | refine' s_iList ?_ | refine' s_iEnum ?_ | refine' s_raise1 ?_
      | (refine' q_mod ?hm ?_; (case hm => first | omega | decide))
    | dsimp only
  k_with "r_T13" => repeat (k_extra "s_T13")
  trivial
/-! ### stories -/
/-- the tuples are kept -/
def TupK (H H' : Hp) : Prop := ∀ b ys, H b = some (.tup ys) → H' b = some (.tup ys)
theorem TupK.of {H H' : Hp} (S : Same H H') : TupK H H' := fun _ _ e => S _ _ e
theorem TupK.nl {H H' : Hp} (N : NL H H') : TupK H H' := fun _ _ e => N _ _ e (fun _ z => by cases z)
theorem TupK.but {H H' : Hp} {p : Addr} {u : HO} (h : H p = some u) (n : ∀ ys, u ≠ .tup ys) (B : But p H H') : TupK H H' := fun b ys e => B b _ (fun z => by rw [z, h] at e; exact n _ (Option.some.inj e)) e
theorem TupK.trans {H H' H2 : Hp} (a : TupK H H') (b : TupK H' H2) : TupK H H2 := fun _ _ e => b _ _ (a _ _ e)
theorem PlAt.tk {H H' : Hp} {x : V} {q : Plc} (N : TupK H H') : PlAt H x q → PlAt H' x q := fun ⟨a, e, h⟩ => ⟨a, e, N _ _ h⟩
theorem Pls.tk {H H' : Hp} {xs : List V} {ps : List Plc} (N : TupK H H') (h : Pls H xs ps) : Pls H' xs ps := by
  induction h with
  | nil => exact .nil
  | cons h _ ih => exact .cons (h.tk N) ih
theorem ChAt.tk {H H' : Hp} {x : V} {z : GC} (N : TupK H H') : ChAt H x z → ChAt H' x z := fun ⟨t, ys, e, h, p⟩ => ⟨t, ys, e, N _ _ h, p.tk N⟩
theorem ChsAt.tk {H H' : Hp} {xs : List V} {zs : List GC} (N : TupK H H') (h : ChsAt H xs zs) : ChsAt H' xs zs := Paired.mapP h fun _ _ z => z.tk N
theorem eqvAll_pls : ∀ (xs ys : List Plc), PyData.eqvAll (xs.map dPl) (ys.map dPl) = decide (xs = ys)
  | [], [] => by simp [PyData.eqvAll]
  | [], y :: ys => by simp [PyData.eqvAll]
  | x :: xs, [] => by simp [PyData.eqvAll]
  | x :: xs, y :: ys => by
    simp only [List.map_cons, PyData.eqvAll, eqvAll_pls xs ys, eqv_pl, List.cons.injEq]
    rw [Bool.decide_and]
theorem eqv_pls (xs ys : List Plc) : PyData.eqv (dPs xs) (dPs ys) = decide (xs = ys) := by
  unfold dPs
  rw [PyData.eqv]
  exact eqvAll_pls xs ys
/-- a change as data -/
def dCh (z : GC) : PyData := .tuple (.int z.1 :: .str z.2.wd :: z.2.pcs.map dPl)
def dChs (zs : List GC) : PyData := .list (zs.map dCh)
theorem ChAt.dp {K : PySem.W.Frag} {H : Hp} {x : V} {z : GC} : ChAt H x z → Dp K H x (dCh z) := fun ⟨t, ys, e, h, p⟩ => by
  subst e
  exact .tup (SqT.of h) (.cons (.int _) (.cons (.str _) p.dps))
theorem ChsAt.dps {K : PySem.W.Frag} {H : Hp} {xs : List V} {zs : List GC} (h : ChsAt H xs zs) : DpAll K H xs (zs.map dCh) := by
  induction h with
  | nil => exact .nil
  | cons h _ ih => exact .cons h.dp ih
def NmC (zs : List GC) : Prop := ∀ z ∈ zs, ∀ p ∈ z.2.pcs, NmP p
theorem canLay_ch {z : GC} (h : ∀ p ∈ z.2.pcs, NmP p) : PyData.canLay0 (dCh z) = true := by
  have h1 := canLay_pls (ps := z.2.pcs) fun q hq => h q hq
  have h2 : PyData.strOk z.2.wd = true := by
    cases z.2 with
    | add p => exact (by decide +kernel : PyData.strOk "add" = true)
    | take p => exact (by decide +kernel : PyData.strOk "take" = true)
    | ren p q => exact (by decide +kernel : PyData.strOk "rename" = true)
  simp only [dCh, PyData.canLay0, PyData.canLayAll0, h1, h2, Bool.and_true]
theorem canLay_chs : ∀ {zs : List GC}, NmC zs → PyData.canLayAll0 (zs.map dCh) = true
  | [], _ => by simp [PyData.canLayAll0]
  | z :: zs, h => by
    simp only [List.map_cons, PyData.canLayAll0, canLay_ch (h z List.mem_cons_self), canLay_chs fun y hy => h y (List.mem_cons_of_mem _ hy), Bool.and_true]
theorem depth_chs : ∀ (zs : List GC), PyData.depthAll (zs.map dCh) ≤ 8
  | [] => by simp [PyData.depthAll]
  | z :: zs => by
    have h1 := depth_chs zs
    have h2 := depth_pls z.2.pcs
    simp only [List.map_cons, PyData.depthAll, dCh, PyData.depth]
    omega
theorem sh_chs {zs : List GC} (h : NmC zs) : SeqAt.shaped (dChs zs) = true := by
  unfold SeqAt.shaped dChs
  rw [Bool.and_eq_true, decide_eq_true_eq]
  have := depth_chs zs
  refine ⟨by simp only [PyData.canLay0]; exact canLay_chs h, ?_⟩
  simp only [PyData.depth]
  omega
theorem eqvAll_len : ∀ (xs ys : List PyData), xs.length ≠ ys.length → PyData.eqvAll xs ys = false
  | [], [], h => absurd rfl h
  | [], y :: ys, _ => by simp [PyData.eqvAll]
  | x :: xs, [], _ => by simp [PyData.eqvAll]
  | x :: xs, y :: ys, h => by
    rw [PyData.eqvAll, eqvAll_len xs ys (by simpa using h), Bool.and_false]
def stF (f c d : Addr) : List (Str × V) := putF "_last" (.ref d) (putF "_changes" (.ref c) (putF "_first" (.ref f) []))
structure StoryC (K : PySem.W.Frag) (mg : Str → Option Value) (CS : Addr) : Prop where
  cl : Cls K CS
  n1 : NoAttr K CS "_first"
  n2 : NoAttr K CS "_changes"
  n3 : NoAttr K CS "_last"
  g : mg "Story" = some (.ref CS)
  makes : PySem.W.makesIn K CS = true
  kp : PySem.W.keepIn K (.ref CS) = true
  init : ∃ (f : Addr) (fd : FuncData), PySem.W.findIn K (.ref CS) "__init__" = some (some (.ref f)) ∧ PySem.W.isFn K (.ref f) = true ∧ FunD K "__init__" "Story.__init__" (defArgs s_Story___init__) (defBody s_Story___init__) (defScope s_Story___init__) [.non] [] f fd ∧ Binds K fd ["self", "first", "changes"] [] ∧ Binds K fd ["self", "first", "changes"] [Value.none]
  i1 : PySem.W.findIn K (.ref CS) "__class__" = some (some (.builtin "object.__class__"))
  i2 : PySem.W.specialIn K (.builtin "object.__class__") "__get__" = some (some (.builtin "getset_descriptor.__get__"))
  i3 : PySem.W.takesIn K (.builtin "object.__class__") = some true
  i4 : PySem.W.mroIn K CS (.type "object") = some true
/-- a story that stands -/
structure StoAt (CS : Addr) (H : Hp) (x f c d : Addr) (ps : List Plc) (zs : List GC) (st : List Plc) : Prop where
  hx : ∃ dx, H x = some (.ins CS dx (stF f c d))
  hf : ∃ xs, H f = some (.lst xs) ∧ Pls H xs ps
  hc : ∃ ts, H c = some (.lst ts) ∧ ChsAt H ts zs
  hd : H d = some (.dT (stK st))
  ne : f ≠ c
theorem StoAt.mono {CS : Addr} {H H' : Hp} {x f c d : Addr} {ps : List Plc} {zs : List GC} {st : List Plc} (S : Same H H') (h : StoAt CS H x f c d ps zs st) : StoAt CS H' x f c d ps zs st :=
  ⟨let ⟨dx, e⟩ := h.hx; ⟨dx, S _ _ e⟩, let ⟨xs, e, p⟩ := h.hf; ⟨xs, S _ _ e, p.mono S⟩, let ⟨ts, e, p⟩ := h.hc; ⟨ts, S _ _ e, p.mono S⟩, S _ _ h.hd, h.ne⟩
theorem lk_first (f c d : Addr) : (stF f c d).lookup ("_first" : Str) = some (.ref f) := by
  unfold stF
  rw [lookup_putF, if_neg (by decide +kernel), lookup_putF, if_neg (by decide +kernel), lookup_putF, if_pos rfl]
theorem lk_changes (f c d : Addr) : (stF f c d).lookup ("_changes" : Str) = some (.ref c) := by
  unfold stF
  rw [lookup_putF, if_neg (by decide +kernel), lookup_putF, if_pos rfl]
theorem lk_last (f c d : Addr) : (stF f c d).lookup ("_last" : Str) = some (.ref d) := by
  unfold stF
  rw [lookup_putF, if_pos rfl]
section
variable {P : Program} {w : World} {K : PySem.W.Frag} {mg : Str → Option Value} {base : Heap} {CS CI : Addr}
def spInit (CS : Addr) : Sp := fun vs H Q _ => ∃ p dx f xs ps c ts zs, vs = [.ref p, .ref f, .ref c] ∧ H p = some (.ins CS dx []) ∧ H f = some (.lst xs) ∧ Pls H xs ps ∧ (∀ p ∈ ps, NmP p) ∧ xs.length < 64 ∧ ps.Nodup ∧ H c = some (.lst ts) ∧ ChsAt H ts zs ∧ Run ps 0 zs ∧
  ∀ H' f' c' d', StoAt CS H' p f' c' d' (ps.mergeSort pLe) zs (runC ps zs) → H f' = none → H c' = none → H d' = none → But p H H' → Q .non H'
theorem ok_story_init {f : Addr} {fd : FuncData} (T : Txt K mg) (N : TxtN K mg) (I : TxtI K mg) (C : TxtC13 K mg) (S : TxtS13 K mg) (SC : StoryC K mg CS)
    (F : FunD K "__init__" "Story.__init__" (defArgs s_Story___init__) (defBody s_Story___init__) (defScope s_Story___init__) [.non] [] f fd) : FnOk P w K mg base (L2.CX P w) 6 f fd ["self", "first", "changes"] (spInit CS) := by
  refine F.ok sc_Story___init__ (fun vs H Q E h => ?_) (fun cdv A outer s H vs Q E hr h => ?_)
  · obtain ⟨p, dx, f, xs, ps, c, ts, zs, rfl, _⟩ := h
    rfl
  · obtain ⟨p, dx, f, xs, ps, c, ts, zs, rfl, hp, hf, pl, nm, hz, nd, hc, cs, run, k⟩ := h
    have hu := hr.units
    refine ⟨_, (pss_cons (ps_set (i := 3) sc_Story___init__.nd rfl (.inl rfl) (pe_ifExp (pt_cmpR op_isNon (pv 2) pe_non (by rfl)) (pe_lst pa_nil) (pv 2)))
      (pss_cons (ps_set (i := 4) sc_Story___init__.nd rfl (.inl rfl) (pe_c (ok__standing_behind T N I C S) hr (by decide) rfl (pa_cons (pv 1) (pa_cons (pv 3) pa_nil))))
      (pss_cons (ps_if (pt_cmpR op_isNon (pv 4) pe_non (by rfl)) pss_deadA pss_nil)
      (pss_cons (ps_fld (pv 0) (pe_callB (cr_sortD hu) (by rfl) T.n_sorted (by decide +kernel) (pa_cons (pv 1) pa_nil)) rfl)
      (pss_cons (ps_fld (pv 0) (pe_callTy call_listOf (by rfl) T.n_list (by decide +kernel) (pa_cons (pv 3) pa_nil)) rfl)
      (pss_one (ps_fld (pv 0) (pv 4) rfl))))))), ?_⟩
    k_extra "r_T13"
    refine q_isNon (q_test (s_if0 (decide_eq_false fun z => by cases z) ?_))
    k_extra "r_T13"
    refine ⟨f, xs, ps, c, ts, zs, rfl, hf, pl, nm, hz, nd, hc, cs, run, fun D H1 nD S1 hD => ?_⟩
    k_extra "r_T13"
    refine q_isNon (q_test (s_if0 (decide_eq_false fun z => by cases z) ?_))
    k_extra "r_T13"
    refine s_sFld ?_
    k_extra "r_T13"
    refine q_sortP (SqL.of (S1 _ _ hf)) (pl.mono S1) fun f' H2 ys n2 S2 h2 pl2 => ?_
    k_extra "r_T13"
    have S12 := S1.trans S2
    have cp : c ≠ p := fun z => by rw [z, hp] at hc; cases hc
    have fp : f' ≠ p := fun z => by rw [z, S1 _ _ hp] at n2; cases n2
    have Dp : D ≠ p := fun z => by rw [z, hp] at nD; cases nD
    have nf : H f' = none := S1.free n2
    refine ⟨p, CS, dx, [], rfl, S12 _ _ hp, SC.cl, SC.n1, (by show 0 < 1000; decide), ?_⟩
    have B2 : But p H (upd H2 p (.ins CS dx (putF "_first" (.ref f') []))) := fun b o nb e => by rw [upd_ne nb]; exact S12 _ _ e
    have g2 : (upd H2 p (.ins CS dx (putF "_first" (.ref f') []))) p = some (.ins CS dx (putF "_first" (.ref f') [])) := upd_same
    have d2 : (upd H2 p (.ins CS dx (putF "_first" (.ref f') []))) D = some (.dT (stK (runC ps zs))) := by rw [upd_ne Dp]; exact S2 _ _ hD
    have f2 : (upd H2 p (.ins CS dx (putF "_first" (.ref f') []))) f' = some (.lst ys) := by rw [upd_ne fp]; exact h2
    have p2 : Pls (upd H2 p (.ins CS dx (putF "_first" (.ref f') []))) ys (ps.mergeSort pLe) := pl2.tk (TupK.but (S12 _ _ hp) (fun _ z => by cases z) But.upd)
    show tSeq _ _ _ _ (upd H2 p (.ins CS dx (putF "_first" (.ref f') [])))
    generalize (upd H2 p (.ins CS dx (putF "_first" (.ref f') []))) = H3 at B2 g2 d2 f2 p2 ⊢
    refine s_seq (s_sFld ?_)
    k_extra "r_T13"
    refine q_listL (SqL.of (B2 _ _ cp hc)) fun c' H4 n4 S4 h4 => ?_
    have cp' : c' ≠ p := fun z => by rw [z, g2] at n4; cases n4
    have cD' : c' ≠ D := fun z => by rw [z, d2] at n4; cases n4
    have fc' : f' ≠ c' := fun z => by rw [← z, f2] at n4; cases n4
    k_extra "r_T13"
    refine ⟨p, CS, dx, _, rfl, S4 _ _ g2, SC.cl, SC.n2, (by show 1 < 1000; decide), ?_⟩
    refine s_sFld ?_
    k_extra "r_T13"
    refine ⟨p, CS, dx, _, rfl, upd_same, SC.cl, SC.n3, (by show 2 < 1000; decide), ?_⟩
    refine k _ f' c' D ⟨⟨dx, upd_same⟩, ⟨ys, by rw [upd_ne fp, upd_ne fp]; exact S4 _ _ f2, ?_⟩, ⟨ts, by rw [upd_ne cp', upd_ne cp']; exact h4, ?_⟩, by rw [upd_ne Dp, upd_ne Dp]; exact S4 _ _ d2, fc'⟩ nf (B2.free cp' n4) nD fun b o nb e => by rw [upd_ne nb, upd_ne nb]; exact S4 _ _ (B2 _ _ nb e)
    · exact p2.tk ((TupK.of S4).trans ((TupK.but (S4 _ _ g2) (fun _ z => by cases z) But.upd).trans (TupK.but upd_same (fun _ z => by cases z) But.upd)))
    · exact cs.tk ((TupK.but hp (fun _ z => by cases z) B2).trans ((TupK.of S4).trans ((TupK.but (S4 _ _ g2) (fun _ z => by cases z) But.upd).trans (TupK.but upd_same (fun _ z => by cases z) But.upd))))
end
end Bt
namespace Bt
open PySem PySem.Spec PyProof.Rows L2 LamX NdefX
open PySem.W (dataLt dataLe alike AllAlike Sortable)
theorem words95_ : True := by
  k_with "s_T13b" => first
    | ((with_reducible refine' s_var ?hv ?_); (case hv => exact rfl))
    | with_reducible first
      | refine' s_c ?_ | refine' s_op ?_ | refine' s_asg ?_ | refine' s_gname ?_ | refine' s_seq ?_ | refine' s_next ?_ | refine' s_ret ?_ | refine' s_ifS ?_ | refine' s_drop ?_ | refine' s_retN ?_ | refine' s_test ?_ | refine' s_B ?_ | refine' q_test ?_ | refine' s_int ?_ | refine' s_cons ?_ | refine' s_nil ?_ | refine' s_call ?_ | refine' s_CB ?_ | refine' s_andT ?_ | refine' s_orT ?_ | refine' s_notT ?_ | refine' s_andV ?_ | refine' s_orV ?_ | refine' s_notV ?_ | refine' s_ifV ?_ | refine' s_chain ?_ | refine' s_sl ?_ | refine' s_noPart ?_ | refine' s_part ?_ | refine' s_gsub ?_ | refine' s_BM ?_ | refine' s_tup ?_ | refine' s_lst ?_ | refine' q_add ?_ | refine' q_sub ?_ | refine' q_lt ?_ | refine' q_le ?_ | refine' q_gt ?_ | refine' q_ge ?_ | refine' s_ifT ?_ | refine' s_ifF ?_ | refine' s_yes ?_ | refine' s_iStr ?_ | refine' s_M0 ?_ | refine' s_for ?_ | refine' s_rng1 ?_ | refine' s_par ?_ | refine' s_gcons ?_ | refine' s_gnil ?_ | refine' s_iList ?_ | refine' s_iEnum ?_ | refine' s_raise1 ?_
      | (refine' q_mod ?hm ?_; (case hm => first | omega | decide))
    | dsimp only
  k_with "r_T13b" => repeat (k_extra "s_T13b")
  trivial
theorem s_make {C : Addr} {sp : Sp} {dvs : List V} {E : XK} {t : TA} {σ : L2.St} {H : Hp} {Q : VK} (h : t σ H fun vs H1 => ∀ x dx, H1 x = none → H1 dx = none → dx ≠ x → sp (.ref x :: (vs ++ dvs)) (upd (upd H1 dx (.own x)) x (.ins C dx [])) (fun v H2 => v = .non ∧ Q (.ref x) H2) E) : tMake C sp dvs E t σ H Q := h
theorem s_makeS {C : Addr} {sp : Sp} {dvs : List V} {E : L2.St → XK} {t : TA} {σ : L2.St} {H : Hp} {Q : VK} (h : t σ H fun vs H1 => ∀ x dx, H1 x = none → H1 dx = none → dx ≠ x → sp (.ref x :: (vs ++ dvs)) (upd (upd H1 dx (.own x)) x (.ins C dx [])) (fun v H2 => v = .non ∧ Q (.ref x) H2) (E σ)) : tMakeS C sp dvs E t σ H Q := h
theorem same_made {H : Hp} {x dx C : Addr} (nx : H x = none) (nd : H dx = none) : Same H (upd (upd H dx (.own x)) x (.ins C dx [])) := fun b o e => by
  rw [upd_ne (ne_of_none e nx), upd_ne (ne_of_none e nd)]; exact e
/-! ### Story(..), its parts -/
structure StoryM (K : PySem.W.Frag) (CS : Addr) : Prop where
  first : ∃ (p f : Addr) (fd : FuncData), PropOf K CS "first" p f ∧ Fun K "first" "Story.first" s_Story_first f fd ∧ Binds K fd ["self"] []
  len : ∃ (f : Addr) (fd : FuncData), PySem.W.findIn K (.ref CS) "__len__" = some (some (.ref f)) ∧ PySem.W.isFn K (.ref f) = true ∧ Fun K "__len__" "Story.__len__" s_Story___len__ f fd ∧ Binds K fd ["self"] []
  get : ∃ (f : Addr) (fd : FuncData), PySem.W.findIn K (.ref CS) "__getitem__" = some (some (.ref f)) ∧ PySem.W.isFn K (.ref f) = true ∧ PySem.W.fnIn K f = true ∧ Fun K "__getitem__" "Story.__getitem__" s_Story___getitem__ f fd ∧ Binds K fd ["self", "at"] []
  iadd : ∃ (f : Addr) (fd : FuncData), PySem.W.selfFirst K CS = true ∧ PySem.W.findIn K (.ref CS) "__iadd__" = some (some (.ref f)) ∧ PySem.W.isFn K (.ref f) = true ∧ Fun K "__iadd__" "Story.__iadd__" s_Story___iadd__ f fd ∧ Binds K fd ["self", "other"] []
  eq : ∃ (f : Addr) (fd : FuncData), PySem.W.findIn K (.ref CS) "__eq__" = some (some (.ref f)) ∧ PySem.W.isFn K (.ref f) = true ∧ Fun K "__eq__" "Story.__eq__" s_Story___eq__ f fd ∧ Binds K fd ["self", "other"] []
  at_ : ∃ (f : Addr) (fd : FuncData), Meth K CS "at" f ∧ Fun K "at" "Story.at" s_Story_at f fd ∧ Binds K fd ["self", "k"] []
  con : ∃ (f : Addr) (fd : FuncData), PySem.W.findIn K (.ref CS) "__contains__" = some (some (.ref f)) ∧ PySem.W.isFn K (.ref f) = true ∧ Fun K "__contains__" "Story.__contains__" s_Story___contains__ f fd ∧ Binds K fd ["self", "place"] []
  kN : ∀ T, Kd T → PySem.W.kitOne K (.type T) (.ref CS) = some false
  nK : ∀ T, Kd T → PySem.W.notFirst K CS (.type T) = true
  kT : PySem.W.kitOne K (.ref CS) (.type "tuple") = some false
  sub : PySem.W.subIn K (.ref CS) (.type "str") = some false
  kY : PySem.W.kitOne K (.ref CS) (.ref CS) = some true
  nY : PySem.W.notFirst K CS (.ref CS) = true
section
variable {X : Cx} {CS : Addr} {k : Nat} {p pos : Pos} {e e2 : Expr} {ta tb : TE}
theorem pe_story (T : Txt X.K X.mg) (N : TxtN X.K X.mg) (I : TxtI X.K X.mg) (C : TxtC13 X.K X.mg) (S : TxtS13 X.K X.mg) (SC : StoryC X.K X.mg CS) (hr : Room k X.A) (hk : 7 ≤ k) (h1 : PE X e ta) (h2 : PE X e2 tb) (hg : Gl X "Story" := by rfl)
    (s1 : starEach (e :: [e2]) X.env = (false, eval e X.env) :: starEach [e2] X.env := by rfl) (s2 : starEach (e2 :: []) X.env = (false, eval e2 X.env) :: starEach [] X.env := by rfl) (s3 : (backTo pos (starEach [e2] X.env)).any (·.1) = false := by rfl) :
    PE X (.Call (.Name "Story" p) [e, e2] [] pos) (tMake CS (spInit CS) [] E0 (tCons ta (tCons tb tNil))) := by
  obtain ⟨f, fd, i1, i2, F, b, _⟩ := SC.init
  exact pe_make ⟨SC.makes, i1, i2, SC.kp⟩ (ok_story_init T N I C S SC F) (hr.mono hk) hg SC.g b .nil passL (pa_cons h1 (pa_cons h2 pa_nil s2) s1) (by decide) s1 s3
end
section
variable {P : Program} {w : World} {K : PySem.W.Frag} {mg : Str → Option Value} {base : Heap} {CS CI : Addr}
theorem q_story {H : Hp} {Q : Addr → Hp → Prop} {E : XK} {f c : Addr} {xs ts : List V} {ps : List Plc} {zs : List GC} (hf : H f = some (.lst xs)) (pl : Pls H xs ps) (nm : ∀ p ∈ ps, NmP p) (hz : xs.length < 64) (nd : ps.Nodup) (hc : H c = some (.lst ts)) (cs : ChsAt H ts zs) (run : Run ps 0 zs)
    (k : ∀ x H' f' c' d', H x = none → H f' = none → H c' = none → H d' = none → Same H H' → StoAt CS H' x f' c' d' (ps.mergeSort pLe) zs (runC ps zs) → Q x H') :
    ∀ x dx, H x = none → H dx = none → dx ≠ x → spInit CS [.ref x, .ref f, .ref c] (upd (upd H dx (.own x)) x (.ins CS dx [])) (fun v H2 => v = .non ∧ Q x H2) E := fun x dx nx nD ne => by
  have S := same_made (C := CS) nx nD
  exact ⟨x, dx, f, xs, ps, c, ts, zs, rfl, upd_same, S _ _ hf, pl.mono S, nm, hz, nd, S _ _ hc, cs.mono S, run, fun H' f' c' d' st n1 n2 n3 B => ⟨rfl, k x H' f' c' d' nx (S.free n1) (S.free n2) (S.free n3) (fun b o e => B b o (ne_of_none e nx) (S _ _ e)) st⟩⟩
def spFirst (CS : Addr) : Sp := fun vs H Q _ => ∃ x f c d ps zs st, vs = [.ref x] ∧ StoAt CS H x f c d ps zs st ∧ ∀ D H' ys, H D = none → Same H H' → H' D = some (.lst ys) → Pls H' ys ps → Q (.ref D) H'
theorem ok_story_first {f : Addr} {fd : FuncData} (T : Txt K mg) (SC : StoryC K mg CS) (F : Fun K "first" "Story.first" s_Story_first f fd) : FnOk P w K mg base CX0 1 f fd ["self"] (spFirst CS) := by
  refine F.ok sc_Story_first (fun vs H Q E h => ?_) (fun cdv A outer s H vs Q E hr h => ?_)
  · obtain ⟨x, f, c, d, ps, zs, st, rfl, _⟩ := h
    rfl
  · obtain ⟨x, f, c, d, ps, zs, st, rfl, hs, k⟩ := h
    refine ⟨_, (pss_one (ps_ret (pe_callTy call_listOf (by rfl) T.n_list (by decide +kernel) (pa_cons (pe_fld (pv 0) rfl) pa_nil)))), ?_⟩
    k_extra "r_T13b"
    refine s_fld ?_
    k_extra "r_T13b"
    obtain ⟨dx, hx⟩ := hs.hx
    obtain ⟨xs, hf, pl⟩ := hs.hf
    refine ⟨x, CS, dx, _, .ref f, rfl, hx, SC.cl, SC.n1, lk_first _ _ _, ?_⟩
    k_extra "r_T13b"
    refine q_listL (SqL.of hf) fun D H1 nD S1 hD => ?_
    exact k D H1 xs nD S1 hD (pl.mono S1)
def spLen (CS : Addr) : Sp := fun vs H Q _ => ∃ x f c d ps zs st, vs = [.ref x] ∧ StoAt CS H x f c d ps zs st ∧ Q (.int zs.length) H
theorem ok_story_len {f : Addr} {fd : FuncData} (N : TxtN K mg) (SC : StoryC K mg CS) (F : Fun K "__len__" "Story.__len__" s_Story___len__ f fd) : FnOk P w K mg base CX0 1 f fd ["self"] (spLen CS) := by
  refine F.ok sc_Story___len__ (fun vs H Q E h => ?_) (fun cdv A outer s H vs Q E hr h => ?_)
  · obtain ⟨x, f, c, d, ps, zs, st, rfl, _⟩ := h
    rfl
  · obtain ⟨x, f, c, d, ps, zs, st, rfl, hs, k⟩ := h
    refine ⟨_, (pss_one (ps_ret (pe_callB call_lenQ (by rfl) N.n_len (by decide +kernel) (pa_cons (pe_fld (pv 0) rfl) pa_nil)))), ?_⟩
    k_extra "r_T13b"
    refine s_fld ?_
    k_extra "r_T13b"
    obtain ⟨dx, hx⟩ := hs.hx
    obtain ⟨ts, hc, cs⟩ := hs.hc
    refine ⟨x, CS, dx, _, .ref c, rfl, hx, SC.cl, SC.n2, lk_changes _ _ _, ?_⟩
    k_extra "r_T13b"
    refine q_lenL (SqL.of hc) ?_
    rw [show ts.length = zs.length from Paired.length cs]
    exact k
def spCI : Sp := fun vs H Q _ => ∃ i n : Int, vs = [.int i, .int n] ∧ 0 ≤ i ∧ i < n ∧ Q .non H
theorem ok_check_index (T : Txt K mg) (S : TxtS13 K mg) : Cal P w K mg base 2 "check_index" spCI := by
  refine S.d_ci.cal sc_check_index (fun vs H Q E h => ?_) (fun f cdv A outer s H vs Q E hr h => ?_)
  · obtain ⟨i, n, rfl, _⟩ := h
    rfl
  · obtain ⟨i, n, rfl, h0, h1, k⟩ := h
    refine ⟨_, (pss_one (ps_if (pt_not (PW.pt (pw_and (pt_val (pe_c (ok_is_whole T) hr (by decide) rfl (pa_cons (pv 0) pa_nil))) (pw_and1 (pt_chain op_leI op_ltI pe_int (pv 0) (pv 1)))))) pss_deadA pss_nil)), ?_⟩
    k_extra "r_T13b"
    refine ⟨_, "int", rfl, Pl.int, ?_⟩
    k_extra "r_T13b"
    refine s_if1 rfl ?_
    k_extra "r_T13b"
    refine s_ifD (fun _ => ?_) (fun e => absurd h0 e)
    k_extra "r_T13b"
    refine s_ifND (fun _ => ?_) (fun e => absurd h1 e)
    exact k
def spGet (CS : Addr) : Sp := fun vs H Q _ => ∃ x f c d ps zs st j z, vs = [.ref x, .int j] ∧ StoAt CS H x f c d ps zs st ∧ 0 ≤ j ∧ zs[j.toNat]? = some z ∧ ∀ y, ChAt H y z → Q y H
theorem ok_story_get {f : Addr} {fd : FuncData} (T : Txt K mg) (N : TxtN K mg) (S : TxtS13 K mg) (SC : StoryC K mg CS) (F : Fun K "__getitem__" "Story.__getitem__" s_Story___getitem__ f fd) : FnOk P w K mg base CX0 3 f fd ["self", "at"] (spGet CS) := by
  refine F.ok sc_Story___getitem__ (fun vs H Q E h => ?_) (fun cdv A outer s H vs Q E hr h => ?_)
  · obtain ⟨x, f, c, d, ps, zs, st, j, z, rfl, _⟩ := h
    rfl
  · obtain ⟨x, f, c, d, ps, zs, st, j, z, rfl, hs, j0, ez, k⟩ := h
    refine ⟨_, (pss_cons (ps_expr (pe_c (ok_check_index T S) hr (by decide) rfl (pa_cons (pv 1) (pa_cons (pe_callB call_lenQ (by rfl) N.n_len (by decide +kernel) (pa_cons (pe_fld (pv 0) rfl) pa_nil)) pa_nil))))
      (pss_one (ps_ret (pe_ix ix_seq (pe_fld (pv 0) rfl) (pv 1) (fun _ _ => rfl))))), ?_⟩
    obtain ⟨dx, hx⟩ := hs.hx
    obtain ⟨ts, hc, cs⟩ := hs.hc
    have lt : ts.length = zs.length := Paired.length cs
    have lj := (List.getElem?_eq_some_iff.mp ez).1
    have etj : ts[j.toNat]? = some ts[j.toNat] := List.getElem?_eq_getElem (by omega)
    obtain ⟨z', ez', hz'⟩ := Paired.get cs etj
    rw [ez] at ez'
    cases ez'
    obtain ⟨n, rfl⟩ : ∃ n : Nat, j = n := ⟨j.toNat, by omega⟩
    k_extra "r_T13b"
    refine s_fld ?_
    k_extra "r_T13b"
    refine ⟨x, CS, dx, _, .ref c, rfl, hx, SC.cl, SC.n2, lk_changes _ _ _, ?_⟩
    k_extra "r_T13b"
    refine q_lenL (SqL.of hc) ?_
    k_extra "r_T13b"
    refine ⟨_, _, rfl, j0, by omega, ?_⟩
    k_extra "r_T13b"
    refine s_fld ?_
    k_extra "r_T13b"
    refine ⟨x, CS, dx, _, .ref c, rfl, hx, SC.cl, SC.n2, lk_changes _ _ _, ?_⟩
    k_extra "r_T13b"
    refine q_ixL (SqL.of hc) (atI_nat etj) ?_
    exact k _ hz'
def spSEq (CS : Addr) : Sp := fun vs H Q _ => ∃ x f c d ps zs st x' f' c' d' ps' zs' st', vs = [.ref x, .ref x'] ∧ StoAt CS H x f c d ps zs st ∧ StoAt CS H x' f' c' d' ps' zs' st' ∧ (∀ p ∈ ps, NmP p) ∧ (∀ p ∈ ps', NmP p) ∧ NmC zs ∧ NmC zs' ∧ Q (.bl (decide (ps = ps') && PyData.eqv (dChs zs) (dChs zs'))) H
theorem ok_story_eq {f : Addr} {fd : FuncData} (T : Txt K mg) (SC : StoryC K mg CS) (SM : StoryM K CS) (F : Fun K "__eq__" "Story.__eq__" s_Story___eq__ f fd) : FnOk P w K mg base CX0 1 f fd ["self", "other"] (spSEq CS) := by
  refine F.ok sc_Story___eq__ (fun vs H Q E h => ?_) (fun cdv A outer s H vs Q E hr h => ?_)
  · obtain ⟨x, f, c, d, ps, zs, st, x', f', c', d', ps', zs', st', rfl, _⟩ := h
    rfl
  · obtain ⟨x, f, c, d, ps, zs, st, x', f', c', d', ps', zs', st', rfl, hs, hs', n1, n2, n3, n4, k⟩ := h
    have hu := hr.units
    refine ⟨_, (pss_one (ps_ret (pe_and (pe_callB call_isi (by rfl) T.n_isinstance (by decide +kernel) (pa_cons (pv 1) (pa_cons (pe_glob (v := .ref CS) (by rfl) SC.g rfl) pa_nil))) (pe_and (pe_cmpR (op_eqU hu) (pe_fld (pv 0) rfl) (pe_fld (pv 1) rfl) (by rfl)) (pe_one (pe_cmpR (op_eqU hu) (pe_fld (pv 0) rfl) (pe_fld (pv 1) rfl) (by rfl))))))), ?_⟩
    obtain ⟨dx, hx⟩ := hs.hx
    obtain ⟨dx', hx'⟩ := hs'.hx
    obtain ⟨xs, hf, pl⟩ := hs.hf
    obtain ⟨xs', hf', pl'⟩ := hs'.hf
    obtain ⟨ts, hc, cs⟩ := hs.hc
    obtain ⟨ts', hc', cs'⟩ := hs'.hc
    k_extra "r_T13b"
    refine ⟨.ref x', .ref CS, .ref CS, .ref CS, true, rfl, .own CS, .base (.ins hx' SC.cl SC.i1 SC.i2 SC.i3 SC.i4), SM.kY, ?_⟩
    k_extra "r_T13b"
    refine s_fld ?_
    k_extra "r_T13b"
    refine ⟨x, CS, dx, _, .ref f, rfl, hx, SC.cl, SC.n1, lk_first _ _ _, ?_⟩
    refine s_fld ?_
    k_extra "r_T13b"
    refine ⟨x', CS, dx', _, .ref f', rfl, hx', SC.cl, SC.n1, lk_first _ _ _, ?_⟩
    refine q_eqD (.lst (SqL.of hf) pl.dps) (.lst (SqL.of hf') pl'.dps) (sh_pls n1) (sh_pls n2) ?_
    rw [show PyData.eqv (.list (ps.map dPl)) (.list (ps'.map dPl)) = decide (ps = ps') from eqv_pls ps ps']
    by_cases e : ps = ps'
    · rw [decide_eq_true e] at k ⊢
      rw [Bool.true_and] at k
      refine ⟨_, rfl, s_if1 rfl ?_⟩
      k_extra "r_T13b"
      refine s_fld ?_
      k_extra "r_T13b"
      refine ⟨x, CS, dx, _, .ref c, rfl, hx, SC.cl, SC.n2, lk_changes _ _ _, ?_⟩
      refine s_fld ?_
      k_extra "r_T13b"
      refine ⟨x', CS, dx', _, .ref c', rfl, hx', SC.cl, SC.n2, lk_changes _ _ _, ?_⟩
      refine q_eqD (.lst (SqL.of hc) cs.dps) (.lst (SqL.of hc') cs'.dps) (sh_chs n3) (sh_chs n4) ?_
      exact k
    · rw [decide_eq_false e] at k ⊢
      rw [Bool.false_and] at k
      exact ⟨_, rfl, s_if0 rfl k⟩
/-- check_least: a whole number from least on, or InvalidNumber -/
def spCL (K : PySem.W.Frag) (CI : Addr) : Sp := fun vs H Q E => ∃ v T m, vs = [v, .int m] ∧ Pl K H v T ∧ ((∃ i, v = .int i ∧ m ≤ i ∧ ∀ H', Same H H' → Q .non H') ∨ ((∀ i, v = .int i → ¬ m ≤ i) ∧ ∀ H' d, Same H H' → H d = none → H' d = some (.xd [("value", v)]) → E (.ref CI) (some d) H'))
theorem ok_check_least (T : Txt K mg) (S : TxtS13 K mg) (XN : ExcF K mg "InvalidNumber" "value" CI) : CalX P w K mg base 3 "check_least" (spCL K CI) := by
  refine S.d_cl.calX sc_check_least (fun vs H Q E h => ?_) (fun f cdv A outer s H vs Q E hr h => ?_)
  · obtain ⟨v, T, m, rfl, _⟩ := h
    rfl
  · obtain ⟨v, ty, m, rfl, hv, kk⟩ := h
    refine ⟨_, (pss_one (ps_if (pt_not (PW.pt (pw_and (pt_val (pe_c (ok_is_whole T) hr (by decide) rfl (pa_cons (pv 0) pa_nil))) (pw_and1 (pt_cmpR op_geI (pv 0) (pv 1) (by rfl)))))) (pss_one (ps_raise1 rfl XN hr (by decide) (takes_of rfl rfl rfl rfl) (pv 0))) pss_nil)), ?_⟩
    k_extra "r_T13b"
    refine ⟨v, ty, rfl, hv, ?_⟩
    k_extra "r_T13b"
    rcases kk with ⟨i, rfl, hm, k⟩ | ⟨no, k⟩
    · rw [hv.is_int]
      refine s_if1 rfl ?_
      k_extra "r_T13b"
      refine s_ifND (fun _ => ?_) (fun e => absurd hm e)
      exact k H (Same.refl H)
    · by_cases e : ty = "int"
      · obtain ⟨i, rfl⟩ := hv.of_int e
        subst e
        refine s_if1 rfl ?_
        k_extra "r_T13b"
        refine s_ifND (fun e => absurd e (no i rfl)) (fun _ => ?_)
        refine s_raise1 ?_
        k_extra "r_T13b"
        exact fun d H3 nd S3 hd => k H3 d S3 nd hd
      · refine s_if0 (beq_eq_false_iff_ne.mpr e) ?_
        refine s_if1 rfl ?_
        refine s_raise1 ?_
        k_extra "r_T13b"
        exact fun d H3 nd S3 hd => k H3 d S3 nd hd
end
end Bt
namespace PySem.W
open Lean Elab Tactic Meta PySem PySem.Calls PyProof.Rows
/-! ### an own operator, the other operand of a built-in kind -/
section
variable {prog : Program} {w : World} {A : Around} {E : Value → Shared → Prop} {s : Shared} {K : Frag} {x C f g : Addr} {ox : Obj} {od : Option Obj} {T : String} {op : Operator} {r : Bool}
theorem own_left {b : Value} {ro rc : Option Value} {Q : Value → Shared → Prop} (KX : K.In s.heap) (I : InstAt s.heap x ox C od) (hb : Looks (model prog w) s.heap (typeOf b) (.type T)) (hc : selfFirst K C = true)
    (hs : findIn K (.ref C) (PySem.dunder op.info.2) = some (some (.ref f))) (hf : isFn K (.ref f) = true) (hr : findIn K (.ref C) (dunderR op.info.2) = some rc) (hp : rc = none ∨ ∃ g : Addr, rc = some (.ref g))
    (fills : fillsNumberSlot (.type T) op.info.2 = pure r) (look : typeLookup (.type T) (dunderR op.info.2) = pure ro) (hsub : subIn K (.type T) (.ref C) = some false)
    (h : wpAny (model prog w) A (call (.ref f) [.ref x, b]) (CmpBack Q) E s) : wpAny (model prog w) A (binaryOp op (.ref x) b) Q E s := by
  obtain ⟨cd, rest, hcd, hm⟩ := ksp_first hc
  rcases hi : op.info with ⟨sym, nm'⟩
  rw [hi] at hs hr fills look
  dsimp only at hs hr fills look
  have one := ksp_try KX I hs hf h
  obtain ⟨hh, g, d, tt, os⟩ := s
  have L1 : Looks (model prog w) hh (typeOf (.ref x)) (.ref C) := I.type
  have L2 : Looks (model prog w) hh (typeOf b) (.type T) := hb
  have L3 : Looks (model prog w) hh (fillsNumberSlot (.ref C) nm') true := fills_K KX hcd hm hs
  have L4 : Looks (model prog w) hh (fillsNumberSlot (.type T) nm') r := Looks.of_pure fills
  have L5 : Looks (model prog w) hh (isSubtype (.type T) (.ref C)) false := looks_subIn KX hsub
  have L6 : Looks (model prog w) hh (numberSlotInPython (.ref C) nm') true := ksp_inPy KX hs hr hp
  have L7 : Looks (model prog w) hh (numberSlotInPython (.type T) nm') false := Looks.of_pure rfl
  have L8 : Looks (model prog w) hh (typeLookup (.type T) (dunderR nm')) ro := Looks.of_pure look
  have ne : (Value.ref C == Value.type T) = false := Bool.eq_false_iff.mpr fun q => by cases beq_iff_eq.mp q
  simp only [binaryOp, hi]
  refine wpAny_holding (wpAny_bind ?_)
  unfold binaryOp1
  refine wpAny_bind (L1.at (wpAny_bind (L2.at (wpAny_bind (L3.at ?_)))))
  simp only [ne, Bool.false_eq_true, if_false]
  cases r <;>
  · ksp_lk
    refine wpAny_mono one (fun r s' hr' => ?_) fun _ _ e => e
    obtain ⟨v, rfl, hq⟩ := hr'
    ksp_lk
    exact hq
theorem own_right {a : Value} {Q : Value → Shared → Prop} (KX : K.In s.heap) (I : InstAt s.heap x ox C od) (ha : Looks (model prog w) s.heap (typeOf a) (.type T)) (hc : selfFirst K C = true)
    (hs : findIn K (.ref C) (PySem.dunder op.info.2) = some (some (.ref g))) (hr : findIn K (.ref C) (dunderR op.info.2) = some (some (.ref f))) (hf : isFn K (.ref f) = true)
    (fills : fillsNumberSlot (.type T) op.info.2 = pure false)
    (h : wpAny (model prog w) A (call (.ref f) [.ref x, a]) (CmpBack Q) E s) : wpAny (model prog w) A (binaryOp op a (.ref x)) Q E s := by
  obtain ⟨cd, rest, hcd, hm⟩ := ksp_first hc
  rcases hi : op.info with ⟨sym, nm'⟩
  rw [hi] at hs hr fills
  dsimp only at hs hr fills
  have one := ksp_try KX I hr hf h
  obtain ⟨hh, gg, d, tt, os⟩ := s
  have L1 : Looks (model prog w) hh (typeOf (.ref x)) (.ref C) := I.type
  have L2 : Looks (model prog w) hh (typeOf a) (.type T) := ha
  have L3 : Looks (model prog w) hh (fillsNumberSlot (.ref C) nm') true := fills_K KX hcd hm hs
  have L4 : Looks (model prog w) hh (fillsNumberSlot (.type T) nm') false := Looks.of_pure fills
  have ne : (Value.type T == Value.ref C) = false := Bool.eq_false_iff.mpr fun q => by cases beq_iff_eq.mp q
  simp only [binaryOp, hi]
  refine wpAny_holding (wpAny_bind ?_)
  unfold binaryOp1
  refine wpAny_bind (L2.at (wpAny_bind (L1.at (wpAny_bind (L4.at ?_)))))
  simp only [ne, Bool.false_eq_true, if_false]
  ksp_lk
  refine wpAny_mono one (fun r s' hr' => ?_) fun _ _ e => e
  obtain ⟨v, rfl, hq⟩ := hr'
  ksp_lk
  exact hq
/-- the left operand's slot declines first -/
theorem own_right2 {a : Value} {Q : Value → Shared → Prop} (KX : K.In s.heap) (I : InstAt s.heap x ox C od) (ha : Looks (model prog w) s.heap (typeOf a) (.type T)) (hc : selfFirst K C = true)
    (hs : findIn K (.ref C) (PySem.dunder op.info.2) = some (some (.ref g))) (hr : findIn K (.ref C) (dunderR op.info.2) = some (some (.ref f))) (hf : isFn K (.ref f) = true)
    (fills : fillsNumberSlot (.type T) op.info.2 = pure true) (hsub : subIn K (.ref C) (.type T) = some false)
    (dec : ∀ Q' : Option Value → Shared → Prop, Q' none s → wpAny (model prog w) A (tryMethod a (PySem.dunder op.info.2) (.ref x)) Q' E s)
    (h : wpAny (model prog w) A (call (.ref f) [.ref x, a]) (CmpBack Q) E s) : wpAny (model prog w) A (binaryOp op a (.ref x)) Q E s := by
  obtain ⟨cd, rest, hcd, hm⟩ := ksp_first hc
  rcases hi : op.info with ⟨sym, nm'⟩
  rw [hi] at hs hr fills dec
  dsimp only at hs hr fills dec
  have one := ksp_try KX I hr hf h
  obtain ⟨hh, gg, d, tt, os⟩ := s
  have L1 : Looks (model prog w) hh (typeOf (.ref x)) (.ref C) := I.type
  have L2 : Looks (model prog w) hh (typeOf a) (.type T) := ha
  have L3 : Looks (model prog w) hh (fillsNumberSlot (.ref C) nm') true := fills_K KX hcd hm hs
  have L4 : Looks (model prog w) hh (fillsNumberSlot (.type T) nm') true := Looks.of_pure fills
  have L5 : Looks (model prog w) hh (isSubtype (.ref C) (.type T)) false := looks_subIn KX hsub
  have L7 : Looks (model prog w) hh (numberSlotInPython (.type T) nm') false := Looks.of_pure rfl
  have ne : (Value.type T == Value.ref C) = false := Bool.eq_false_iff.mpr fun q => by cases beq_iff_eq.mp q
  simp only [binaryOp, hi]
  refine wpAny_holding (wpAny_bind ?_)
  unfold binaryOp1
  refine wpAny_bind (L2.at (wpAny_bind (L1.at (wpAny_bind (L4.at ?_)))))
  simp only [ne, Bool.false_eq_true, if_false]
  ksp_lk
  refine dec _ ?_
  ksp_lk
  refine wpAny_mono one (fun r s' hr' => ?_) fun _ _ e => e
  obtain ⟨v, rfl, hq⟩ := hr'
  ksp_lk
  exact hq
end
end PySem.W
namespace Bt
open PySem PySem.Spec PyProof.Rows L2
/-! ### what the end wants of the classes -/
theorem ve_own {CB : Addr} : PySem.HandSPX.refsVE [.ref CB, .type "ValueError", .type "Exception", .type "BaseException", .type "object"] = true := show PySem.HandSPX.refsVE [.type "ValueError", .type "Exception", .type "BaseException", .type "object"] = true by decide +kernel
theorem exm_self {K : PySem.W.Frag} {S : Addr} (h1 : PySem.W.subIn K (.ref S) (.type "BaseException") = some true) (h2 : PySem.W.isClsIn K S = true) (h3 : PySem.W.typeIn K (.ref S) = some (.type "type")) (h4 : PySem.W.subIn K (.ref S) (.ref S) = some true) :
    PySem.W.exmOne K (.ref S) (.ref S) = some true := by
  have e1 : (PySem.W.subIn K (.ref S) (.type "BaseException") == some true) = true := by rw [h1] <;> rfl
  have e2 : ((PySem.W.clsIn K S).isSome && PySem.W.typeIn K (.ref S) == some (.type "type")) = true := by
    have h2' : (PySem.W.clsIn K S).isSome = true := h2
    rw [h2', h3] <;> rfl
  show (if (PySem.W.subIn K (.ref S) (.type "BaseException") == some true) = true then (if ((PySem.W.clsIn K S).isSome && PySem.W.typeIn K (.ref S) == some (.type "type")) = true then PySem.W.subIn K (.ref S) (.ref S) else none) else none) = some true
  rw [if_pos e1, if_pos e2]
  exact h4
theorem exc_binds {K : PySem.W.Frag} {qual fld : Str} {params : Arguments} {body : List Stmt} {scope : Scope} {f : Addr} {fd : FuncData} (F : FunD K "__init__" qual params body scope [.non] [] f fd)
    (h : ∀ (T : Addr) (kV doc pm : Value) (an : Option Addr) (cdv ct : Value) (us its : List Value), us.length = 2 → its.length = 1 →
      ∃ k, bindArgs (PySem.W.fnOf "__init__" qual params body scope (.ref T) kV doc pm an cdv ct) ⟨us, []⟩ = seqItems? (.ref T) >>= k ∧ k (some its.toArray) = pure ((["self", fld] : List Str).zip (us ++ its.drop 1))) : Binds K fd ["self", fld] [] := by
  obtain ⟨ds, hv, hb⟩ := F.binds1 (ps := ["self", fld]) 2 1 (by simp) rfl h
  cases hv
  exact hb
theorem kit_own {K : PySem.W.Frag} {C : Addr} : PySem.W.kitOne K (.ref C) (.ref C) = some true := by
  unfold PySem.W.kitOne
  rw [if_pos (by simp)]
theorem sub_no {K : PySem.W.Frag} {C : Addr} {T : String} (h : Kd T) : PySem.W.subIn K (.type T) (.ref C) = some false := by
  cases h <;> rfl
theorem kit_no {K : PySem.W.Frag} {C : Addr} {T : String} (h2 : PySem.W.isClsIn K C = true) (h3 : PySem.W.typeIn K (.ref C) = some (.type "type")) (h : Kd T) : PySem.W.kitOne K (.type T) (.ref C) = some false := by
  have e2 : ((PySem.W.clsIn K C).isSome && PySem.W.typeIn K (.ref C) == some (.type "type")) = true := by
    have h2' : (PySem.W.clsIn K C).isSome = true := h2
    rw [h2', h3] <;> rfl
  show (if ((Value.type T) == (Value.ref C)) = true then some true else (if ((PySem.W.clsIn K C).isSome && PySem.W.typeIn K (.ref C) == some (.type "type")) = true then PySem.W.subIn K (.type T) (.ref C) else none)) = some false
  rw [if_neg (by cases h <;> exact fun z => nomatch z), if_pos e2]
  exact sub_no h
theorem nf_kd {K : PySem.W.Frag} {C : Addr} {T : String} (h : Kd T) : PySem.W.notFirst K C (.type T) = true := by
  unfold PySem.W.notFirst
  rw [sub_no h]
  exact Bool.or_true _
theorem nf_own {K : PySem.W.Frag} {C : Addr} : PySem.W.notFirst K C (.ref C) = true := by
  unfold PySem.W.notFirst
  simp
end Bt
namespace Bt
open PySem PySem.Spec PyProof.Rows L2
theorem fills_of {T nm : String} {fo ro : Option Value} (h1 : typeLookup (.type T) (PySem.dunder nm) = pure fo) (h2 : typeLookup (.type T) (dunderR nm) = pure ro) :
    fillsNumberSlot (.type T) nm = pure ((fo.isSome && !isSeqSlot fo) || (ro.isSome && !isSeqSlot ro)) := by
  unfold fillsNumberSlot
  simp [h1, h2]
/-- what a built-in kind says of an operator -/
def OpK (nm T : String) (r : Bool) : Prop := fillsNumberSlot (.type T) nm = pure r ∧ ∃ ro, typeLookup (.type T) (dunderR nm) = pure ro
theorem opK_of {T nm : String} {fo ro : Option Value} {r : Bool} (h1 : typeLookup (.type T) (PySem.dunder nm) = pure fo) (h2 : typeLookup (.type T) (dunderR nm) = pure ro) (e : ((fo.isSome && !isSeqSlot fo) || (ro.isSome && !isSeqSlot ro)) = r) : OpK nm T r :=
  ⟨by rw [← e]; exact fills_of h1 h2, ro, h2⟩
theorem mul_none : OpK "mul" "NoneType" false := opK_of (fo := none) (ro := none) (by rw [typeLookup_type, builtinLookup_eq_fast]; kernel_rfl) (by rw [typeLookup_type, builtinLookup_eq_fast]; kernel_rfl) (by decide +kernel)
theorem mul_bool : OpK "mul" "bool" true := opK_of (fo := (some (.builtin "int.__mul__"))) (ro := (some (.builtin "int.__rmul__"))) (by rw [typeLookup_type, builtinLookup_eq_fast]; kernel_rfl) (by rw [typeLookup_type, builtinLookup_eq_fast]; kernel_rfl) (by decide +kernel)
theorem mul_int : OpK "mul" "int" true := opK_of (fo := (some (.builtin "int.__mul__"))) (ro := (some (.builtin "int.__rmul__"))) (by rw [typeLookup_type, builtinLookup_eq_fast]; kernel_rfl) (by rw [typeLookup_type, builtinLookup_eq_fast]; kernel_rfl) (by decide +kernel)
theorem mul_str : OpK "mul" "str" false := opK_of (fo := (some (.builtin "str.__mul__"))) (ro := (some (.builtin "str.__rmul__"))) (by rw [typeLookup_type, builtinLookup_eq_fast]; kernel_rfl) (by rw [typeLookup_type, builtinLookup_eq_fast]; kernel_rfl) (by decide +kernel)
theorem mul_list : OpK "mul" "list" false := opK_of (fo := (some (.builtin "list.__mul__"))) (ro := (some (.builtin "list.__rmul__"))) (by rw [typeLookup_type, builtinLookup_eq_fast]; kernel_rfl) (by rw [typeLookup_type, builtinLookup_eq_fast]; kernel_rfl) (by decide +kernel)
theorem mul_tuple : OpK "mul" "tuple" false := opK_of (fo := (some (.builtin "tuple.__mul__"))) (ro := (some (.builtin "tuple.__rmul__"))) (by rw [typeLookup_type, builtinLookup_eq_fast]; kernel_rfl) (by rw [typeLookup_type, builtinLookup_eq_fast]; kernel_rfl) (by decide +kernel)
theorem mul_dict : OpK "mul" "dict" false := opK_of (fo := none) (ro := none) (by rw [typeLookup_type, builtinLookup_eq_fast]; kernel_rfl) (by rw [typeLookup_type, builtinLookup_eq_fast]; kernel_rfl) (by decide +kernel)
theorem fdv_none : OpK "floordiv" "NoneType" false := opK_of (fo := none) (ro := none) (by rw [typeLookup_type, builtinLookup_eq_fast]; kernel_rfl) (by rw [typeLookup_type, builtinLookup_eq_fast]; kernel_rfl) (by decide +kernel)
theorem fdv_bool : OpK "floordiv" "bool" true := opK_of (fo := (some (.builtin "int.__floordiv__"))) (ro := (some (.builtin "int.__rfloordiv__"))) (by rw [typeLookup_type, builtinLookup_eq_fast]; kernel_rfl) (by rw [typeLookup_type, builtinLookup_eq_fast]; kernel_rfl) (by decide +kernel)
theorem fdv_int : OpK "floordiv" "int" true := opK_of (fo := (some (.builtin "int.__floordiv__"))) (ro := (some (.builtin "int.__rfloordiv__"))) (by rw [typeLookup_type, builtinLookup_eq_fast]; kernel_rfl) (by rw [typeLookup_type, builtinLookup_eq_fast]; kernel_rfl) (by decide +kernel)
theorem fdv_str : OpK "floordiv" "str" false := opK_of (fo := none) (ro := none) (by rw [typeLookup_type, builtinLookup_eq_fast]; kernel_rfl) (by rw [typeLookup_type, builtinLookup_eq_fast]; kernel_rfl) (by decide +kernel)
theorem fdv_list : OpK "floordiv" "list" false := opK_of (fo := none) (ro := none) (by rw [typeLookup_type, builtinLookup_eq_fast]; kernel_rfl) (by rw [typeLookup_type, builtinLookup_eq_fast]; kernel_rfl) (by decide +kernel)
theorem fdv_tuple : OpK "floordiv" "tuple" false := opK_of (fo := none) (ro := none) (by rw [typeLookup_type, builtinLookup_eq_fast]; kernel_rfl) (by rw [typeLookup_type, builtinLookup_eq_fast]; kernel_rfl) (by decide +kernel)
theorem fdv_dict : OpK "floordiv" "dict" false := opK_of (fo := none) (ro := none) (by rw [typeLookup_type, builtinLookup_eq_fast]; kernel_rfl) (by rw [typeLookup_type, builtinLookup_eq_fast]; kernel_rfl) (by decide +kernel)
theorem opK_mul {T : String} (h : Kd T) : ∃ r, OpK "mul" T r := by
  cases h
  · exact ⟨_, mul_none⟩
  · exact ⟨_, mul_bool⟩
  · exact ⟨_, mul_int⟩
  · exact ⟨_, mul_str⟩
  · exact ⟨_, mul_list⟩
  · exact ⟨_, mul_tuple⟩
  · exact ⟨_, mul_dict⟩
theorem opK_fdv {T : String} (h : Kd T) : ∃ r, OpK "floordiv" T r := by
  cases h
  · exact ⟨_, fdv_none⟩
  · exact ⟨_, fdv_bool⟩
  · exact ⟨_, fdv_int⟩
  · exact ⟨_, fdv_str⟩
  · exact ⟨_, fdv_list⟩
  · exact ⟨_, fdv_tuple⟩
  · exact ⟨_, fdv_dict⟩
theorem int_mul_inst (a : Int) (t : Tok) (x : Addr) : Meets (Builtin.«int.__mul__» ⟨[.int a t, .ref x], []⟩) (fun _ R s => (∃ C dx, s.heap.get? x = some (PySem.W.instObj C dx)) ∧ R (.ok (.ret Value.notImplemented)) s) :=
  .of_wp fun prog w A R s h => by obtain ⟨hp, g, d, tk, os⟩ := s; obtain ⟨⟨C, dx, hl⟩, h⟩ := h; unfold PySem.W.instObj at hl; wp_walk; exact ⟨_, rfl, h⟩
theorem bool_mul_inst (a : Bool) (x : Addr) : Meets (Builtin.«int.__mul__» ⟨[.bool a, .ref x], []⟩) (fun _ R s => (∃ C dx, s.heap.get? x = some (PySem.W.instObj C dx)) ∧ R (.ok (.ret Value.notImplemented)) s) :=
  .of_wp fun prog w A R s h => by obtain ⟨hp, g, d, tk, os⟩ := s; obtain ⟨⟨C, dx, hl⟩, h⟩ := h; unfold PySem.W.instObj at hl; wp_walk; exact ⟨_, rfl, h⟩
theorem relV_back {v : V} {u : Value} {Q : Value → Shared → Prop} {s : Shared} (r : RelV v u) (q : Q u s) : PySem.W.CmpBack Q u s := by
  cases u <;> first | exact q | (cases v <;> first | (obtain ⟨_, e⟩ := r; exact nomatch e) | exact nomatch r)
theorem dec_int {prog : Program} {w : World} {A : Around} {E : Value → Shared → Prop} {s : Shared} {i : Int} {t : Tok} {p : Addr} (hget : ∃ C' dx', s.heap.get? p = some (PySem.W.instObj C' dx')) (Q' : Option Value → Shared → Prop) (q' : Q' none s) :
    wpAny (model prog w) A (tryMethod (.int i t) (PySem.dunder "mul") (.ref p)) Q' E s := by
  have e1 := F.entry_int_mul
  have e2 := F.args_int_mul_2 (.int i t) (.ref p)
  have e3 := int_mul_inst i t p
  have e4 : s.TypeIs (.int i t) "int" := typeIs_int s i t
  have e5 := F.slot_int_mul
  have e6 : wpAny (model prog w) A (call (.builtin "int.__mul__") [.int i t, .ref p]) (fun v s' => v = .notImplemented ∧ Q' none s') E s := call_meets e5 e4 e1 e2 e3 ⟨hget, rfl, q'⟩
  exact @wpAny_tryMethod_declines (model prog w) A E s (.int i t) (.ref p) "int" (PySem.dunder "mul") "int.__mul__" Q' e4 e5 e6
theorem dec_bool {prog : Program} {w : World} {A : Around} {E : Value → Shared → Prop} {s : Shared} {i : Bool} {p : Addr} (hget : ∃ C' dx', s.heap.get? p = some (PySem.W.instObj C' dx')) (Q' : Option Value → Shared → Prop) (q' : Q' none s) :
    wpAny (model prog w) A (tryMethod (.bool i) (PySem.dunder "mul") (.ref p)) Q' E s := by
  have e1 := F.entry_int_mul
  have e2 := F.args_int_mul_2 (.bool i) (.ref p)
  have e3 := bool_mul_inst i p
  have e4 : s.TypeIs (.bool i) "bool" := PySem.typeIs_bool s i
  have e5 := F.slot_bool_mul
  have e6 : wpAny (model prog w) A (call (.builtin "int.__mul__") [.bool i, .ref p]) (fun v s' => v = .notImplemented ∧ Q' none s') E s := call_meets e5 e4 e1 e2 e3 ⟨hget, rfl, q'⟩
  exact @wpAny_tryMethod_declines (model prog w) A E s (.bool i) (.ref p) "bool" (PySem.dunder "mul") "int.__mul__" Q' e4 e5 e6
theorem Pl.of_bl {K : PySem.W.Frag} {H : Hp} {x : V} {T : String} (h : Pl K H x T) (e : T = "bool") : ∃ z, x = .bl z := by
  have key : ∀ t, TyX K H x t → t = .type "bool" → ∃ z, x = .bl z := fun t h e => by
    cases h with
    | base b =>
      cases b with
      | bl z => exact ⟨z, rfl⟩
      | ins _ _ _ _ _ _ => cases e
      | _ => exact ty_ne e (by decide)
    | _ => exact ty_ne e (by decide)
  exact key _ h.1 (by rw [e])
/-! ### o * y, o // y by an own operator that may raise; y * o by the reflected one -/
section
variable {X : Cx} {CX : CXT} {k : Nat} {C g f : Addr} {fd : FuncData} {ps : List Str} {sp : Sp} {E : L2.St → XK} {pos : Pos} {a b : Expr} {ta tb : TE} {op : Operator}
/-- what the class says of the operator -/
structure OwnOp (K : PySem.W.Frag) (C : Addr) (op : Operator) (f : Addr) : Prop where
  sf : PySem.W.selfFirst K C = true
  at_ : PySem.W.findIn K (.ref C) (PySem.dunder op.info.2) = some (some (.ref f))
  fn : PySem.W.isFn K (.ref f) = true
  rc : ∃ rc, PySem.W.findIn K (.ref C) (dunderR op.info.2) = some rc ∧ (rc = none ∨ ∃ g : Addr, rc = some (.ref g))
def tOwnL (K : PySem.W.Frag) (C : Addr) (sp : Sp) (E : L2.St → XK) (ta tb : TE) : TE := fun σ H Q => ta σ H fun x H1 => tb σ H1 fun y H2 => ∃ p dx fs T, x = V.ref p ∧ H2 p = some (.ins C dx fs) ∧ Pl K H2 y T ∧ sp [x, y] H2 Q (E σ)
theorem pe_ownL (kinds : ∀ T, Kd T → ∃ r, OpK op.info.2 T r) (O : OwnOp X.K C op f) (F : FnOk X.prog X.w X.K X.mg X.base CX k f fd ps sp) (hr : Room k X.A) (hb : Binds X.K fd ps []) (hx : ∀ σ, PassesAt CX X σ (E σ)) (ha : PE X a ta) (hbb : PE X b tb) :
    PE X (.BinOp a op b pos) (tOwnL X.K C sp E ta tb) := by
  refine ⟨fun pins s σ H Q I h => ?_⟩
  refine wpAny_BinOp (binT ha hbb I h fun v u s2 x y H2 I2 rx ry q => ?_)
  obtain ⟨p, dx, fs, T, rfl, hp, ty, hs⟩ := q
  obtain rfl : v = Value.ref p := rx
  obtain ⟨mA, J, _⟩ := ins_get I2.hok hp
  obtain ⟨od, J, _⟩ := J.look
  obtain ⟨P, Z, pz, _⟩ := kit_of I2 ry ty.1
  obtain ⟨r, fl, ro, lk⟩ := kinds T ty.2
  obtain ⟨rc, h1, h2⟩ := O.rc
  refine PySem.W.own_left I2.kIn J (Z.ty _ _ I2.kIn pz) O.sf O.at_ O.fn h1 h2 fl lk (sub_no ty.2) ?_
  refine wpAny_mono (run_fnSD (us := [.ref p, u]) (vs := [.ref p, y]) (dvs := []) F hr hb .nil (hx σ) I2 (.cons rfl (.cons ry .nil)) hs) (fun v s' z => ?_) fun _ _ e => e
  obtain ⟨y', H', I', r', q'⟩ := z
  exact relV_back r' ⟨y', H', I', r', q'⟩
structure OwnR (K : PySem.W.Frag) (C : Addr) (op : Operator) (g f : Addr) : Prop where
  sf : PySem.W.selfFirst K C = true
  at_ : PySem.W.findIn K (.ref C) (PySem.dunder op.info.2) = some (some (.ref g))
  rc : PySem.W.findIn K (.ref C) (dunderR op.info.2) = some (some (.ref f))
  fn : PySem.W.isFn K (.ref f) = true
  s1 : PySem.W.subIn K (.ref C) (.type "int") = some false
  s2 : PySem.W.subIn K (.ref C) (.type "bool") = some false
def tOwnR (K : PySem.W.Frag) (C : Addr) (sp : Sp) (E : L2.St → XK) (ta tb : TE) : TE := fun σ H Q => ta σ H fun y H1 => tb σ H1 fun x H2 => ∃ p dx fs T, x = V.ref p ∧ H2 p = some (.ins C dx fs) ∧ Pl K H2 y T ∧ sp [x, y] H2 Q (E σ)
theorem pe_ownR (O : OwnR X.K C .Mult g f) (F : FnOk X.prog X.w X.K X.mg X.base CX k f fd ps sp) (hr : Room k X.A) (hb : Binds X.K fd ps []) (hx : ∀ σ, PassesAt CX X σ (E σ)) (ha : PE X a ta) (hbb : PE X b tb) :
    PE X (.BinOp a .Mult b pos) (tOwnR X.K C sp E ta tb) := by
  refine ⟨fun pins s σ H Q I h => ?_⟩
  refine wpAny_BinOp (binT ha hbb I h fun u v s2 y x H2 I2 ry rx q => ?_)
  obtain ⟨p, dx, fs, T, rfl, hp, ty, hs⟩ := q
  obtain rfl : v = Value.ref p := rx
  obtain ⟨mA, J, _⟩ := ins_get I2.hok hp
  obtain ⟨od, J, _⟩ := J.look
  obtain ⟨P, Z, pz, _⟩ := kit_of I2 ry ty.1
  have hget : ∃ C' dx', s2.heap.get? p = some (PySem.W.instObj C' dx') := by
    obtain ⟨_, _, _, z, _⟩ := I2.hok p _ hp
    exact ⟨_, _, z⟩
  have run : wpAny (model X.prog X.w) X.A (call (.ref f) [.ref p, u]) (PySem.W.CmpBack (EP X pins σ Q)) X.xe s2 := by
    refine wpAny_mono (run_fnSD (us := [.ref p, u]) (vs := [.ref p, y]) (dvs := []) F hr hb .nil (hx σ) I2 (.cons rfl (.cons ry .nil)) hs) (fun v s' z => ?_) fun _ _ e => e
    obtain ⟨y', H', I', r', q'⟩ := z
    exact relV_back r' ⟨y', H', I', r', q'⟩
  have T0 := Z.ty (model X.prog X.w) _ I2.kIn pz
  have low : ∀ {T : String}, OpK "mul" T false → PySem.W.Looks (model X.prog X.w) s2.heap (typeOf u) (.type T) → wpAny (model X.prog X.w) X.A (binaryOp .Mult u (.ref p)) (EP X pins σ Q) X.xe s2 := fun k t =>
    PySem.W.own_right (op := .Mult) I2.kIn J t O.sf O.at_ O.rc O.fn k.1 run
  obtain ⟨tx, kd⟩ := ty
  have hty : TyX X.K H2 y (.type T) := tx
  cases kd with
  | non => exact low mul_none T0
  | str => exact low mul_str T0
  | lst => exact low mul_list T0
  | tup => exact low mul_tuple T0
  | dct => exact low mul_dict T0
  | int =>
    obtain ⟨i, rfl⟩ := Pl.of_int ⟨tx, .int⟩ rfl
    obtain ⟨t, rfl⟩ := ry
    exact PySem.W.own_right2 (op := .Mult) I2.kIn J T0 O.sf O.at_ O.rc O.fn mul_int.1 O.s1 (dec_int hget) run
  | bl =>
    obtain ⟨i, rfl⟩ := Pl.of_bl ⟨tx, .bl⟩ rfl
    obtain rfl : u = Value.bool i := ry
    exact PySem.W.own_right2 (op := .Mult) I2.kIn J T0 O.sf O.at_ O.rc O.fn mul_bool.1 O.s2 (dec_bool hget) run
end
end Bt
namespace PySem.W
open Lean Elab Tactic Meta PySem PySem.Calls PyProof.Rows
/-! ### an own operator, both operands of one class -/
section
variable {prog : Program} {w : World} {A : Around} {E : Value → Shared → Prop} {s : Shared} {K : Frag} {x y C f : Addr} {ox oy : Obj} {od od2 : Option Obj} {op : Operator}
theorem own_same {Q : Value → Shared → Prop} (KX : K.In s.heap) (I : InstAt s.heap x ox C od) (J : InstAt s.heap y oy C od2) (hc : selfFirst K C = true)
    (hs : findIn K (.ref C) (PySem.dunder op.info.2) = some (some (.ref f))) (hf : isFn K (.ref f) = true)
    (h : wpAny (model prog w) A (call (.ref f) [.ref x, .ref y]) (CmpBack Q) E s) : wpAny (model prog w) A (binaryOp op (.ref x) (.ref y)) Q E s := by
  obtain ⟨cd, rest, hcd, hm⟩ := ksp_first hc
  rcases hi : op.info with ⟨sym, nm'⟩
  rw [hi] at hs
  dsimp only at hs
  have one := ksp_try KX I hs hf h
  obtain ⟨hh, g, d, tt, os⟩ := s
  have L1 : Looks (model prog w) hh (typeOf (.ref x)) (.ref C) := I.type
  have L2 : Looks (model prog w) hh (typeOf (.ref y)) (.ref C) := J.type
  have L3 : Looks (model prog w) hh (fillsNumberSlot (.ref C) nm') true := fills_K KX hcd hm hs
  have ee : (Value.ref C == Value.ref C) = true := beq_iff_eq.mpr rfl
  simp only [binaryOp, hi]
  refine wpAny_holding (wpAny_bind ?_)
  unfold binaryOp1
  refine wpAny_bind (L1.at (wpAny_bind (L2.at (wpAny_bind (L3.at ?_)))))
  simp only [ee, if_true]
  ksp_lk
  refine wpAny_mono one (fun r s' hr' => ?_) fun _ _ e => e
  obtain ⟨v, rfl, hq⟩ := hr'
  ksp_lk
  exact hq
end
end PySem.W
namespace Bt
open PySem PySem.Spec PyProof.Rows L2
section
variable {X : Cx} {CX : CXT} {k : Nat} {C f : Addr} {fd : FuncData} {ps : List Str} {sp : Sp} {E : L2.St → XK} {pos : Pos} {a b : Expr} {ta tb : TE} {op : Operator}
/-- o & p, o | p, .. -/
def tOwnS (C : Addr) (sp : Sp) (E : L2.St → XK) (ta tb : TE) : TE := fun σ H Q => ta σ H fun x H1 => tb σ H1 fun y H2 => ∃ p q dx dy fs gs, x = V.ref p ∧ y = V.ref q ∧ H2 p = some (.ins C dx fs) ∧ H2 q = some (.ins C dy gs) ∧ sp [x, y] H2 Q (E σ)
theorem pe_ownS (hc : PySem.W.selfFirst X.K C = true) (hs : PySem.W.findIn X.K (.ref C) (PySem.dunder op.info.2) = some (some (.ref f))) (hf : PySem.W.isFn X.K (.ref f) = true) (F : FnOk X.prog X.w X.K X.mg X.base CX k f fd ps sp) (hr : Room k X.A) (hb : Binds X.K fd ps []) (hx : ∀ σ, PassesAt CX X σ (E σ)) (ha : PE X a ta) (hbb : PE X b tb) :
    PE X (.BinOp a op b pos) (tOwnS C sp E ta tb) := by
  refine ⟨fun pins s σ H Q I h => ?_⟩
  refine wpAny_BinOp (binT ha hbb I h fun v u s2 x y H2 I2 rx ry q => ?_)
  obtain ⟨p, q', dx, dy, fs, gs, rfl, rfl, hp, hq, hsp⟩ := q
  obtain rfl : v = Value.ref p := rx
  obtain rfl : u = Value.ref q' := ry
  obtain ⟨mA, J, _⟩ := ins_get I2.hok hp
  obtain ⟨od, J, _⟩ := J.look
  obtain ⟨mB, J2, _⟩ := ins_get I2.hok hq
  obtain ⟨od2, J2, _⟩ := J2.look
  refine PySem.W.own_same I2.kIn J J2 hc hs hf ?_
  refine wpAny_mono (run_fnSD (us := [.ref p, .ref q']) (vs := [.ref p, .ref q']) (dvs := []) F hr hb .nil (hx σ) I2 (.cons rfl (.cons rfl .nil)) hsp) (fun v s' z => ?_) fun _ _ e => e
  obtain ⟨y', H', I', r', q'⟩ := z
  exact relV_back r' ⟨y', H', I', r', q'⟩
theorem s_ownS {σ : L2.St} {H : Hp} {Q : VK} (h : ta σ H fun x H1 => tb σ H1 fun y H2 => ∃ p q dx dy fs gs, x = V.ref p ∧ y = V.ref q ∧ H2 p = some (.ins C dx fs) ∧ H2 q = some (.ins C dy gs) ∧ sp [x, y] H2 Q (E σ)) : tOwnS C sp E ta tb σ H Q := h
end
end Bt
namespace PySem.W
open Lean Elab Tactic Meta PySem PySem.Calls PyProof.Rows
open MeetsSeq
/-! ### a text == an instance of an own class with __eq__: the right one answers -/
theorem str_declines_inst (b : Str) (u : Tok) (l : Addr) (c : Value) (dd : Option Addr) (sl : Array (Option Value)) :
    Meets (Builtin.«str.__eq__» ⟨[.str b u, .ref l], []⟩) (fun _ R s => s.heap.get? l = some { cls := c, dict := dd, data := .plain, slots := sl } ∧ R (.ok (.ret .notImplemented)) s) :=
  .of_wp fun prog w A R s h => by obtain ⟨hp, g, d, tk, os⟩ := s; obtain ⟨hl, h⟩ := h; wp_walk using wpAny_loadPart' hl, wpAny_load hl; exact ⟨_, rfl, h⟩
section
variable {prog : Program} {w : World} {A : Around} {E : Value → Shared → Prop} {s : Shared} {K : Frag} {x C f : Addr} {od : Option Obj} {dd : Option Addr} {sl : Array (Option Value)} {z : Str} {t : Tok}
theorem rc_str_inst {Q : Value → Shared → Prop} (hu : A.units < cLine) (KX : K.In s.heap) (I : InstAt s.heap x { cls := .ref C, dict := dd, data := .plain, slots := sl } C od) (hx : s.heap.get? x = some { cls := .ref C, dict := dd, data := .plain, slots := sl }) (hb : subIn K (.ref C) (.type "str") = some false)
    (hs : findIn K (.ref C) "__eq__" = some (some (.ref f))) (hf : isFn K (.ref f) = true)
    (h : wpAny (model prog w) A (call (.ref f) [.ref x, .str z t]) (CmpBack Q) E s) : wpAny (model prog w) A (richCompare .Eq (.str z t) (.ref x)) Q E s := by
  have one : wpAny (model prog w) A (tryCompare (.ref x) (cmpInfo CmpOp.Eq).2.2 (.str z t)) (fun r s' => ∃ v, r = some v ∧ Q v s') E s := by
    unfold tryCompare
    refine wpAny_bind (ifBound_K KX I hs hf (wpAny_mono h (fun v s' hv => ?_) fun _ _ e => e))
    cases v <;> first | exact hv.elim | exact wpAny_pure ⟨_, rfl, hv⟩
  have ha := typeIs_str s z t
  have h1 : Slot "str" (cmpInfo CmpOp.Eq).2.1 "str.__eq__" := F.slot_str_eq
  rcases hi : cmpInfo CmpOp.Eq with ⟨sym, f', r'⟩
  rw [hi] at h1 one
  simp only [richCompare, hi, ha.oneThing_none]
  refine wpAny_holding (wpAny_bind (wpAny_cRoomFor hu ?_))
  refine wpAny_bind (wpAny_typeOf ha (wpAny_bind (I.type.here ?_)))
  have hne : (Value.type "str" != Value.ref C) = true := rfl
  simp only [hne, if_true]
  refine wpAny_bind ((looks_subIn KX hb).here ?_)
  simp only [Bool.false_eq_true, if_false, Bool.not_false, if_true]
  refine wpAny_bind (m := tryCompare _ _ _) (wpAny_tryCompare_declines ha h1 (call_meets F.slot_str_eq ha F.entry_str_eq (F.args_str_eq_2 _ _) (str_declines_inst z t x _ dd sl) ⟨hx, rfl, ?_⟩))
  refine wpAny_bind (wpAny_mono one (fun r s' q => ?_) fun _ _ e => e)
  obtain ⟨v, rfl, hq⟩ := q
  exact wpAny_pure hq
end
end PySem.W
namespace GQ2
open PySem PySem.SeqAt
open AutoSeq1 (wpAny_loadPart')
open MeetsSeq MeetsSeq2 MeetsSeq3 SeqRoads2
section
variable {prog : Program} {w : World} {A : Around} {E : Value → Shared → Prop} {R : Result → Shared → Prop}
theorem tuple_noG (l : Addr) (x : Value) (items : Array Value) (n : Nat) (dd : Option Addr) (sl : Array (Option Value)) (I : Nat → Shared → Prop)
    (turn : ∀ i (h1 : i < items.size) s, I i s → wpAny (model prog w) A.in1 (eqBool items[i] x) (fun r s' => r = false ∧ I (i + 1) s') (fun e s' => R (.error e) s') s)
    (fin : ∀ s, I items.size s → R (.ok (.ret (.bool false))) s) {s : Shared} (hl1 : s.heap.get? l = some { cls := .type "tuple", dict := dd, data := .seq items n, slots := sl }) (h : I 0 s) :
    wpAny (model prog w) A.in1 (Builtin.«tuple.__contains__» ⟨[.ref l, x], []⟩) (GQ.FinOf prog w A R) (fun e s' => R (.error e) s') s := by
  have h0 := h
  obtain ⟨hp, g, d, tk, os⟩ := s
  wp_walk using wpAny_loadPart' hl1, wpAny_forIn_array _ (fun rest b s' => b.1 = none ∧ ∃ i, rest = items.toList.drop i ∧ i ≤ items.size ∧ I i s') _
  case turn =>
    rintro y rest b s' ⟨hb', i, hz, hi, hI⟩
    have hlt : i < items.toList.length := by
      rcases Nat.lt_or_ge i items.toList.length with h' | h'
      · exact h'
      · rw [List.drop_of_length_le h'] at hz; cases hz
    have h1 : i < items.size := by simpa using hlt
    rw [List.drop_eq_getElem_cons hlt] at hz
    injection hz with hyx hrest
    have hy : y = items[i] := by simpa using hyx
    subst hy
    refine wpAny_bind (wpAny_mono (turn i h1 s' hI) (fun r s2 q2 => ?_) fun _ _ x => x)
    obtain ⟨hr, q2⟩ := q2
    subst hr
    wp_walk
    exact ⟨rfl, i + 1, hrest, h1, q2⟩
  case fin =>
    rintro ⟨b1, b2⟩ s' ⟨hb', i, hz, hi, hI⟩
    simp only at hb'
    subst hb'
    have hge : items.size ≤ i := by
      rcases Nat.lt_or_ge i items.toList.length with h' | h'
      · rw [List.drop_eq_getElem_cons h'] at hz; cases hz
      · simpa using h'
    have hi' : i = items.size := by omega
    have hR : R (.ok (.ret (.bool false))) s' := fin s' (hi' ▸ hI)
    wp_walk
    simpa using hR
  case h =>
    exact ⟨rfl, 0, rfl, Nat.zero_le _, h0⟩
end
end GQ2
namespace GQ2
open PySem PySem.SeqAt
open AutoSeq1 (wpAny_loadPart')
open MeetsSeq MeetsSeq2 MeetsSeq3 SeqRoads2
section
variable {prog : Program} {w : World} {A : Around} {E : Value → Shared → Prop} {s : Shared}
/-- x in t, t a tuple none of whose items is equal to x; what is made meanwhile is in I -/
theorem in_noG {l : Addr} {x : Value} {items : Array Value} {Q : Value → Shared → Prop} (I : Nat → Shared → Prop) (hl : s.heap.IsTuple l items)
    (turn : ∀ i (h1 : i < items.size) s, I i s → wpAny (model prog w) A.in1 (eqBool items[i] x) (fun r s' => r = false ∧ I (i + 1) s') E s)
    (fin : ∀ s, I items.size s → Q (.bool false) s) (h : I 0 s) : wpAny (model prog w) A (compareOp .In x (.ref l)) Q E s := by
  obtain ⟨⟨cls, dd, data, sl⟩, ho, hc, n, hd⟩ := id hl
  simp only at hc hd
  subst hc hd
  show wpAny _ A (do return .bool (← contains (.ref l) x)) Q E s
  refine wpAny_bind (wpAny_contains_slot ⟨_, ho, rfl⟩ F.slot_tuple_contains (wpAny_mono (GQ.call_here (Q := fun v s' => v = .bool false ∧ Q (.bool false) s') F.slot_tuple_contains ⟨_, ho, rfl⟩ F.entry_tuple_contains (F.args_tuple_contains_2 _ _) ?_) (fun v s' hv => ?_) fun _ _ e => e))
  · exact tuple_noG (R := wants (fun v s' => v = .bool false ∧ Q (.bool false) s') E) l x items n dd sl I turn (fun s' q => ⟨rfl, fin s' q⟩) ho h
  · obtain ⟨rfl, hq⟩ := hv
    exact wpAny_truthy_bool (wpAny_pure hq)
theorem eqBool_strG {z : Str} {t : Tok} {b : Addr} {Q : Bool → Shared → Prop} (h : wpAny (model prog w) A (richCompare .Eq (.str z t) (.ref b)) (fun v s' => ∃ r, v = .bool r ∧ Q r s') E s) : wpAny (model prog w) A (eqBool (.str z t) (.ref b)) Q E s := by
  unfold eqBool
  refine wpAny_holding ?_
  refine wpAny_ite_split (fun hab => absurd (eq_of_beq hab) nofun) (fun _ => ?_)
  refine wpAny_bind (wpAny_mono h (fun v s' hv => ?_) fun _ _ x => x)
  obtain ⟨r, rfl, q⟩ := hv
  exact wpAny_truthy_bool q
end
end GQ2
namespace Bt
open PySem PySem.Spec PyProof.Rows L2
section
variable {X : Cx} {CX : CXT} {n : Nat} {C f : Addr} {fd : FuncData} {ps : List Str} {sp : Sp} {E : XK}
theorem strs_at : ∀ {zs : List Str} {us : List Value}, Vals (zs.map V.str) us → ∀ {i : Nat} {u : Value}, us[i]? = some u → ∃ z, z ∈ zs ∧ ∃ t, u = Value.str z t
  | [], _, r, i, u, e => by cases r; simp at e
  | z :: zs, _, r, i, u, e => by
    cases r with
    | cons h r =>
      cases i with
      | zero =>
        cases Option.some.inj e
        obtain ⟨t, rfl⟩ := h
        exact ⟨z, List.mem_cons_self, t, rfl⟩
      | succ i =>
        obtain ⟨y, my, t, e2⟩ := strs_at r (i := i) (by simpa using e)
        exact ⟨y, List.mem_cons_of_mem _ my, t, e2⟩
/-- a text == an instance of C: its own == is asked, and says no -/
theorem eq_txt_inst {A : Around} {pins : List (Addr × Obj)} {s : Shared} {σ : L2.St} {H : Hp} {c : Addr} {z : Str} {t : Tok} {G : Hp → Prop} (F : FnOk X.prog X.w X.K X.mg X.base CX n f fd ps sp) (hs : PySem.W.findIn X.K (.ref C) "__eq__" = some (some (.ref f))) (hf : PySem.W.isFn X.K (.ref f) = true) (hb : Binds X.K fd ps []) (hx : Passes CX X E)
    (hsub : PySem.W.subIn X.K (.ref C) (.type "str") = some false) (sb : Sub X n A) (I : Inv X pins σ H s) (hc : ∃ dx fs, H c = some (.ins C dx fs)) (hsp : sp [.ref c, .str z] H (fun v H' => v = .bl false ∧ G H') E) :
    wpAny (model X.prog X.w) A (eqBool (.str z t) (.ref c)) (fun r s' => r = false ∧ ∃ H', Inv X pins σ H' s' ∧ G H') X.xe s := by
  obtain ⟨ox, od, J, hd⟩ := StX.insC_at I (.inr hc)
  obtain ⟨cls, dd, data, sl⟩ := ox
  have e1 := J.cls
  simp only at e1 hd
  subst e1 hd
  refine GQ2.eqBool_strG (PySem.W.rc_str_inst (dd := dd) (sl := sl) sb.room.units0 I.kIn J J.at_ hsub hs hf ?_)
  have e0 : Env0 X.prog X.w X.K X.mg X.base A X.stack s H := by
    have e := I.env0
    exact ⟨by rw [sb.fr]; exact e.frames, e.mod, e.bs, e.bsz, e.funs, e.frf, e.hok, e.bare⟩
  have hl := F.len _ _ _ _ hsp
  have r2 : Vals [V.ref c, V.str z] [Value.ref c, Value.str z t] := .cons rfl (.cons ⟨t, rfl⟩ .nil)
  refine wpAny_call (codeAny_mono (F.run A X.stack s H ⟨[.ref c, .str z t], []⟩ [.ref c, .str z t] [.ref c, .str z] _ E sb.room e0 (by
    have := hb s [.ref c, .str z t] I.kIn (by simpa using hl)
    simpa using this) r2 hsp) fun r s' hq => ?_)
  cases r with
  | error e => exact hx pins σ H s e s' I hq
  | ok fl =>
    cases fl with
    | ret w =>
      obtain ⟨y, H', I', ry, ey, g⟩ := I.after hq
      subst ey
      cases ry
      exact ⟨false, rfl, rfl, H', I', g⟩
    | next => exact False.elim hq
    | brk => exact False.elim hq
    | cont => exact False.elim hq
/-- x in (a, b), x an instance of C -/
def rInIns (K : PySem.W.Frag) (C : Addr) (sp : Sp) (E : XK) : R2 := fun x y H Q => ∃ (c p : Addr) (zs : List Str), x = .ref c ∧ y = .ref p ∧ SqT K H p (zs.map V.str) ∧ (∃ dx fs, H c = some (.ins C dx fs)) ∧
  (∀ z ∈ zs, ∀ H', Same H H' → sp [.ref c, .str z] H' (fun v H2 => v = .bl false ∧ Same H' H2) E) ∧ ∀ H', Same H H' → Q (.bl false) H'
theorem op_inIns (F : FnOk X.prog X.w X.K X.mg X.base CX n f fd ps sp) (hs : PySem.W.findIn X.K (.ref C) "__eq__" = some (some (.ref f))) (hf : PySem.W.isFn X.K (.ref f) = true) (hb : Binds X.K fd ps []) (hx : Passes CX X E)
    (hsub : PySem.W.subIn X.K (.ref C) (.type "str") = some false) (hr : Room (n + 1) X.A) : OpR X (compareOp .In) (rInIns X.K C sp E) := by
  intro pins s σ H x y v u Q I rx ry h
  obtain ⟨c, p, zs, rfl, rfl, ht, ⟨dx, fs, hc⟩, hsp, q⟩ := h
  cases rx
  cases ry
  obtain ⟨its, rv, pl, hz⟩ := I.tuple ht
  have sb : Sub X (n + 1) X.A := ⟨hr, rfl⟩
  have item : ∀ (i : Nat) (h1 : i < its.toArray.size), ∃ z t, z ∈ zs ∧ its.toArray[i] = Value.str z t := fun i h1 => by
    have h2 : i < its.length := by simpa using h1
    have hm : its[i]? = some its[i] := List.getElem?_eq_getElem h2
    obtain ⟨z, mz, t, e⟩ := strs_at rv hm
    exact ⟨z, t, mz, by simpa using e⟩
  refine GQ2.in_noG (fun _ s' => ∃ H', Inv X pins σ H' s' ∧ Same H H') pl (fun i h1 s' ⟨H', I', S'⟩ => ?_) (fun s' ⟨H', I', S'⟩ => ⟨.bl false, H', I', rfl, q H' S'⟩) ⟨H, I, Same.refl H⟩
  obtain ⟨z, t, mz, e⟩ := item i h1
  rw [e]
  refine wpAny_mono (eq_txt_inst (G := fun H2 => Same H' H2) F hs hf hb hx hsub sb.in1 I' ⟨dx, fs, S' _ _ hc⟩ (hsp z mz H' S')) (fun r s2 ⟨e, H2, I2, S2⟩ => ⟨e, H2, I2, S'.trans S2⟩) fun _ _ e => e
end
end Bt
namespace GQ2
open PySem PySem.SeqAt
open AutoSeq1 (wpAny_loadPart')
open MeetsSeq MeetsSeq2 MeetsSeq3 SeqRoads2
theorem str_declines_dict (b : Str) (u : Tok) (l : Addr) (c : Value) (dd : Option Addr) (sl : Array (Option Value)) (es : Array DictEntry) (ep : Nat) :
    Meets (Builtin.«str.__eq__» ⟨[.str b u, .ref l], []⟩) (fun _ R s => s.heap.get? l = some { cls := c, dict := dd, data := .dict es ep, slots := sl } ∧ R (.ok (.ret .notImplemented)) s) :=
  .of_wp fun prog w A R s h => by obtain ⟨hp, g, d, tk, os⟩ := s; obtain ⟨hl, h⟩ := h; wp_walk using wpAny_loadPart' hl, wpAny_load hl; exact ⟨_, rfl, h⟩
theorem dict_declines_str (l : Addr) (dd : Option Addr) (sl : Array (Option Value)) (es : Array DictEntry) (ep : Nat) (b : Str) (u : Tok) :
    Meets (Builtin.«dict.__eq__» ⟨[.ref l, .str b u], []⟩) (fun _ R s => s.heap.get? l = some { cls := .type "dict", dict := dd, data := .dict es ep, slots := sl } ∧ R (.ok (.ret .notImplemented)) s) :=
  .of_wp fun prog w A R s h => by obtain ⟨hp, g, d, tk, os⟩ := s; obtain ⟨hl, h⟩ := h; have f1 := PySem.F.sub_str_dict; wp_walk using wpAny_loadPart' hl, wpAny_load hl; exact ⟨_, rfl, h⟩
end GQ2
namespace GQ2
open PySem PySem.SeqAt
open AutoSeq1 (wpAny_loadPart')
open MeetsSeq MeetsSeq2 MeetsSeq3 SeqRoads2
section
variable {prog : Program} {w : World} {A : Around} {E : Value → Shared → Prop} {s : Shared}
theorem eq_str_dict {l : Addr} {dd : Option Addr} {sl : Array (Option Value)} {es : Array DictEntry} {ep : Nat} (b : Str) (u : Tok) (ho : s.heap.get? l = some { cls := .type "dict", dict := dd, data := .dict es ep, slots := sl }) (hu : A.units < cLine) : EqAt A s (.str b u) (.ref l) false := fun prog w E Q h => by
  unfold eqBool
  refine wpAny_holding ?_
  refine wpAny_ite_split (fun hab => absurd (eq_of_beq hab) nofun) (fun _ => ?_)
  refine wpAny_bind ?_
  refine rc_eq_decline_or (k := false) (typeIs_str s b u) ⟨_, ho, rfl⟩ (by decide) PySem.F.sub_dict_str PySem.F.slot_str_eq PySem.F.slot_dict_eq_refl
    (fun _ hq => call_meets PySem.F.slot_str_eq (typeIs_str s b u) PySem.F.entry_str_eq (PySem.F.args_str_eq_2 _ _) (str_declines_dict b u l (.type "dict") dd sl es ep) ⟨ho, hq⟩)
    (fun _ hq => call_meets PySem.F.slot_dict_eq_refl ⟨_, ho, rfl⟩ PySem.F.entry_dict_eq (PySem.F.args_dict_eq_2 _ _) (dict_declines_str l dd sl es ep b u) ⟨ho, hq⟩)
    (fun _ hq => wpAny_of_eq (rfl : isSame (.str b u) (.ref l) = pure false) hq) (.inr hu) (wpAny_truthy_bool h)
end
end GQ2
namespace Bt
open PySem PySem.Spec PyProof.Rows L2
section
variable {X : Cx}
/-- x in a tuple of texts, x a list, a tuple or a dict -/
def rInOdd (K : PySem.W.Frag) : R2 := fun x y H Q => ∃ (c p : Addr) (zs : List Str), x = .ref c ∧ y = .ref p ∧ SqT K H p (zs.map V.str) ∧ ((∃ xs, H c = some (.lst xs)) ∨ (∃ xs, H c = some (.tup xs)) ∨ ∃ kvs, H c = some (.dK kvs)) ∧ Q (.bl false) H
theorem op_inOdd (hu : X.A.units + 1 < cLine) : OpR X (compareOp .In) (rInOdd X.K) := by
  intro pins s σ H x y v u Q I rx ry h
  obtain ⟨c, p, zs, rfl, rfl, ht, kd, q⟩ := h
  cases rx
  cases ry
  obtain ⟨its, rv, pl, hz⟩ := I.tuple ht
  have item : ∀ y ∈ its.toArray, ∃ z t, y = Value.str z t := fun y my => by
    have m2 : y ∈ its := by simpa using my
    obtain ⟨i, hi⟩ := List.getElem?_of_mem m2
    obtain ⟨z, _, t, e⟩ := strs_at rv hi
    exact ⟨z, t, e⟩
  have hu1 : X.A.in1.units < cLine := by simp only [Around.in1]; omega
  refine SeqAt.in_tupleAt (fun _ => false) pl (fun y my => ?_) ⟨.bl false, H, I, by rw [show its.toArray.any (fun _ => false) = false by simp]; rfl, q⟩
  obtain ⟨z, t, rfl⟩ := item y my
  rcases kd with ⟨xs, hc⟩ | ⟨xs, hc⟩ | ⟨kvs, hc⟩
  · obtain ⟨its2, _, pl2, _⟩ := I.list (SqL.of hc)
    exact SeqAt.EqAt.str_list z t pl2.isList hu1
  · obtain ⟨its2, _, pl2, _⟩ := I.tuple (SqT.of hc)
    exact SeqAt.EqAt.str_tuple z t pl2 hu1
  · obtain ⟨_, _, vs, _, hd⟩ := dk_of I.hok hc
    obtain ⟨o, es, ep, ho, ⟨h1, h2, h3⟩, h4, _⟩ := id hd
    obtain ⟨cls, dd, data, sl⟩ := o
    simp only at h1 h2 h4
    subst h1 h2 h4
    exact GQ2.eq_str_dict z t ho hu1
end
end Bt
namespace GQ2
open PySem PySem.SeqAt
open AutoSeq1 (wpAny_loadPart')
open MeetsSeq MeetsSeq2 MeetsSeq3 SeqRoads2
section
variable {prog : Program} {w : World} {A : Around} {E : Value → Shared → Prop} {s : Shared}
/-- x not in t, t a tuple none of whose items is equal to x -/
theorem notIn_noG {l : Addr} {x : Value} {items : Array Value} {Q : Value → Shared → Prop} (I : Nat → Shared → Prop) (hl : s.heap.IsTuple l items)
    (turn : ∀ i (h1 : i < items.size) s, I i s → wpAny (model prog w) A.in1 (eqBool items[i] x) (fun r s' => r = false ∧ I (i + 1) s') E s)
    (fin : ∀ s, I items.size s → Q (.bool true) s) (h : I 0 s) : wpAny (model prog w) A (compareOp .NotIn x (.ref l)) Q E s := by
  obtain ⟨⟨cls, dd, data, sl⟩, ho, hc, n, hd⟩ := id hl
  simp only at hc hd
  subst hc hd
  show wpAny _ A (do return .bool (!(← contains (.ref l) x))) Q E s
  refine wpAny_bind (wpAny_contains_slot ⟨_, ho, rfl⟩ F.slot_tuple_contains (wpAny_mono (GQ.call_here (Q := fun v s' => v = .bool false ∧ Q (.bool true) s') F.slot_tuple_contains ⟨_, ho, rfl⟩ F.entry_tuple_contains (F.args_tuple_contains_2 _ _) ?_) (fun v s' hv => ?_) fun _ _ e => e))
  · exact tuple_noG (R := wants (fun v s' => v = .bool false ∧ Q (.bool true) s') E) l x items n dd sl I turn (fun s' q => ⟨rfl, fin s' q⟩) ho h
  · obtain ⟨rfl, hq⟩ := hv
    exact wpAny_truthy_bool (wpAny_pure hq)
end
end GQ2
namespace Bt
open PySem PySem.Spec PyProof.Rows L2
section
variable {X : Cx} {CX : CXT} {n : Nat} {C f : Addr} {fd : FuncData} {ps : List Str} {sp : Sp} {E : XK}
/-- x not in (a, b, ..), x an instance of C -/
def rNotInIns (K : PySem.W.Frag) (C : Addr) (sp : Sp) (E : XK) : R2 := fun x y H Q => ∃ (c p : Addr) (zs : List Str), x = .ref c ∧ y = .ref p ∧ SqT K H p (zs.map V.str) ∧ (∃ dx fs, H c = some (.ins C dx fs)) ∧
  (∀ z ∈ zs, ∀ H', Same H H' → sp [.ref c, .str z] H' (fun v H2 => v = .bl false ∧ Same H' H2) E) ∧ ∀ H', Same H H' → Q (.bl true) H'
theorem op_notinIns (F : FnOk X.prog X.w X.K X.mg X.base CX n f fd ps sp) (hs : PySem.W.findIn X.K (.ref C) "__eq__" = some (some (.ref f))) (hf : PySem.W.isFn X.K (.ref f) = true) (hb : Binds X.K fd ps []) (hx : Passes CX X E)
    (hsub : PySem.W.subIn X.K (.ref C) (.type "str") = some false) (hr : Room (n + 1) X.A) : OpR X (compareOp .NotIn) (rNotInIns X.K C sp E) := by
  intro pins s σ H x y v u Q I rx ry h
  obtain ⟨c, p, zs, rfl, rfl, ht, ⟨dx, fs, hc⟩, hsp, q⟩ := h
  cases rx
  cases ry
  obtain ⟨its, rv, pl, hz⟩ := I.tuple ht
  have sb : Sub X (n + 1) X.A := ⟨hr, rfl⟩
  have item : ∀ (i : Nat) (h1 : i < its.toArray.size), ∃ z t, z ∈ zs ∧ its.toArray[i] = Value.str z t := fun i h1 => by
    have h2 : i < its.length := by simpa using h1
    have hm : its[i]? = some its[i] := List.getElem?_eq_getElem h2
    obtain ⟨z, mz, t, e⟩ := strs_at rv hm
    exact ⟨z, t, mz, by simpa using e⟩
  refine GQ2.notIn_noG (fun _ s' => ∃ H', Inv X pins σ H' s' ∧ Same H H') pl (fun i h1 s' ⟨H', I', S'⟩ => ?_) (fun s' ⟨H', I', S'⟩ => ⟨.bl true, H', I', rfl, q H' S'⟩) ⟨H, I, Same.refl H⟩
  obtain ⟨z, t, mz, e⟩ := item i h1
  rw [e]
  refine wpAny_mono (eq_txt_inst (G := fun H2 => Same H' H2) F hs hf hb hx hsub sb.in1 I' ⟨dx, fs, S' _ _ hc⟩ (hsp z mz H' S')) (fun r s2 ⟨e, H2, I2, S2⟩ => ⟨e, H2, I2, S'.trans S2⟩) fun _ _ e => e
/-- x not in a tuple of texts, x a list, a tuple or a dict -/
def rNotInOdd (K : PySem.W.Frag) : R2 := fun x y H Q => ∃ (c p : Addr) (zs : List Str), x = .ref c ∧ y = .ref p ∧ SqT K H p (zs.map V.str) ∧ ((∃ xs, H c = some (.lst xs)) ∨ (∃ xs, H c = some (.tup xs)) ∨ ∃ kvs, H c = some (.dK kvs)) ∧ Q (.bl true) H
theorem op_notinOdd (hu : X.A.units + 1 < cLine) : OpR X (compareOp .NotIn) (rNotInOdd X.K) := by
  intro pins s σ H x y v u Q I rx ry h
  obtain ⟨c, p, zs, rfl, rfl, ht, kd, q⟩ := h
  cases rx
  cases ry
  obtain ⟨its, rv, pl, hz⟩ := I.tuple ht
  have item : ∀ y ∈ its.toArray, ∃ z t, y = Value.str z t := fun y my => by
    have m2 : y ∈ its := by simpa using my
    obtain ⟨i, hi⟩ := List.getElem?_of_mem m2
    obtain ⟨z, _, t, e⟩ := strs_at rv hi
    exact ⟨z, t, e⟩
  have hu1 : X.A.in1.units < cLine := by simp only [Around.in1]; omega
  refine SeqAt.notIn_tupleAt (fun _ => false) pl (fun y my => ?_) ⟨.bl true, H, I, by rw [show its.toArray.any (fun _ => false) = false by simp]; rfl, q⟩
  obtain ⟨z, t, rfl⟩ := item y my
  rcases kd with ⟨xs, hc⟩ | ⟨xs, hc⟩ | ⟨kvs, hc⟩
  · obtain ⟨its2, _, pl2, _⟩ := I.list (SqL.of hc)
    exact SeqAt.EqAt.str_list z t pl2.isList hu1
  · obtain ⟨its2, _, pl2, _⟩ := I.tuple (SqT.of hc)
    exact SeqAt.EqAt.str_tuple z t pl2 hu1
  · obtain ⟨_, _, vs, _, hd⟩ := dk_of I.hok hc
    obtain ⟨o, es, ep, ho, ⟨h1, h2, h3⟩, h4, _⟩ := id hd
    obtain ⟨cls, dd, data, sl⟩ := o
    simp only at h1 h2 h4
    subst h1 h2 h4
    exact GQ2.eq_str_dict z t ho hu1
end
end Bt
namespace Bt
open PySem PySem.Spec PyProof.Rows L2 LamX NdefX
open PySem.W (dataLt dataLe alike AllAlike Sortable)
theorem words130_ : True := by
  k_with "s_C13c" => first
    | ((with_reducible refine' s_var ?hv ?_); (case hv => exact rfl))
    | with_reducible first
      | refine' s_c ?_ | refine' s_op ?_ | refine' s_asg ?_ | refine' s_gname ?_ | refine' s_seq ?_ | refine' s_next ?_ | refine' s_ret ?_ | refine' s_ifS ?_ | refine' s_drop ?_ | refine' s_retN ?_ | refine' s_test ?_ | refine' s_B ?_ | refine' q_test ?_ | refine' s_int ?_ | refine' s_cons ?_ | refine' s_nil ?_ | refine' s_call ?_ | refine' s_CB ?_ | refine' s_andT ?_ | refine' s_orT ?_ | refine' s_notT ?_ | refine' s_andV ?_ | refine' s_orV ?_ | refine' s_notV ?_ | refine' s_ifV ?_ | refine' s_chain ?_ | refine' s_sl ?_ | refine' s_noPart ?_ | refine' s_part ?_ | refine' s_gsub ?_ | refine' s_BM ?_ | refine' s_tup ?_ | refine' s_lst ?_ | refine' q_add ?_ | refine' q_sub ?_ | refine' q_lt ?_ | refine' q_le ?_ | refine' q_gt ?_ | refine' q_ge ?_ | refine' s_ifT ?_ | refine' s_ifF ?_ | refine' s_yes ?_ | refine' s_iStr ?_ | refine' s_M0 ?_ | refine' s_for ?_ | refine' s_rng1 ?_ | refine' s_par ?_ | refine' s_gcons ?_ | refine' s_gnil ?_ | refine' s_iList ?_ | refine' s_iEnum ?_ | refine' s_raise1 ?_
      | (refine' q_mod ?hm ?_; (case hm => first | omega | decide))
    | dsimp only
  k_with "r_C13c" => repeat (k_extra "s_C13c")
  trivial
/-! ### is_place, is_change of any value -/
/-- u is no tuple, and never will be -/
def NoTup (H : Hp) (u : V) : Prop := ∀ a, u = .ref a → ∃ o, H a = some o ∧ ∀ ys, o ≠ .tup ys
theorem NoTup.mono {H H' : Hp} {u : V} (S : Same H H') (h : NoTup H u) : NoTup H' u := fun a e => let ⟨o, h1, h2⟩ := h a e; ⟨o, S _ _ h1, h2⟩
theorem NoTup.no {H : Hp} {u : V} (h : NoTup H u) : ¬ PlaceV H u := fun ⟨a, _, _, e, h', _⟩ => by
  obtain ⟨o, h1, h2⟩ := h a e
  rw [h1] at h'
  exact h2 _ (Option.some.inj h')
/-- what is_place says of u -/
inductive PlK (K : PySem.W.Frag) (H : Hp) (u : V) : Bool → Prop where
  | no {T : String} : Pl K H u T → T ≠ "tuple" → NoTup H u → PlK K H u false
  | tup {a : Addr} {ys : List V} {b : Bool} : u = .ref a → Pl K H u "tuple" → H a = some (.tup ys) → (∀ y ∈ ys, NameArg K H y) → (b = true ↔ PlaceV H u) → PlK K H u b
section
variable {K : PySem.W.Frag} {H H' : Hp} {Q : VK} {E : XK}
theorem place_back {a : Addr} {ys : List V} (S : Same H H') (h : H a = some (.tup ys)) : PlaceV H' (.ref a) → PlaceV H (.ref a) := fun ⟨a', x, y, e, h', n⟩ => by
  injection e with e
  subst e
  rw [S _ _ h] at h'
  exact ⟨a, x, y, rfl, by rw [h]; exact h', n⟩
theorem PlaceV.mono {u : V} (S : Same H H') : PlaceV H u → PlaceV H' u := fun ⟨a, x, y, e, h, n⟩ => ⟨a, x, y, e, S _ _ h, n⟩
theorem PlK.mono {u : V} {b : Bool} (S : Same H H') (h : PlK K H u b) : PlK K H' u b := by
  cases h with
  | no h n nt => exact .no (h.mono S) n (nt.mono S)
  | tup e h ha hy hb =>
    subst e
    exact .tup rfl (h.mono S) (S _ _ ha) (fun y my => (hy y my).mono S) (hb.trans ⟨fun z => z.mono S, place_back S ha⟩)
theorem place_asked {u : V} {b : Bool} (h : PlK K H u b) (k : ∀ H', Same H H' → Q (.bl b) H') : spPlace K [u] H Q E := by
  cases h with
  | no h n nt => exact ⟨u, _, rfl, h, fun _ => k _ (Same.refl H), fun e => absurd e n⟩
  | tup e h ha hy hb =>
    subst e
    refine ⟨_, _, rfl, h, fun n => absurd rfl n, fun _ => ⟨_, _, rfl, ha, hy, fun n H1 S1 => ?_, fun y H1 S1 => ?_⟩⟩
    · cases b with
      | false => exact k H1 S1
      | true => exact absurd (hb.mp rfl) n
    · rw [hb.mpr y] at k
      exact k H1 S1
end
theorem PlK.yes {K : PySem.W.Frag} {H : Hp} {u : V} (h : PlK K H u true) : ∃ (a : Addr) (q : Str × Str), u = .ref a ∧ H a = some (.tup [.str q.1, .str q.2]) ∧ Nm q.1 ∧ Nm q.2 := by
  cases h with
  | tup e h ha hy hb =>
    obtain ⟨a, x, y, e2, h2, ⟨z1, rfl, n1⟩, ⟨z2, rfl, n2⟩⟩ := hb.mp rfl
    exact ⟨a, (z1, z2), e2, h2, n1, n2⟩
theorem PlAt.plk {K : PySem.W.Frag} {H : Hp} {x : V} {q : Plc} (h : PlAt H x q) (n : NmP q) : PlK K H x true := by
  have pv := h.placeV n
  obtain ⟨a, rfl, ha⟩ := h
  refine .tup rfl (Pl.tup ha) ha (fun y hy => ?_) ⟨fun _ => pv, fun _ => rfl⟩
  simp only [List.mem_cons, List.not_mem_nil, or_false] at hy
  rcases hy with rfl | rfl
  · exact nm_arg n.1
  · exact nm_arg n.2


/-- what is none of the three words -/
inductive WdN (CS : Addr) (H : Hp) (y : V) : Prop where
  | str {z : Str} : y = .str z → z ≠ "add" → z ≠ "take" → z ≠ "rename" → WdN CS H y
  | non : y = .non → WdN CS H y
  | nul : y = .int 0 → WdN CS H y
  | odd {c : Addr} : y = .ref c → ((∃ xs, H c = some (.lst xs)) ∨ (∃ xs, H c = some (.tup xs)) ∨ ∃ kvs, H c = some (.dK kvs)) → WdN CS H y
  | ins {c dx : Addr} {fs : List (Str × V)} : y = .ref c → H c = some (.ins CS dx fs) → WdN CS H y
theorem WdN.mono {CS : Addr} {H H' : Hp} {y : V} (S : Same H H') (h : WdN CS H y) : WdN CS H' y := by
  cases h with
  | str e a b c => exact .str e a b c
  | non e => exact .non e
  | nul e => exact .nul e
  | odd e h =>
    refine .odd e ?_
    rcases h with ⟨xs, h⟩ | ⟨xs, h⟩ | ⟨xs, h⟩
    · exact .inl ⟨xs, S _ _ h⟩
    · exact .inr (.inl ⟨xs, S _ _ h⟩)
    · exact .inr (.inr ⟨xs, S _ _ h⟩)
  | ins e h => exact .ins e (S _ _ h)
def manyC (z : Str) : Nat := if z = "rename" then 2 else 1
def Wd (z : Str) : Prop := z = "add" ∨ z = "take" ∨ z = "rename"
/-- what is_change says -/
inductive ChK (K : PySem.W.Frag) (CS : Addr) (H : Hp) (x : V) : Bool → Prop where
  | no {T : String} : Pl K H x T → T ≠ "tuple" → ChK K CS H x false
  | ins {a dx : Addr} {fs : List (Str × V)} : x = .ref a → H a = some (.ins CS dx fs) → ChK K CS H x false
  | len {a : Addr} {xs : List V} : x = .ref a → H a = some (.tup xs) → xs.length < 3 → ChK K CS H x false
  | num {a : Addr} {y0 : V} {ys : List V} {T : String} : x = .ref a → H a = some (.tup (y0 :: ys)) → 2 ≤ ys.length → Pl K H y0 T → (∀ i, y0 = .int i → i < 0) → ChK K CS H x false
  | word {a : Addr} {g : Int} {y1 : V} {ys : List V} : x = .ref a → H a = some (.tup (.int g :: y1 :: ys)) → 1 ≤ ys.length → 0 ≤ g → WdN CS H y1 → ChK K CS H x false
  | parts {a : Addr} {g : Int} {wd : Str} {ys : List V} (r : V → Bool) : x = .ref a → H a = some (.tup (.int g :: .str wd :: ys)) → 1 ≤ ys.length → ys.length < 60 → 0 ≤ g → Wd wd → (∀ y ∈ ys, PlK K H y (r y)) → ChK K CS H x (decide (ys.length = manyC wd) && ys.all r)
theorem ChK.mono {K : PySem.W.Frag} {CS : Addr} {H H' : Hp} {x : V} {b : Bool} (S : Same H H') (h : ChK K CS H x b) : ChK K CS H' x b := by
  cases h with
  | no h n => exact .no (h.mono S) n
  | ins e h => exact .ins e (S _ _ h)
  | len e h n => exact .len e (S _ _ h) n
  | num e h n p k => exact .num e (S _ _ h) n (p.mono S) k
  | word e h n g w => exact .word e (S _ _ h) n g (w.mono S)
  | parts r e h n1 n2 g w k => exact .parts r e (S _ _ h) n1 n2 g w fun y m => (k y m).mono S
theorem Wd.wd (c : Ch) : Wd c.wd := by
  cases c with
  | add p => exact .inl rfl
  | take p => exact .inr (.inl rfl)
  | ren p q => exact .inr (.inr rfl)
theorem manyC_wd (c : Ch) : manyC c.wd = c.pcs.length := by
  cases c with
  | add p => rfl
  | take p => exact if_neg (show ¬ ("take" : Str) = "rename" by decide)
  | ren p q => exact if_pos rfl
theorem Pls.mem {H : Hp} {ys : List V} {ps : List Plc} (h : Pls H ys ps) {y : V} (m : y ∈ ys) : ∃ p ∈ ps, PlAt H y p := by
  obtain ⟨i, e⟩ := List.getElem?_of_mem m
  obtain ⟨p, e2, h2⟩ := h.get2 e
  exact ⟨p, List.mem_of_getElem? e2, h2⟩
theorem all_yes (xs : List V) : (xs.all fun _ => true) = true := by simp
theorem ChAt.chk {K : PySem.W.Frag} {CS : Addr} {H : Hp} {x : V} {z : GC} (h : ChAt H x z) (g : 0 ≤ z.1) (n : ∀ p ∈ z.2.pcs, NmP p) : ChK K CS H x true := by
  obtain ⟨t, ys, rfl, ht, hy⟩ := h
  have ly : ys.length = z.2.pcs.length := hy.len
  have l1 : 1 ≤ ys.length ∧ ys.length ≤ 2 := by
    rw [ly]
    cases z.2 <;> simp [Ch.pcs]
  have := ChK.parts (K := K) (CS := CS) (x := .ref t) (fun _ => true) rfl ht l1.1 (by omega) g (Wd.wd _) fun y m => by
    obtain ⟨p, mp, hp⟩ := hy.mem m
    exact hp.plk (n p mp)
  rw [manyC_wd, ly, decide_eq_true rfl, all_yes] at this
  exact this
theorem ChK.yes {K : PySem.W.Frag} {CS : Addr} {H : Hp} {x : V} {b : Bool} (h : ChK K CS H x b) (e : b = true) : ∃ z : GC, ChAt H x z ∧ 0 ≤ z.1 ∧ ∀ p ∈ z.2.pcs, NmP p := by
  cases h with
  | no _ _ => cases e
  | ins _ _ => cases e
  | len _ _ _ => cases e
  | num _ _ _ _ _ => cases e
  | word _ _ _ _ _ => cases e
  | @parts a g wd ys r e1 h n1 n2 g0 w k =>
    rw [Bool.and_eq_true, decide_eq_true_iff] at e
    obtain ⟨e2, e3⟩ := e
    have all : ∀ y ∈ ys, ∃ q, PlAt H y q ∧ NmP q := fun y m => by
      have := List.all_eq_true.mp e3 y m
      obtain ⟨b, q, rfl, hb, m1, m2⟩ := (this ▸ k y m : PlK K H y true).yes
      exact ⟨q, ⟨b, rfl, hb⟩, m1, m2⟩
    rcases w with rfl | rfl | rfl
    · match ys, e2, all with
      | [y], _, all =>
        obtain ⟨q, h1, h2⟩ := all y List.mem_cons_self
        exact ⟨(g, .add q), ⟨a, [y], e1, h, .cons h1 .nil⟩, g0, fun p m => by rw [List.mem_singleton.mp m]; exact h2⟩
    · match ys, e2, all with
      | [y], _, all =>
        obtain ⟨q, h1, h2⟩ := all y List.mem_cons_self
        exact ⟨(g, .take q), ⟨a, [y], e1, h, .cons h1 .nil⟩, g0, fun p m => by rw [List.mem_singleton.mp m]; exact h2⟩
    · match ys, e2, all with
      | [y, u], _, all =>
        obtain ⟨q, h1, h2⟩ := all y List.mem_cons_self
        obtain ⟨q', h1', h2'⟩ := all u (List.mem_cons_of_mem _ List.mem_cons_self)
        exact ⟨(g, .ren q q'), ⟨a, [y, u], e1, h, .cons h1 (.cons h1' .nil)⟩, g0, fun p m => by
          rcases List.mem_cons.mp m with rfl | m
          · exact h2
          · rw [List.mem_singleton.mp m]; exact h2'⟩
section
variable {P : Program} {w : World} {K : PySem.W.Frag} {mg : Str → Option Value} {base : Heap} {CS CI : Addr}
/-- == with what is no story -/
def spSEqO (K : PySem.W.Frag) (CS : Addr) : Sp := fun vs H Q _ => ∃ x y T, vs = [.ref x, y] ∧ (∃ dx fs, H x = some (.ins CS dx fs)) ∧ Pl K H y T ∧ Q (.bl false) H
theorem ok_story_eqO {f : Addr} {fd : FuncData} (T : Txt K mg) (SC : StoryC K mg CS) (SM : StoryM K CS) (F : Fun K "__eq__" "Story.__eq__" s_Story___eq__ f fd) : FnOk P w K mg base CX0 1 f fd ["self", "other"] (spSEqO K CS) := by
  refine F.ok sc_Story___eq__ (fun vs H Q E h => ?_) (fun cdv A outer s H vs Q E hr h => ?_)
  · obtain ⟨x, y, T, rfl, _⟩ := h
    rfl
  · obtain ⟨x, y, ty, rfl, _, hy, k⟩ := h
    have hu := hr.units
    refine ⟨_, (pss_one (ps_ret (pe_and (pe_callB call_isi (by rfl) T.n_isinstance (by decide +kernel) (pa_cons (pv 1) (pa_cons (pe_glob (v := .ref CS) (by rfl) SC.g rfl) pa_nil))) (pe_and (pe_cmpR (op_eqU hu) (pe_fld (pv 0) rfl) (pe_fld (pv 1) rfl) (by rfl)) (pe_one (pe_cmpR (op_eqU hu) (pe_fld (pv 0) rfl) (pe_fld (pv 1) rfl) (by rfl))))))), ?_⟩
    k_extra "r_C13c"
    refine ⟨y, .ref CS, .type ty, .ref CS, false, rfl, .own CS, hy.1, SM.kN _ hy.2, ?_⟩
    k_extra "r_C13c"
    exact k
def rNWd (K : PySem.W.Frag) (CS : Addr) : R2 := fun x y H Q => rIn K true x y H Q ∨ (rNotInOdd K x y H Q ∨ rNotInIns K CS (spSEqO K CS) E0 x y H Q)
theorem op_notWd {X : Cx} {k : Nat} (T : Txt X.K X.mg) (SC : StoryC X.K X.mg CS) (SM : StoryM X.K CS) (hr : Room k X.A) (hk : 2 ≤ k) : OpR X (compareOp .NotIn) (rNWd X.K CS) := by
  obtain ⟨f, fd, e1, e2, F, b⟩ := SM.eq
  exact OpR.or op_notIn_seq (OpR.or (op_notinOdd (lt1 (Nat.lt_of_le_of_lt (Nat.le_refl _) hr.units))) (op_notinIns (ok_story_eqO T SC SM F) e1 e2 b L2.pass0 SM.sub (hr.mono hk)))
theorem q_notWd {H : Hp} {Q : VK} {y : V} {p : Addr} (h : WdN CS H y) (hp : H p = some (.tup [.str "add", .str "take", .str "rename"])) (q : ∀ H', Same H H' → Q (.bl true) H') : rNWd K CS y (.ref p) H Q := by
  have ht : SqT K H p ((["add", "take", "rename"] : List Str).map V.str) := SqT.of hp
  cases h with
  | @str z e a b c =>
    subst e
    refine .inl ⟨p, _, rfl, .inr ht, rfl, flat_strs _, ?_⟩
    rw [inV_strs, decide_eq_false (by simp [a, b, c])]
    exact q H (Same.refl H)
  | non e =>
    subst e
    refine .inl ⟨p, _, rfl, .inr ht, rfl, flat_strs _, ?_⟩
    rw [show inV .non ((["add", "take", "rename"] : List Str).map V.str) = false by decide]
    exact q H (Same.refl H)
  | nul e =>
    subst e
    refine .inl ⟨p, _, rfl, .inr ht, rfl, flat_strs _, ?_⟩
    rw [show inV (.int 0) ((["add", "take", "rename"] : List Str).map V.str) = false by decide]
    exact q H (Same.refl H)
  | odd e h =>
    subst e
    exact .inr (.inl ⟨_, p, ["add", "take", "rename"], rfl, rfl, ht, h, q H (Same.refl H)⟩)
  | @ins c dx fs e h =>
    subst e
    exact .inr (.inr ⟨_, p, ["add", "take", "rename"], rfl, rfl, ht, ⟨dx, _, h⟩, fun z _ H' S => ⟨_, .str z, "str", rfl, ⟨dx, _, S _ _ h⟩, Pl.str, rfl, Same.refl _⟩, q⟩)
theorem q_isWd {H : Hp} {Q : VK} {z : Str} {p : Addr} (h : Wd z) (hp : H p = some (.tup [.str "add", .str "take", .str "rename"])) (q : Q (.bl false) H) : rNWd K CS (.str z) (.ref p) H Q := by
  have ht : SqT K H p ((["add", "take", "rename"] : List Str).map V.str) := SqT.of hp
  refine .inl ⟨p, _, rfl, .inr ht, rfl, flat_strs _, ?_⟩
  rw [inV_strs, decide_eq_true (by rcases h with rfl | rfl | rfl <;> simp)]
  exact q
/-- isinstance(o, tuple), o a story -/
theorem q_isiS {H : Hp} {Q : VK} {a dx : Addr} {fs : List (Str × V)} (SC : StoryC K mg CS) (SM : StoryM K CS) (h : H a = some (.ins CS dx fs)) (q : Q (.bl false) H) : rIsi K [.ref a, .ty "tuple"] H Q :=
  ⟨.ref a, .ty "tuple", .ref CS, .type "tuple", false, rfl, .ty "tuple", .base (.ins h SC.cl SC.i1 SC.i2 SC.i3 SC.i4), SM.kT, q⟩
def spIsChangeK (K : PySem.W.Frag) (CS : Addr) : Sp := fun vs H Q _ => ∃ x b, vs = [x] ∧ ChK K CS H x b ∧ ∀ H', Same H H' → Q (.bl b) H'
theorem ok_is_changeK (T : Txt K mg) (N : TxtN K mg) (I : TxtI K mg) (C : TxtC13 K mg) (SC : StoryC K mg CS) (SM : StoryM K CS) : Cal P w K mg base 3 "is_change" (spIsChangeK K CS) := by
  refine C.d_ic.cal sc_is_change (fun vs H Q E h => ?_) (fun f cdv A outer s H vs Q E hr h => ?_)
  · obtain ⟨x, b, rfl, _⟩ := h
    rfl
  · obtain ⟨x, b, rfl, hx, k⟩ := h
    have hu := hr.units
    refine ⟨_, (pss_cons (ps_if (pt_not (PW.pt (pw_and (pt_val (pe_callB call_isi (by rfl) T.n_isinstance (by decide +kernel) (pa_cons (pv 0) (pa_cons (pe_bltn (v := .ty "tuple") (by rfl) T.n_tuple (by decide +kernel) rfl) pa_nil)))) (pw_and (pt_cmpR op_geI (pe_callB call_lenQ (by rfl) N.n_len (by decide +kernel) (pa_cons (pv 0) pa_nil)) pe_int (by rfl)) (pw_and (pt_val (pe_c (ok_is_whole T) hr (by decide) rfl (pa_cons (pe_ix ix_seq (pv 0) pe_int (fun _ _ => rfl)) pa_nil))) (pw_and1 (pt_cmpR op_geI (pe_ix ix_seq (pv 0) pe_int (fun _ _ => rfl)) pe_int (by rfl)))))))) (pss_one (ps_ret pe_bl)) pss_nil)
      (pss_cons (ps_if (pt_cmpR (op_notWd T SC SM hr (by decide)) (pe_ix ix_seq (pv 0) pe_int (fun _ _ => rfl)) (pe_tup (pa_cons pe_str (pa_cons pe_str (pa_cons pe_str pa_nil)))) (by rfl)) (pss_one (ps_ret pe_bl)) pss_nil)
      (C8.pss_cut (ps_set (i := 1) sc_is_change.nd rfl (.inl rfl) (pe_ifExp (pt_cmpR op_eq (pe_ix ix_seq (pv 0) pe_int (fun _ _ => rfl)) pe_str (by rfl)) pe_int pe_int))
      (pss_one (ps_ret (pe_and (pe_cmpR op_eq (pe_callB call_lenQ (by rfl) N.n_len (by decide +kernel) (pa_cons (pv 0) pa_nil)) (pe_op op_addU pe_int (pv 1)) (by rfl)) (pe_one (pe_callB (call_allB rfl) (by rfl) N.n_all (by decide +kernel) (pa_cons (pe_lc (own := [("item", 2)]) (g := gName 2) (tt := tYes) (te := tCall (spPlace K) [] E0 (tCons (tVar 2) tNil)) rfl sc_is_change.nd (pi_tup (pe_slice sl_tup (pv 0) (po_some pe_int) po_none)) (blkOk_by (own := [("item", 2)]) (N := ["value", "many", "item"]) (sc := defScope s_is_change) (by decide +kernel)) (fun _ _ _ _ _ => pg_name (i := 2) sc_is_change.nd rfl (Or.inl rfl)) (fun _ _ _ _ _ => pts_nil) (fun _ _ _ _ _ => by exact (pe_c (ok_is_place T N I) hr (by decide) rfl (pa_cons (pv 2) pa_nil)))) pa_nil))))))))), ?_⟩
    have k0 := k H (Same.refl H)
    cases hx with
    | no h n =>
      k_extra "r_C13c"
      refine q_isi h .tup ?_
      rw [show subKd _ "tuple" = false by cases h.2 <;> first | rfl | exact absurd rfl n]
      k_extra "r_C13c"
      refine s_if1 rfl ?_
      k_extra "r_C13c"
      exact k0
    | ins e h =>
      subst e
      k_extra "r_C13c"
      refine q_isiS SC SM h ?_
      k_extra "r_C13c"
      refine s_if1 rfl ?_
      k_extra "r_C13c"
      exact k0
    | len e h n =>
      subst e
      k_extra "r_C13c"
      refine q_isi (Pl.tup h) .tup ?_
      k_extra "r_C13c"
      refine s_if1 rfl ?_
      k_extra "r_C13c"
      refine q_lenT (SqT.of h) ?_
      k_extra "r_C13c"
      refine s_ifD (fun e => absurd e (by omega)) (fun _ => ?_)
      k_extra "r_C13c"
      exact k0
    | @num a y0 ys ty e h n p nn =>
      subst e
      k_extra "r_C13c"
      refine q_isi (Pl.tup h) .tup ?_
      k_extra "r_C13c"
      refine s_if1 rfl ?_
      k_extra "r_C13c"
      refine q_lenT (SqT.of h) ?_
      k_extra "r_C13c"
      refine s_ifD (fun _ => ?_) (fun e => absurd (by simp; omega) e)
      k_extra "r_C13c"
      refine q_ixT (SqT.of h) (at_of (j := 0) rfl rfl) ?_
      k_extra "r_C13c"
      refine ⟨y0, ty, rfl, p, ?_⟩
      k_extra "r_C13c"
      by_cases e : ty = "int"
      · obtain ⟨i, rfl⟩ := p.of_int e
        subst e
        refine s_if1 rfl ?_
        k_extra "r_C13c"
        refine q_ixT (SqT.of h) (at_of (j := 0) rfl rfl) ?_
        k_extra "r_C13c"
        refine s_ifND (fun e => absurd e (by have := nn i rfl; omega)) (fun _ => ?_)
        k_extra "r_C13c"
        exact k0
      · refine s_if0 (beq_eq_false_iff_ne.mpr e) ?_
        k_extra "r_C13c"
        exact k0
    | @word a g y1 ys e h n g0 wd =>
      subst e
      k_extra "r_C13c"
      refine q_isi (Pl.tup h) .tup ?_
      k_extra "r_C13c"
      refine s_if1 rfl ?_
      k_extra "r_C13c"
      refine q_lenT (SqT.of h) ?_
      k_extra "r_C13c"
      refine s_ifD (fun _ => ?_) (fun e => absurd (by simp; omega) e)
      k_extra "r_C13c"
      refine q_ixT (SqT.of h) (at_of (j := 0) rfl rfl) ?_
      k_extra "r_C13c"
      refine ⟨.int g, "int", rfl, Pl.int, ?_⟩
      k_extra "r_C13c"
      refine s_if1 rfl ?_
      k_extra "r_C13c"
      refine q_ixT (SqT.of h) (at_of (j := 0) rfl rfl) ?_
      k_extra "r_C13c"
      refine s_ifND (fun _ => ?_) (fun e => absurd g0 e)
      k_extra "r_C13c"
      refine q_ixT (SqT.of h) (at_of (j := 1) rfl rfl) ?_
      k_extra "r_C13c"
      refine q_newT (by show 3 ≤ sizeLine; decide) fun t1 H1 n1 S1 h1 => ?_
      refine q_notWd (wd.mono S1) h1 fun H2 S2 => ?_
      refine q_test (s_if1 rfl ?_)
      k_extra "r_C13c"
      exact k H2 (S1.trans S2)
    | @parts t g wd ys r e ht n1 n2 g0 hw hy =>
      subst e
      k_extra "r_C13c"
      refine q_isi (Pl.tup ht) .tup ?_
      k_extra "r_C13c"
      refine s_if1 rfl ?_
      k_extra "r_C13c"
      refine q_lenT (SqT.of ht) ?_
      k_extra "r_C13c"
      refine s_ifD (fun _ => ?_) (fun e => absurd (by simp; omega) e)
      k_extra "r_C13c"
      refine q_ixT (SqT.of ht) (at_of (j := 0) rfl rfl) ?_
      k_extra "r_C13c"
      refine ⟨.int g, "int", rfl, Pl.int, ?_⟩
      k_extra "r_C13c"
      refine s_if1 rfl ?_
      k_extra "r_C13c"
      refine q_ixT (SqT.of ht) (at_of (j := 0) rfl rfl) ?_
      k_extra "r_C13c"
      refine s_ifND (fun _ => ?_) (fun e => absurd g0 e)
      k_extra "r_C13c"
      refine q_ixT (SqT.of ht) (at_of (j := 1) rfl rfl) ?_
      k_extra "r_C13c"
      refine q_newT (by show 3 ≤ sizeLine; decide) fun t1 H1 n1' S1 h1 => ?_
      refine q_isWd hw h1 ?_
      refine q_test (s_if0 rfl ?_)
      k_extra "r_C13c"
      refine q_cut8 (M := fun σ H' => σ = [some (.ref t), some (.int (manyC wd)), none] ∧ Same H H') ?_ ?_
      · k_extra "r_C13c"
        refine q_ixT (SqT.of (S1 _ _ ht)) (at_of (j := 1) rfl rfl) ?_
        k_extra "r_C13c"
        refine ⟨rfl, ?_⟩
        by_cases e : wd = "rename"
        · subst e
          refine q_test (s_if1 (by decide) ?_)
          k_extra "r_C13c"
          exact ⟨by rw [show manyC "rename" = 2 from if_pos rfl]; rfl, S1⟩
        · refine q_test (s_if0 (decide_eq_false fun z => e (by injection z)) ?_)
          k_extra "r_C13c"
          exact ⟨by rw [show manyC wd = 1 from if_neg e]; rfl, S1⟩
      clear h1 n1' S1
      rintro σ H1 ⟨rfl, S1⟩
      k_extra "r_C13c"
      refine q_lenT (SqT.of (S1 _ _ ht)) ?_
      k_extra "r_C13c"
      refine ⟨rfl, ?_⟩
      by_cases el : ys.length = manyC wd
      · rw [decide_eq_true el, Bool.true_and] at k k0
        rw [decide_eq_true (by simp; omega)]
        k_extra "r_C13c"
        refine s_lc ?_
        k_extra "r_C13c"
        refine s_iTup ?_
        k_extra "r_C13c"
        refine q_slT2 (SqT.of (S1 _ _ ht)) fun p H2 n2' S2 h2 => ?_
        refine ⟨p, rfl, ⟨_, SqT.of h2⟩, fun D nD => lc_tup (K := K) (a := p) (xs := ys) (fun i H' => Same H2 H' ∧ H' D = some (.lst ((ys.take i).map fun y => .bl (r y)))) ⟨Same.new nD, upd_same⟩ (fun i H' _ h => SqT.of (h.1 _ _ h2)) ?_ ?_⟩
        · rintro j x H3 hj ⟨S3, h3⟩
          have lt := (List.getElem?_eq_some_iff.mp hj).1
          k_extra "r_C13c"
          refine ⟨rfl, ?_⟩
          k_extra "r_C13c"
          refine place_asked ((hy x (List.mem_of_getElem? hj)).mono (S1.trans (S2.trans S3))) fun H4 S4 => ?_
          refine ⟨_, S4 _ _ h3, ?_, same_mut (S3.trans S4) nD, ?_⟩
          · rw [List.length_map, List.length_take]
            exact szlt (by omega)
          · rw [upd_same, take_map_more hj]
        · rintro H3 ⟨S3, h3⟩
          rw [List.take_of_length_le (Nat.le_refl _)] at h3
          k_extra "r_C13c"
          refine q_allB (bs := ys.map r) (SqL.of (by rw [List.map_map]; exact h3)) ?_
          rw [show (ys.map r).all id = ys.all r by rw [List.all_map]; rfl]
          exact k H3 (S1.trans (S2.trans S3))
      · rw [decide_eq_false el, Bool.false_and] at k k0
        rw [decide_eq_false (by simp; omega)]
        k_extra "r_C13c"
        exact k H1 S1
end
end Bt
namespace Bt
open PySem PySem.Spec PyProof.Rows L2 LamX NdefX
open PySem.W (dataLt dataLe alike AllAlike Sortable)
theorem words131_ : True := by
  k_with "s_S13c" => first
    | ((with_reducible refine' s_var ?hv ?_); (case hv => exact rfl))
    | with_reducible first
      | refine' s_c ?_ | refine' s_op ?_ | refine' s_asg ?_ | refine' s_gname ?_ | refine' s_seq ?_ | refine' s_next ?_ | refine' s_ret ?_ | refine' s_ifS ?_ | refine' s_drop ?_ | refine' s_retN ?_ | refine' s_test ?_ | refine' s_B ?_ | refine' q_test ?_ | refine' s_int ?_ | refine' s_cons ?_ | refine' s_nil ?_ | refine' s_call ?_ | refine' s_CB ?_ | refine' s_andT ?_ | refine' s_orT ?_ | refine' s_notT ?_ | refine' s_andV ?_ | refine' s_orV ?_ | refine' s_notV ?_ | refine' s_ifV ?_ | refine' s_chain ?_ | refine' s_sl ?_ | refine' s_noPart ?_ | refine' s_part ?_ | refine' s_gsub ?_ | refine' s_BM ?_ | refine' s_tup ?_ | refine' s_lst ?_ | refine' q_add ?_ | refine' q_sub ?_ | refine' q_lt ?_ | refine' q_le ?_ | refine' q_gt ?_ | refine' q_ge ?_ | refine' s_ifT ?_ | refine' s_ifF ?_ | refine' s_yes ?_ | refine' s_iStr ?_ | refine' s_M0 ?_ | refine' s_for ?_ | refine' s_rng1 ?_ | refine' s_par ?_ | refine' s_gcons ?_ | refine' s_gnil ?_ | refine' s_iList ?_ | refine' s_iEnum ?_ | refine' s_raise1 ?_
      | (refine' q_mod ?hm ?_; (case hm => first | omega | decide))
    | dsimp only
  k_with "r_S13c" => repeat (k_extra "s_S13c")
  trivial
/-! ### is_place_list, is_possible, may_come, _standing_behind of any value -/
def canB (st : List Plc) (c : Ch) : Bool := (match c.gs with | none => true | some p => decide (p ∈ st)) && (match c.cs with | none => true | some q => !decide (q ∈ st))
theorem canB_iff {st : List Plc} {c : Ch} : canB st c = true ↔ Can st c := by
  unfold canB Can
  rw [Bool.and_eq_true]
  refine and_congr ?_ ?_
  · cases c.gs with
    | none => simp
    | some p => simp
  · cases c.cs with
    | none => simp
    | some p => simp
/-- what may_come says -/
inductive MayK (K : PySem.W.Frag) (CS : Addr) (H : Hp) (x : V) (g : Int) (st : List Plc) : Bool → Prop where
  | no : ChK K CS H x false → MayK K CS H x g st false
  | yes {z : GC} : ChAt H x z → 0 ≤ z.1 → (∀ p ∈ z.2.pcs, NmP p) → MayK K CS H x g st (decide (g ≤ z.1) && canB st z.2)
theorem MayK.mono {K : PySem.W.Frag} {CS : Addr} {H H' : Hp} {x : V} {g : Int} {st : List Plc} {b : Bool} (S : Same H H') (h : MayK K CS H x g st b) : MayK K CS H' x g st b := by
  cases h with
  | no h => exact .no (h.mono S)
  | yes h g n => exact .yes (h.mono S) g n
/-- a walk over the changes ts: where it ends, if it does -/
inductive RunK (K : PySem.W.Frag) (CS : Addr) (H : Hp) : List V → Int → List Plc → Option (List Plc) → Prop where
  | nil {g : Int} {st : List Plc} : RunK K CS H [] g st (some st)
  | bad {x : V} {ts : List V} {g : Int} {st : List Plc} : MayK K CS H x g st false → RunK K CS H (x :: ts) g st none
  | step {x : V} {ts : List V} {g : Int} {st : List Plc} {z : GC} {o : Option (List Plc)} : ChAt H x z → 0 ≤ z.1 → (∀ p ∈ z.2.pcs, NmP p) → g ≤ z.1 → Can st z.2 → st.length < 90 → RunK K CS H ts z.1 (mkC st z.2) o → RunK K CS H (x :: ts) g st o
theorem RunK.mono {K : PySem.W.Frag} {CS : Addr} {H H' : Hp} (S : Same H H') {ts : List V} {g : Int} {st : List Plc} {o : Option (List Plc)} (h : RunK K CS H ts g st o) : RunK K CS H' ts g st o := by
  induction h with
  | nil => exact .nil
  | bad h => exact .bad (h.mono S)
  | step h g n l c z _ ih => exact .step (h.mono S) g n l c z ih
theorem Run.runK {K : PySem.W.Frag} {CS : Addr} {H : Hp} : ∀ {zs : List GC} {ts : List V} {st : List Plc} {g : Int}, Run st g zs → 0 ≤ g → ChsAt H ts zs → RunK K CS H ts g st (some (runC st zs))
  | [], _, _, _, _, _, .nil => .nil
  | z :: zs, _, st, g, ⟨h1, h2, h3, h4, h5⟩, g0, .cons h hs => .step h (Int.le_trans g0 h1) h3 h1 h2 h4 (Run.runK h5 (Int.le_trans g0 h1) hs)
/-- a right walk, and then a change that can't be -/
theorem Run.runN {K : PySem.W.Frag} {CS : Addr} {H : Hp} {x : V} : ∀ {zs : List GC} {ts : List V} {st : List Plc} {g : Int}, Run st g zs → 0 ≤ g → ChsAt H ts zs → MayK K CS H x (lastG g zs) (runC st zs) false → RunK K CS H (ts ++ [x]) g st none
  | [], _, _, _, _, _, .nil, m => .bad m
  | z :: zs, _, st, g, ⟨h1, h2, h3, h4, h5⟩, g0, .cons h hs, m => .step h (Int.le_trans g0 h1) h3 h1 h2 h4 (Run.runN h5 (Int.le_trans g0 h1) hs m)
/-- what is_place_list says -/
inductive FsK (K : PySem.W.Frag) (H : Hp) (x : V) : Bool → Prop where
  | no {T : String} : Pl K H x T → T ≠ "list" → FsK K H x false
  | item {q : Addr} {xs : List V} (r : V → Bool) : x = .ref q → H q = some (.lst xs) → xs.length < 64 → (∀ y ∈ xs, PlK K H y (r y)) → xs.all r = false → FsK K H x false
  | lst {q : Addr} {xs : List V} {ps : List Plc} : x = .ref q → H q = some (.lst xs) → xs.length < 64 → Pls H xs ps → (∀ p ∈ ps, NmP p) → FsK K H x (decide ps.Nodup)
theorem FsK.mono {K : PySem.W.Frag} {H H' : Hp} {x : V} {b : Bool} (S : Same H H') (h : FsK K H x b) : FsK K H' x b := by
  cases h with
  | no h n => exact .no (h.mono S) n
  | item r e h n k a => exact .item r e (S _ _ h) n (fun y m => (k y m).mono S) a
  | lst e h n p k => exact .lst e (S _ _ h) n (p.mono S) k
section
variable {P : Program} {w : World} {K : PySem.W.Frag} {mg : Str → Option Value} {base : Heap} {CS CI : Addr}
def spPlListK (K : PySem.W.Frag) : Sp := fun vs H Q _ => ∃ x b, vs = [x] ∧ FsK K H x b ∧ ∀ H', Same H H' → Q (.bl b) H'
theorem ok_is_place_listK (T : Txt K mg) (N : TxtN K mg) (I : TxtI K mg) (C : TxtC13 K mg) : Cal P w K mg base 3 "is_place_list" (spPlListK K) := by
  refine C.d_pl.cal sc_is_place_list (fun vs H Q E h => ?_) (fun f cdv A outer s H vs Q E hr h => ?_)
  · obtain ⟨x, b, rfl, _⟩ := h
    rfl
  · obtain ⟨x, b, rfl, hx, k⟩ := h
    have hu := hr.units
    refine ⟨_, (pss_cons (ps_if (pt_not (PW.pt (pw_and (pt_val (pe_callB call_isi (by rfl) T.n_isinstance (by decide +kernel) (pa_cons (pv 0) (pa_cons (pe_bltn (v := .ty "list") (by rfl) T.n_list (by decide +kernel) rfl) pa_nil)))) (pw_and1 (pt_val (pe_callB (call_allB rfl) (by rfl) N.n_all (by decide +kernel) (pa_cons (pe_lc (own := [("item", 1)]) (g := gName 1) (tt := tYes) (te := tCall (spPlace K) [] E0 (tCons (tVar 1) tNil)) rfl sc_is_place_list.nd (pi_list (pv 0)) (blkOk_by (own := [("item", 1)]) (N := ["value", "item"]) (sc := defScope s_is_place_list) (by decide +kernel)) (fun _ _ _ _ _ => pg_name (i := 1) sc_is_place_list.nd rfl (Or.inl rfl)) (fun _ _ _ _ _ => pts_nil) (fun _ _ _ _ _ => by exact (pe_c (ok_is_place T N I) hr (by decide) rfl (pa_cons (pv 1) pa_nil)))) pa_nil))))))) (pss_one (ps_ret pe_bl)) pss_nil)
      (pss_one (ps_ret (pe_cmpR op_eq (pe_callB ST.call_lenK (by rfl) N.n_len (by decide +kernel) (pa_cons (pe_callTy (ST.cr_setK rfl hu) (by rfl) T.n_set (by decide +kernel) (pa_cons (pv 0) pa_nil)) pa_nil)) (pe_callB call_lenQ (by rfl) N.n_len (by decide +kernel) (pa_cons (pv 0) pa_nil)) (by rfl))))), ?_⟩
    cases hx with
    | no h n =>
      k_extra "r_S13c"
      refine q_isi h .lst ?_
      rw [show subKd _ "list" = false by cases h.2 <;> first | rfl | exact absurd rfl n]
      k_extra "r_S13c"
      refine s_if1 rfl ?_
      k_extra "r_S13c"
      exact k H (Same.refl H)
    | @item q xs r e hq hz hy hall =>
      subst e
      k_extra "r_S13c"
      refine q_isi (Pl.lst hq) .lst ?_
      k_extra "r_S13c"
      refine s_if1 rfl ?_
      k_extra "r_S13c"
      refine s_lc ?_
      k_extra "r_S13c"
      refine ⟨q, rfl, ⟨_, SqL.of hq⟩, fun D nD => lc_list (K := K) (a := q) (xs := xs) (fun i H' => Same H H' ∧ H' D = some (.lst ((xs.take i).map fun y => .bl (r y)))) ⟨Same.new nD, upd_same⟩ (fun i H' _ h => SqL.of (h.1 _ _ hq)) ?_ ?_⟩
      · rintro j x H1 hj ⟨S1, h1⟩
        k_extra "r_S13c"
        refine ⟨rfl, ?_⟩
        k_extra "r_S13c"
        refine place_asked ((hy x (List.mem_of_getElem? hj)).mono S1) fun H2 S2 => ?_
        refine ⟨_, S2 _ _ h1, ?_, same_mut (S1.trans S2) nD, ?_⟩
        · rw [List.length_map, List.length_take]
          exact szlt (by omega)
        · rw [upd_same, take_map_more hj]
      · rintro H1 ⟨S1, h1⟩
        rw [List.take_of_length_le (Nat.le_refl _)] at h1
        k_extra "r_S13c"
        refine q_allB (bs := xs.map r) (SqL.of (by rw [List.map_map]; exact h1)) ?_
        rw [show (xs.map r).all id = false by rw [List.all_map]; exact hall]
        k_extra "r_S13c"
        refine s_if1 rfl ?_
        k_extra "r_S13c"
        exact k H1 S1
    | @lst q xs ps e hq hz pl nm =>
      subst e
      k_extra "r_S13c"
      refine q_isi (Pl.lst hq) .lst ?_
      k_extra "r_S13c"
      refine s_if1 rfl ?_
      k_extra "r_S13c"
      refine s_lc ?_
      k_extra "r_S13c"
      refine ⟨q, rfl, ⟨_, SqL.of hq⟩, fun D nD => lc_list (K := K) (a := q) (xs := xs) (fun i H' => Same H H' ∧ H' D = some (.lst ((xs.take i).map fun _ => .bl true))) ⟨Same.new nD, upd_same⟩ (fun i H' _ h => SqL.of (h.1 _ _ hq)) ?_ ?_⟩
      · rintro j x H1 hj ⟨S1, h1⟩
        obtain ⟨p, mp, hp⟩ := pl.get hj
        k_extra "r_S13c"
        refine ⟨rfl, ?_⟩
        k_extra "r_S13c"
        refine q_isPl (hp.mono S1) (nm p mp) fun H2 S2 => ?_
        refine ⟨_, S2 _ _ h1, ?_, same_mut (S1.trans S2) nD, ?_⟩
        · rw [List.length_map, List.length_take]
          exact szlt (by omega)
        · rw [upd_same, take_map_more hj]
      · rintro H1 ⟨S1, h1⟩
        rw [List.take_of_length_le (Nat.le_refl _)] at h1
        k_extra "r_S13c"
        refine q_allB (bs := xs.map fun _ => true) (SqL.of (by rw [List.map_map]; exact h1)) ?_
        rw [show (xs.map fun _ => true).all id = true by simp]
        k_extra "r_S13c"
        refine s_if0 rfl ?_
        k_extra "r_S13c"
        obtain ⟨ks, rfl, e, hk⟩ := pl.keys
        rw [List.length_map] at hz
        refine ST.q_setK ks (SqL.of (S1 _ _ hq)) (fun p m => S1 _ _ (hk p m)) hz fun D H2 L nD2 S2 hD g _ => ?_
        k_extra "r_S13c"
        refine ⟨D, L, rfl, hD, ?_⟩
        k_extra "r_S13c"
        refine q_lenL (SqL.of ((S1.trans S2) _ _ hq)) ?_
        have eL : L.length = ks.length ↔ ps.Nodup := by
          rw [← keys_nd, ← e]
          have := g.nd
          rwa [List.take_of_length_le (Nat.le_refl _)] at this
        refine ⟨rfl, ?_⟩
        rw [show decide (V.int L.length = V.int (ks.map fun p => V.ref p.1).length) = decide ps.Nodup from decide_eq_decide.mpr (by
          rw [← eL, List.length_map]
          exact ⟨fun z => by injection z with z; exact Int.ofNat.inj z, fun z => by rw [z]⟩)]
        exact k H2 (S1.trans S2)
def spPossB : Sp := fun vs H Q _ => ∃ x z d st, vs = [x, .ref d] ∧ ChAt H x z ∧ H d = some (.dT (stK st)) ∧ Q (.bl (canB st z.2)) H
theorem ok_is_possibleB (C : TxtC13 K mg) : Cal P w K mg base 2 "is_possible" spPossB := by
  refine C.d_poss.cal sc_is_possible (fun vs H Q E h => ?_) (fun f cdv A outer s H vs Q E hr h => ?_)
  · obtain ⟨x, z, d, st, rfl, _⟩ := h
    rfl
  · obtain ⟨x, z, d, st, rfl, hx, hd, k⟩ := h
    have hu := hr.units
    refine ⟨_, (pss_cons (ps_par (i := 2) (j := 3) (by rfl) sc_is_possible.nd rfl rfl (by decide) rfl rfl (pa_cons (pe_c (ok_goes C) hr (by decide) rfl (pa_cons (pv 0) pa_nil)) (pa_cons (pe_c (ok_comes C) hr (by decide) rfl (pa_cons (pv 0) pa_nil)) pa_nil)) (by rfl))
      (pss_one (ps_ret (pe_and (pe_or (pe_cmpR op_isNon (pv 2) pe_non (by rfl)) (pe_one (pe_cmp (pc_din (lt1 hu) (pv 2) (pv 1))))) (pe_one (pe_or (pe_cmpR op_isNon (pv 3) pe_non (by rfl)) (pe_one (pe_cmp (pc_dnotin (lt1 hu) (pv 3) (pv 1)))))))))), ?_⟩
    k_extra "r_S13c"
    refine ⟨x, z, rfl, hx, fun y hy => ?_⟩
    k_extra "r_S13c"
    refine ⟨x, z, rfl, hx, fun u hu' => ?_⟩
    k_extra "r_S13c"
    refine ⟨_, _, rfl, ?_⟩
    k_extra "r_S13c"
    have fin : (match z.2.gs with | none => true | some p => decide (p ∈ st)) = true → tOrV (tOp rIsN (tVar 3) (tC .non)) (tDNotIn (tVar 3) (tVar 1)) [some x, some (.ref d), some y, some u] H Q := fun eg => by
      unfold canB at k
      rw [eg, Bool.true_and] at k
      k_extra "r_S13c"
      refine q_isNon ?_
      cases e : z.2.cs with
      | none =>
        rw [e] at hu' k
        obtain rfl : u = .non := hu'
        refine ⟨_, rfl, s_if1 (decide_eq_true rfl) ?_⟩
        exact k
      | some q =>
        rw [e] at hu' k
        obtain ⟨b, rfl, hb⟩ := hu'
        refine ⟨_, rfl, s_if0 (decide_eq_false fun z => by cases z) ?_⟩
        refine s_dnotin ?_
        k_extra "r_S13c"
        refine ⟨d, _, rfl, DGet.t (k := keyOf q) hd hb, ?_⟩
        rw [valV_stK]
        exact k
    refine q_isNon ?_
    cases e : z.2.gs with
    | none =>
      rw [e] at hy fin
      obtain rfl : y = .non := hy
      refine ⟨_, rfl, s_if1 (decide_eq_true rfl) ?_⟩
      exact ⟨_, rfl, s_if1 rfl (fin rfl)⟩
    | some p =>
      rw [e] at hy fin
      obtain ⟨b, rfl, hb⟩ := hy
      refine ⟨_, rfl, s_if0 (decide_eq_false fun z => by cases z) ?_⟩
      refine s_din ?_
      k_extra "r_S13c"
      refine ⟨d, _, rfl, DGet.t (k := keyOf p) hd hb, ?_⟩
      rw [valV_stK]
      by_cases m : p ∈ st
      · rw [decide_eq_true m]
        exact ⟨_, rfl, s_if1 rfl (fin (decide_eq_true m))⟩
      · rw [decide_eq_false m]
        refine ⟨_, rfl, s_if0 rfl ?_⟩
        unfold canB at k
        rw [e] at k
        rw [show (match some p with | none => true | some p => decide (p ∈ st)) = false from decide_eq_false m, Bool.false_and] at k
        exact k
def spMayK (K : PySem.W.Frag) (CS : Addr) : Sp := fun vs H Q _ => ∃ x g d st b, vs = [x, .int g, .ref d] ∧ MayK K CS H x g st b ∧ H d = some (.dT (stK st)) ∧ ∀ H', Same H H' → Q (.bl b) H'
theorem ok_may_comeK (T : Txt K mg) (N : TxtN K mg) (I : TxtI K mg) (C : TxtC13 K mg) (S : TxtS13 K mg) (SC : StoryC K mg CS) (SM : StoryM K CS) : Cal P w K mg base 4 "may_come" (spMayK K CS) := by
  refine S.d_may.cal sc_may_come (fun vs H Q E h => ?_) (fun f cdv A outer s H vs Q E hr h => ?_)
  · obtain ⟨x, g, d, st, b, rfl, _⟩ := h
    rfl
  · obtain ⟨x, g, d, st, b, rfl, hx, hd, k⟩ := h
    refine ⟨_, (pss_one (ps_ret (pe_and (pe_c (ok_is_changeK T N I C SC SM) hr (by decide) rfl (pa_cons (pv 0) pa_nil)) (pe_and (pe_cmpR op_geI (pe_ix ix_seq (pv 0) pe_int (fun _ _ => rfl)) (pv 1) (by rfl)) (pe_one (pe_c (ok_is_possibleB C) hr (by decide) rfl (pa_cons (pv 0) (pa_cons (pv 2) pa_nil)))))))), ?_⟩
    cases hx with
    | no h =>
      k_extra "r_S13c"
      refine ⟨x, false, rfl, h, fun H1 S1 => ?_⟩
      k_extra "r_S13c"
      exact k H1 S1
    | @yes z hx g0 nm =>
      k_extra "r_S13c"
      refine ⟨x, true, rfl, hx.chk g0 nm, fun H1 S1 => ?_⟩
      k_extra "r_S13c"
      have hx1 := hx.mono S1
      obtain ⟨t, ys, rfl, ht, hy⟩ := id hx1
      refine q_ixT (SqT.of ht) (at_of (j := 0) rfl rfl) ?_
      k_extra "r_S13c"
      by_cases gz : g ≤ z.1
      · rw [decide_eq_true gz] at k ⊢
        rw [Bool.true_and] at k
        k_extra "r_S13c"
        refine ⟨_, z, d, st, rfl, hx1, S1 _ _ hd, ?_⟩
        exact k H1 S1
      · rw [decide_eq_false gz] at k ⊢
        rw [Bool.false_and] at k
        k_extra "r_S13c"
        exact k H1 S1
/-- what stands behind first and changes, or None -/
inductive SbK (K : PySem.W.Frag) (CS : Addr) (H : Hp) (a b : V) : Option (List Plc) → Prop where
  | first {T : String} : FsK K H a false → Pl K H b T → SbK K CS H a b none
  | kind {T : String} : FsK K H a true → Pl K H b T → T ≠ "list" → SbK K CS H a b none
  | lst {f c : Addr} {xs ts : List V} {ps : List Plc} {o : Option (List Plc)} : a = .ref f → H f = some (.lst xs) → Pls H xs ps → (∀ p ∈ ps, NmP p) → xs.length < 64 → ps.Nodup → b = .ref c → H c = some (.lst ts) → RunK K CS H ts 0 ps o → SbK K CS H a b o
theorem SbK.mono {K : PySem.W.Frag} {CS : Addr} {H H' : Hp} {a b : V} {o : Option (List Plc)} (S : Same H H') (h : SbK K CS H a b o) : SbK K CS H' a b o := by
  cases h with
  | first h p => exact .first (h.mono S) (p.mono S)
  | kind h p n => exact .kind (h.mono S) (p.mono S) n
  | lst e h p n z d e2 h2 r => exact .lst e (S _ _ h) (p.mono S) n z d e2 (S _ _ h2) (r.mono S)
def spSBK (K : PySem.W.Frag) (CS : Addr) : Sp := fun vs H Q _ => ∃ a b o, vs = [a, b] ∧ SbK K CS H a b o ∧ (o = none → ∀ H', Same H H' → Q .non H') ∧ ∀ st D H', o = some st → H D = none → Same H H' → H' D = some (.dT (stK st)) → Q (.ref D) H'
theorem ok__standing_behindK (T : Txt K mg) (N : TxtN K mg) (I : TxtI K mg) (C : TxtC13 K mg) (S : TxtS13 K mg) (SC : StoryC K mg CS) (SM : StoryM K CS) : Cal P w K mg base 5 "_standing_behind" (spSBK K CS) := by
  refine S.d_sb.cal sc__standing_behind (fun vs H Q E h => ?_) (fun fn cdv A outer s H vs Q E hr h => ?_)
  · obtain ⟨a, b, o, rfl, _⟩ := h
    rfl
  · obtain ⟨a, b, o, rfl, hs, kN, kY⟩ := h
    have hu := hr.units
    refine ⟨_, (pss_cons (ps_if (pt_not (PW.pt (pw_and (pt_val (pe_c (ok_is_place_listK T N I C) hr (by decide) rfl (pa_cons (pv 0) pa_nil))) (pw_and1 (pt_val (pe_callB call_isi (by rfl) T.n_isinstance (by decide +kernel) (pa_cons (pv 1) (pa_cons (pe_bltn (v := .ty "list") (by rfl) T.n_list (by decide +kernel) rfl) pa_nil)))))))) (pss_one (ps_ret pe_non)) pss_nil)
      (C8.pss_cut (DT.ps_setDcT (i := 2) (own := [("place", 5)]) (g := gName 5) (tt := tYes) (tk := tVar 5) (tv := tC (.bl true)) rfl rfl (DT.swD_true rfl rfl rfl (by decide +kernel)) rfl (lt2 hu) sc__standing_behind.nd (pi_list (pv 0)) (blkOk_by (own := [("place", 5)]) (N := ["first", "changes", "standing", "gap", "change", "place"]) (sc := defScope s__standing_behind) (by decide +kernel)) (fun _ _ _ _ _ => pg_name (i := 5) sc__standing_behind.nd rfl (Or.inl rfl)) (fun _ _ _ _ _ => pts_nil) (fun _ _ _ _ _ => pv 5) (fun _ _ _ _ _ => pe_bl))
      (pss_cons (ps_set (i := 3) sc__standing_behind.nd rfl (.inl rfl) pe_int)
      (pss_cons (ps_for PassesOwn.never rfl (pi_list (pv 1)) (pg_name (i := 4) sc__standing_behind.nd rfl (.inl rfl))
        (pss_cons (ps_if (pt_not (pt_val (pe_c (ok_may_comeK T N I C S SC SM) hr (by decide) rfl (pa_cons (pv 4) (pa_cons (pv 3) (pa_cons (pv 2) pa_nil)))))) (pss_one (ps_ret pe_non)) pss_nil)
          (pss_cons (ps_expr (pe_c (ok_carry_out C) hr (by decide) rfl (pa_cons (pv 4) (pa_cons (pv 2) pa_nil))))
          (pss_one (ps_set (i := 3) sc__standing_behind.nd rfl (.inl rfl) (pe_ix ix_seq (pv 4) pe_int (fun _ _ => rfl)))))))
      (pss_one (ps_ret (pv 2))))))), ?_⟩
    cases hs with
    | first h p =>
      k_extra "r_S13c"
      refine ⟨a, false, rfl, h, fun H1 S1 => ?_⟩
      k_extra "r_S13c"
      refine s_if1 rfl ?_
      k_extra "r_S13c"
      exact kN rfl H1 S1
    | kind h p n =>
      k_extra "r_S13c"
      refine ⟨a, true, rfl, h, fun H1 S1 => ?_⟩
      k_extra "r_S13c"
      refine q_isi (p.mono S1) .lst ?_
      rw [show subKd _ "list" = false by cases p.2 <;> first | rfl | exact absurd rfl n]
      k_extra "r_S13c"
      refine s_if1 rfl ?_
      k_extra "r_S13c"
      exact kN rfl H1 S1
    | @lst f c xs ts ps o ea hf pl nm hz nd eb hc run =>
      subst ea eb
      k_extra "r_S13c"
      refine ⟨.ref f, true, rfl, (decide_eq_true nd) ▸ FsK.lst rfl hf hz pl nm, fun H1 S1 => ?_⟩
      k_extra "r_S13c"
      refine q_isi (Pl.lst (S1 _ _ hc)) .lst ?_
      k_extra "r_S13c"
      refine s_if0 rfl ?_
      k_extra "r_S13c"
      refine q_cut8 (M := fun σ H' => ∃ D, σ = [some (.ref f), some (.ref c), some (.ref D), none, none, none] ∧ H1 D = none ∧ Same H1 H' ∧ H' D = some (.dT (stK ps))) ?_ ?_
      · refine DT.s_dcT ?_
        k_extra "r_S13c"
        refine ⟨f, rfl, ⟨_, SqL.of (S1 _ _ hf)⟩, fun D nD => DT.dc_listT (K := K) (a := f) (xs := xs) (fun i H' => Same H1 H' ∧ H' D = some (.dT (stK (ps.take i)))) ⟨Same.new nD, upd_same⟩ (fun i H' _ h => SqL.of (h.1 _ _ (S1 _ _ hf))) ?_ ?_⟩
        · rintro j x H2 hj ⟨S2, h2⟩
          obtain ⟨q, eq, b, rfl, hb⟩ := pl.get2 hj
          have lt := (List.getElem?_eq_some_iff.mp hj).1
          k_extra "r_S13c"
          refine ⟨rfl, ?_⟩
          k_extra "r_S13c"
          refine ⟨b, keyOf q, _, rfl, (S1.trans S2) _ _ hb, h2, szlt (by rw [stK_len, List.length_take]; omega), same_mut S2 nD, ?_⟩
          rw [upd_same, putK_stK (nd_next nd eq), List.take_add_one, eq]
          rfl
        · rintro H2 ⟨S2, h2⟩
          rw [List.take_of_length_le (Nat.le_of_eq pl.len.symm)] at h2
          k_extra "r_S13c"
          exact ⟨D, rfl, nD, S2, h2⟩
      rintro σ H2 ⟨D, rfl, nD, S2, hD⟩
      k_extra "r_S13c"
      have hc2 := (S1.trans S2) _ _ hc
      refine ⟨c, rfl, ⟨_, SqL.of hc2⟩, q_forL (K := K) (a := c) (xs := ts) (fun i σ H' => ∃ v4 g st, σ = [some (.ref f), some (.ref c), some (.ref D), some (.int g), v4, none] ∧ Same H1 H' ∧ H' D = some (.dT (stK st)) ∧ RunK K CS H (ts.drop i) g st o) ⟨_, _, _, rfl, S2, hD, run⟩ (fun i σ H' _ ⟨_, _, _, _, S, _⟩ => SqL.of (S _ _ (S1 _ _ hc))) ?_ ?_⟩
      · rintro i x σ H3 hx ⟨v4, g, st, rfl, S3, h3, rn⟩
        have ed : ts.drop i = x :: ts.drop (i + 1) := by
          obtain ⟨lt, e⟩ := List.getElem?_eq_some_iff.mp hx
          rw [List.drop_eq_getElem_cons lt, e]
        rw [ed] at rn
        have S03 := S1.trans S3
        k_extra "r_S13c"
        cases rn with
        | bad m =>
          refine ⟨x, _, D, _, false, rfl, m.mono S03, h3, fun H4 S4 => ?_⟩
          k_extra "r_S13c"
          refine s_if1 rfl ?_
          k_extra "r_S13c"
          exact kN rfl H4 (S03.trans S4)
        | @step _ _ _ _ z _ hz' g0 nmz gz can l9 rn =>
          have hx3 := hz'.mono S03
          refine ⟨x, _, D, _, true, rfl, ?_, h3, fun H4 S4 => ?_⟩
          · have := MayK.yes (K := K) (CS := CS) (g := g) (st := st) hx3 g0 nmz
            rw [decide_eq_true gz, canB_iff.mpr can] at this
            exact this
          k_extra "r_S13c"
          refine s_if0 rfl ?_
          k_extra "r_S13c"
          refine ⟨x, z, D, _, rfl, hx3.mono S4, S4 _ _ h3, by omega, can, fun H5 h5 b5 => ?_⟩
          obtain ⟨t, ys, rfl, ht, _⟩ := hx3.mono S4
          have tD : t ≠ D := fun e => by rw [e, S4 _ _ h3] at ht; cases ht
          k_extra "r_S13c"
          refine q_ixT (SqT.of (b5 _ _ tD ht)) (at_of (j := 0) rfl rfl) ?_
          k_extra "r_S13c"
          exact ⟨_, _, _, rfl, same_but (S3.trans S4) nD b5, h5, rn⟩
      · rintro σ H3 ⟨v4, g, st, rfl, S3, h3, rn⟩
        rw [List.drop_length] at rn
        cases rn
        k_extra "r_S13c"
        exact kY st D H3 rfl (S1.free nD) (S1.trans S3) h3
end
end Bt
namespace Bt
open PySem PySem.Spec PyProof.Rows L2 LamX NdefX
open PySem.W (dataLt dataLe alike AllAlike Sortable)
theorem words96_ : True := by
  k_with "s_T13c" => first
    | ((with_reducible refine' s_var ?hv ?_); (case hv => exact rfl))
    | with_reducible first
      | refine' s_c ?_ | refine' s_op ?_ | refine' s_asg ?_ | refine' s_gname ?_ | refine' s_seq ?_ | refine' s_next ?_ | refine' s_ret ?_ | refine' s_ifS ?_ | refine' s_drop ?_ | refine' s_retN ?_ | refine' s_test ?_ | refine' s_B ?_ | refine' q_test ?_ | refine' s_int ?_ | refine' s_cons ?_ | refine' s_nil ?_ | refine' s_call ?_ | refine' s_CB ?_ | refine' s_andT ?_ | refine' s_orT ?_ | refine' s_notT ?_ | refine' s_andV ?_ | refine' s_orV ?_ | refine' s_notV ?_ | refine' s_ifV ?_ | refine' s_chain ?_ | refine' s_sl ?_ | refine' s_noPart ?_ | refine' s_part ?_ | refine' s_gsub ?_ | refine' s_BM ?_ | refine' s_tup ?_ | refine' s_lst ?_ | refine' q_add ?_ | refine' q_sub ?_ | refine' q_lt ?_ | refine' q_le ?_ | refine' q_gt ?_ | refine' q_ge ?_ | refine' s_ifT ?_ | refine' s_ifF ?_ | refine' s_yes ?_ | refine' s_iStr ?_ | refine' s_M0 ?_ | refine' s_for ?_ | refine' s_rng1 ?_ | refine' s_par ?_ | refine' s_gcons ?_ | refine' s_gnil ?_ | refine' s_iList ?_ | refine' s_iEnum ?_ | refine' s_raise1 ?_
      | (refine' q_mod ?hm ?_; (case hm => first | omega | decide))
    | dsimp only
  k_with "r_T13c" => repeat (k_extra "s_T13c")
  trivial
/-! ### story += change, story.at(k) -/
theorem s_tru {K : PySem.W.Frag} {ta : TE} {σ : L2.St} {H : Hp} {Q : Bool → Hp → Prop} (h : ta σ H fun x H' => ∃ k, TruV K x H' k ∧ Q k H') : (fun σ H Q => ta σ H fun x H' => ∃ k, TruV K x H' k ∧ Q k H') σ H Q := h
section
variable {P : Program} {w : World} {K : PySem.W.Frag} {mg : Str → Option Value} {base : Heap} {CS CI : Addr}
def spIadd (CS : Addr) : Sp := fun vs H Q _ => ∃ x f c d ps zs st y z, vs = [.ref x, y] ∧ StoAt CS H x f c d ps zs st ∧ ChAt H y z ∧ lastG 0 zs ≤ z.1 ∧ 0 ≤ z.1 ∧ (∀ p ∈ z.2.pcs, NmP p) ∧ Can st z.2 ∧ st.length < 90 ∧ zs.length < 1000 ∧
  ∀ H', StoAt CS H' x f c d ps (zs ++ [z]) (mkC st z.2) → (∀ b o, b ≠ c → b ≠ d → H b = some o → H' b = some o) → Q (.ref x) H'
theorem ok_story_iadd {f : Addr} {fd : FuncData} (T : Txt K mg) (N : TxtN K mg) (I : TxtI K mg) (C : TxtC13 K mg) (S : TxtS13 K mg) (SC : StoryC K mg CS) (F : Fun K "__iadd__" "Story.__iadd__" s_Story___iadd__ f fd) : FnOk P w K mg base CX0 5 f fd ["self", "other"] (spIadd CS) := by
  refine F.ok sc_Story___iadd__ (fun vs H Q E h => ?_) (fun cdv A outer s H vs Q E hr h => ?_)
  · obtain ⟨x, f, c, d, ps, zs, st, y, z, rfl, _⟩ := h
    rfl
  · obtain ⟨x, f, c, d, ps, zs, st, y, z, rfl, hs, hy, hg, g0, nm, can, l9, lz, k⟩ := h
    refine ⟨_, (C8.pss_cut (ps_set (i := 2) sc_Story___iadd__.nd rfl (.inl rfl) (pe_ifExp (pt_truth (pe_fld (pv 0) rfl) (fun _ => rfl)) (pe_ix ix_seq (pe_ix ix_seq (pe_fld (pv 0) rfl) (pe_un un_neg pe_int) (fun _ _ => rfl)) pe_int (fun _ _ => rfl)) pe_int))
      (pss_cons (ps_if (pt_not (pt_val (pe_c (ok_may_come T N I C S) hr (by decide) rfl (pa_cons (pv 1) (pa_cons (pv 2) (pa_cons (pe_fld (pv 0) rfl) pa_nil)))))) pss_deadA pss_nil)
      (pss_cons (ps_expr (pe_c (ok_carry_out C) hr (by decide) rfl (pa_cons (pv 1) (pa_cons (pe_fld (pv 0) rfl) pa_nil))))
      (pss_cons (ps_expr (pe_bm PySem.F.plainAttrs_list PySem.F.slot_list_append PySem.F.type_list_append mt_append (pe_fld (pv 0) rfl) (pa_cons (pv 1) pa_nil)))
      (pss_one (ps_ret (pv 0))))))), ?_⟩
    obtain ⟨dx, hx⟩ := id hs.hx
    obtain ⟨xs, hf, pl⟩ := id hs.hf
    obtain ⟨ts, hc, cs⟩ := id hs.hc
    have hd := hs.hd
    have lt : ts.length = zs.length := Paired.length cs
    have fld1 : ∀ {σ : L2.St} {H : Hp} {Q : VK}, σ[0]? = some (some (V.ref x)) → H x = some (.ins CS dx (stF f c d)) → Q (.ref c) H → tFld K (tVar 0) "_changes" σ H Q := fun e h q => s_fld (s_var e ⟨x, CS, dx, _, .ref c, rfl, h, SC.cl, SC.n2, lk_changes _ _ _, q⟩)
    have fld2 : ∀ {σ : L2.St} {H : Hp} {Q : VK}, σ[0]? = some (some (V.ref x)) → H x = some (.ins CS dx (stF f c d)) → Q (.ref d) H → tFld K (tVar 0) "_last" σ H Q := fun e h q => s_fld (s_var e ⟨x, CS, dx, _, .ref d, rfl, h, SC.cl, SC.n3, lk_last _ _ _, q⟩)
    refine q_cut8 (M := fun σ H' => σ = [some (.ref x), some y, some (.int (lastG 0 zs))] ∧ Same H H') ?_ ?_
    · k_extra "r_T13c"
      refine fld1 rfl hx ?_
      refine ⟨!ts.isEmpty, .inl ⟨ts, SqL.of hc, rfl⟩, ?_⟩
      by_cases e : zs = []
      · subst e
        cases cs
        refine s_if0 rfl ?_
        k_extra "r_T13c"
        exact ⟨rfl, Same.refl H⟩
      · have et : ts ≠ [] := fun z => e (List.length_eq_zero_iff.mp (by rw [← lt, z]; rfl))
        refine s_if1 (by cases ts with | nil => exact absurd rfl et | cons _ _ => rfl) ?_
        k_extra "r_T13c"
        refine fld1 rfl hx ?_
        k_extra "r_T13c"
        refine ⟨_, rfl, ?_⟩
        obtain ⟨t0, t, rfl⟩ : ∃ t0 t, ts = t0 ++ [t] := ⟨ts.dropLast, ts.getLast et, (List.dropLast_concat_getLast et).symm⟩
        refine q_ixL (SqL.of hc) (atI_last _ _) ?_
        obtain ⟨z', ez', hz'⟩ := Paired.get cs (i := t0.length) (x := t) (by simp)
        obtain ⟨b, us, rfl, hb, _⟩ := hz'
        k_extra "r_T13c"
        refine q_ixT (SqT.of hb) (at_of (j := 0) rfl rfl) ?_
        k_extra "r_T13c"
        refine ⟨?_, Same.refl H⟩
        have : lastG 0 zs = z'.1 := by
          have := lastG_next 0 ez'
          rwa [List.take_of_length_le (by rw [← lt]; simp)] at this
        rw [this]
        rfl
    rintro σ H1 ⟨rfl, S1⟩
    k_extra "r_T13c"
    refine fld2 rfl (S1 _ _ hx) ?_
    k_extra "r_T13c"
    refine ⟨y, z, _, d, st, rfl, hy.mono S1, g0, hg, nm, S1 _ _ hd, can, fun H2 S2 => ?_⟩
    have T2 := S1.trans S2
    k_extra "r_T13c"
    refine s_if0 rfl ?_
    k_extra "r_T13c"
    refine fld2 rfl (T2 _ _ hx) ?_
    k_extra "r_T13c"
    refine ⟨y, z, d, st, rfl, hy.mono T2, T2 _ _ hd, by omega, can, fun H3 h3 b3 => ?_⟩
    have xd : x ≠ d := fun e => by rw [e, hd] at hx; cases hx
    have cd : c ≠ d := fun e => by rw [e, hd] at hc; cases hc
    have fd' : f ≠ d := fun e => by rw [e, hd] at hf; cases hf
    have xc : x ≠ c := fun e => by rw [e, hc] at hx; cases hx
    have hx3 := b3 _ _ xd (T2 _ _ hx)
    have hc3 := b3 _ _ cd (T2 _ _ hc)
    k_extra "r_T13c"
    refine fld1 rfl hx3 ?_
    k_extra "r_T13c"
    refine ⟨.inl ⟨rfl, _, SqL.of hc3⟩, ?_⟩
    k_extra "r_T13c"
    refine q_append hc3 (szlt (by omega)) fun H4 b4 h4 => ?_
    k_extra "r_T13c"
    have T03 : TupK H H3 := (TupK.of T2).trans (TupK.but (T2 _ _ hd) (fun _ z => by cases z) b3)
    have T04 : TupK H H4 := T03.trans (TupK.but hc3 (fun _ z => by cases z) b4)
    refine k H4 ⟨⟨dx, b4 _ _ xc hx3⟩, ⟨xs, b4 _ _ hs.ne (b3 _ _ fd' (T2 _ _ hf)), pl.tk T04⟩, ⟨_, h4, (cs.tk T04).snoc (hy.tk T04)⟩, b4 _ _ cd.symm h3, hs.ne⟩ fun b o n1 n2 e => b4 _ _ n1 (b3 _ _ n2 (T2 _ _ e))
end
end Bt
namespace Bt
open PySem PySem.Spec PyProof.Rows L2 LamX NdefX
open PySem.W (dataLt dataLe alike AllAlike Sortable)
theorem words97_ : True := by
  k_with "s_T13d" => first
    | ((with_reducible refine' s_var ?hv ?_); (case hv => exact rfl))
    | with_reducible first
      | refine' s_c ?_ | refine' s_op ?_ | refine' s_asg ?_ | refine' s_gname ?_ | refine' s_seq ?_ | refine' s_next ?_ | refine' s_ret ?_ | refine' s_ifS ?_ | refine' s_drop ?_ | refine' s_retN ?_ | refine' s_test ?_ | refine' s_B ?_ | refine' q_test ?_ | refine' s_int ?_ | refine' s_cons ?_ | refine' s_nil ?_ | refine' s_call ?_ | refine' s_CB ?_ | refine' s_andT ?_ | refine' s_orT ?_ | refine' s_notT ?_ | refine' s_andV ?_ | refine' s_orV ?_ | refine' s_notV ?_ | refine' s_ifV ?_ | refine' s_chain ?_ | refine' s_sl ?_ | refine' s_noPart ?_ | refine' s_part ?_ | refine' s_gsub ?_ | refine' s_BM ?_ | refine' s_tup ?_ | refine' s_lst ?_ | refine' q_add ?_ | refine' q_sub ?_ | refine' q_lt ?_ | refine' q_le ?_ | refine' q_gt ?_ | refine' q_ge ?_ | refine' s_ifT ?_ | refine' s_ifF ?_ | refine' s_yes ?_ | refine' s_iStr ?_ | refine' s_M0 ?_ | refine' s_for ?_ | refine' s_rng1 ?_ | refine' s_par ?_ | refine' s_gcons ?_ | refine' s_gnil ?_ | refine' s_iList ?_ | refine' s_iEnum ?_ | refine' s_raise1 ?_
      | (refine' q_mod ?hm ?_; (case hm => first | omega | decide))
    | dsimp only
  k_with "r_T13d" => repeat (k_extra "s_T13d")
  trivial
/-! ### story.at(k) -/
theorem Can.perm {ps qs : List Plc} (h : ps.Perm qs) {c : Ch} (k : Can ps c) : Can qs c := ⟨fun p e => h.mem_iff.mp (k.1 p e), fun q e m => k.2 q e (h.mem_iff.mpr m)⟩
theorem mkC_perm {ps qs : List Plc} (h : ps.Perm qs) (c : Ch) : (mkC ps c).Perm (mkC qs c) := by
  unfold mkC
  refine List.Perm.append_right _ ?_
  cases c.gs with
  | none => exact h
  | some p => exact h.filter _
theorem Run.perm : ∀ {zs : List GC} {ps qs : List Plc} {g : Int}, ps.Perm qs → Run ps g zs → Run qs g zs
  | [], _, _, _, _, _ => trivial
  | z :: zs, ps, qs, g, h, ⟨h1, h2, h3, h4, h5⟩ => ⟨h1, h2.perm h, h3, by rw [← h.length_eq]; exact h4, Run.perm (mkC_perm h z.2) h5⟩
theorem runC_perm : ∀ (zs : List GC) {ps qs : List Plc}, ps.Perm qs → (runC ps zs).Perm (runC qs zs)
  | [], _, _, h => h
  | z :: zs, _, _, h => runC_perm zs (mkC_perm h z.2)
theorem Run.low : ∀ {zs : List GC} {st : List Plc} {g : Int}, Run st g zs → ∀ z ∈ zs, g ≤ z.1
  | y :: zs, st, g, ⟨h1, h2, h3, h4, h5⟩, z, m => by
    rcases List.mem_cons.mp m with rfl | m
    · exact h1
    · exact Int.le_trans h1 (Run.low h5 z m)
theorem Run.le : ∀ {zs : List GC} {st : List Plc} {g : Int}, Run st g zs → ∀ {i : Nat} {z : GC}, zs[i]? = some z → ∀ y ∈ zs.take i, y.1 ≤ z.1
  | [], _, _, _, i, z, e, _, _ => by simp at e
  | y :: zs, st, g, ⟨h1, h2, h3, h4, h5⟩, 0, z, e, u, m => by simp at m
  | y :: zs, st, g, ⟨h1, h2, h3, h4, h5⟩, i + 1, z, e, u, m => by
    rw [List.take_succ_cons] at m
    have e' : zs[i]? = some z := by simpa using e
    rcases List.mem_cons.mp m with rfl | m
    · exact Run.low h5 z (List.mem_of_getElem? e')
    · exact Run.le h5 e' u m
/-- the changes in gaps less than k -/
def before (k : Int) (zs : List GC) : List GC := zs.filter fun z => decide (z.1 < k)
theorem before_take {zs : List GC} {st : List Plc} {g k : Int} (h : Run st g zs) {i : Nat} {z : GC} (e : zs[i]? = some z) (lt : z.1 < k) : before k (zs.take i) = zs.take i :=
  List.filter_eq_self.mpr fun y m => decide_eq_true (Int.lt_of_le_of_lt (h.le e y m) lt)
theorem before_next (k : Int) {zs : List GC} {i : Nat} {z : GC} (e : zs[i]? = some z) : before k (zs.take (i + 1)) = before k (zs.take i) ++ (if z.1 < k then [z] else []) := by
  unfold before
  rw [List.take_add_one, e, List.filter_append]
  by_cases h : z.1 < k
  · simp [h]
  · simp [h]
theorem q_sortPK {K : PySem.W.Frag} {H : Hp} {Q : VK} {a : Addr} {st : List Plc} (ha : H a = some (.dT (stK st))) (q : ∀ p H' ys, H p = none → Same H H' → H' p = some (.lst ys) → Pls H' ys (st.mergeSort pLe) → Q (.ref p) H') : DT.rSortKT K [.ref a] H Q := by
  have e0 : (stK st).map (fun p => DT.keyD p.1) = st.map dPl := by
    unfold stK
    rw [List.map_map]
    rfl
  refine DT.q_sortKT ha (fun p hp => ?_) ?_ ?_ fun zs p H' e1 e2 np S hp => ?_
  · obtain ⟨y, _, rfl⟩ := List.mem_map.mp hp
    show (dPl y).depth ≤ 60
    simp [dPl, PyData.depth, PyData.depthAll]
  · rw [e0]
    exact AllAlike.of fun b b' => by simp [dPl, alike, PySem.W.alikeAll]
  · rw [e0]
    exact Sortable.tuples fun b => ⟨_, _, rfl⟩
  · have e3 : zs.map (·.2) = st.map keyOf := by
      rw [e1]
      unfold stK
      rw [List.map_map]
      rfl
    obtain ⟨prs, rfl, e4⟩ : ∃ prs : List (Addr × Plc), zs = prs.map (fun z => (z.1, keyOf z.2)) ∧ prs.map (·.2) = st := by
      clear hp e1 e0 q ha e2
      induction zs generalizing st with
      | nil =>
        cases st with
        | nil => exact ⟨[], rfl, rfl⟩
        | cons _ _ => cases e3
      | cons z zs ih =>
        cases st with
        | nil => cases e3
        | cons p st =>
          injection e3 with h1 h2
          obtain ⟨prs, rfl, rfl⟩ := ih h2
          exact ⟨(z.1, p) :: prs, by rw [List.map_cons, ← h1], rfl⟩
    have m1 : (prs.map fun z => ((z.1, keyOf z.2) : DT.KA)).mergeSort DT.kaLe = (prs.mergeSort (dataLe false fun z : Addr × Plc => dPl z.2)).map fun z => (z.1, keyOf z.2) :=
      (List.map_mergeSort (f := fun z : Addr × Plc => ((z.1, keyOf z.2) : DT.KA)) (r := dataLe false fun z : Addr × Plc => dPl z.2) (s := DT.kaLe) fun _ _ _ _ => rfl).symm
    have m2 : (prs.mergeSort (dataLe false fun z : Addr × Plc => dPl z.2)).map (·.2) = (prs.map (·.2)).mergeSort pLe :=
      List.map_mergeSort (f := fun z : Addr × Plc => z.2) (r := dataLe false fun z : Addr × Plc => dPl z.2) (s := pLe) fun _ _ _ _ => rfl
    rw [m1, List.map_map] at hp
    refine q p H' _ np S hp ?_
    rw [← e4, ← m2]
    generalize hL : prs.mergeSort (dataLe false fun z : Addr × Plc => dPl z.2) = L
    have mem : ∀ z ∈ L, H' z.1 = some (.tup [.str z.2.1, .str z.2.2]) := fun z mz => S _ _ (e2 (z.1, keyOf z.2) (List.mem_map.mpr ⟨z, by rw [← hL] at mz; exact List.mem_mergeSort.mp mz, rfl⟩))
    clear hL m1 m2 hp
    induction L with
    | nil => exact .nil
    | cons z L ih => exact .cons ⟨z.1, rfl, mem z List.mem_cons_self⟩ (ih fun y my => mem y (List.mem_cons_of_mem _ my))
section
variable {P : Program} {w : World} {K : PySem.W.Frag} {mg : Str → Option Value} {base : Heap} {CS CI : Addr}
def spCL0 : Sp := fun vs H Q _ => ∃ i m : Int, vs = [.int i, .int m] ∧ m ≤ i ∧ Q .non H
theorem ok_check_least0 (T : Txt K mg) (S : TxtS13 K mg) : Cal P w K mg base 2 "check_least" spCL0 := by
  refine S.d_cl.cal sc_check_least (fun vs H Q E h => ?_) (fun f cdv A outer s H vs Q E hr h => ?_)
  · obtain ⟨i, m, rfl, _⟩ := h
    rfl
  · obtain ⟨i, m, rfl, hm, k⟩ := h
    refine ⟨_, (pss_one (ps_if (pt_not (PW.pt (pw_and (pt_val (pe_c (ok_is_whole T) hr (by decide) rfl (pa_cons (pv 0) pa_nil))) (pw_and1 (pt_cmpR op_geI (pv 0) (pv 1) (by rfl)))))) pss_deadA pss_nil)), ?_⟩
    k_extra "r_T13d"
    refine ⟨.int i, "int", rfl, Pl.int, ?_⟩
    k_extra "r_T13d"
    refine s_if1 rfl ?_
    k_extra "r_T13d"
    refine s_ifND (fun _ => ?_) (fun e => absurd hm e)
    exact k
/-- at of no moment: InvalidNumber -/
def spAtX (K : PySem.W.Frag) (CI : Addr) : Sp := fun vs H Q E => ∃ x v T, vs = [.ref x, v] ∧ Pl K H v T ∧ (∀ i, v = .int i → ¬ 0 ≤ i) ∧ ∀ H' d, Same H H' → H d = none → H' d = some (.xd [("value", v)]) → E (.ref CI) (some d) H'
theorem ok_story_atX {f : Addr} {fd : FuncData} (T : Txt K mg) (S : TxtS13 K mg) (XN : ExcF K mg "InvalidNumber" "value" CI) (F : Fun K "at" "Story.at" s_Story_at f fd) : FnOk P w K mg base (L2.CX P w) 4 f fd ["self", "k"] (spAtX K CI) := by
  refine F.okX sc_Story_at (fun vs H Q E h => ?_) (fun cdv A outer s H vs Q E hr h => ?_)
  · obtain ⟨x, v, T, rfl, _⟩ := h
    rfl
  · obtain ⟨x, v, ty, rfl, hv, no, kk⟩ := h
    refine ⟨_, (pss_cons (ps_expr (pe_cxS (ok_check_least T S XN) hr (by decide) (takes_of rfl rfl rfl rfl) rfl (pa_cons (pv 1) (pa_cons pe_int pa_nil)))) pss_deadA), ?_⟩
    k_extra "r_T13d"
    refine s_callSD ?_
    k_extra "r_T13d"
    refine ⟨v, ty, 0, rfl, hv, .inr ⟨no, fun H1 d1 S1 n1 h1 => ?_⟩⟩
    k_extra "r_T13d"
    exact kk H1 d1 S1 n1 h1
def spAt (CS : Addr) : Sp := fun vs H Q _ => ∃ x f c d ps zs st k, vs = [.ref x, .int k] ∧ StoAt CS H x f c d ps zs st ∧ 0 ≤ k ∧ ps.Nodup ∧ ps.length < 64 ∧ Run ps 0 zs ∧ ∀ D H' ys, H D = none → Same H H' → H' D = some (.lst ys) → Pls H' ys ((runC ps (before k zs)).mergeSort pLe) → Q (.ref D) H'
theorem ok_story_at {f : Addr} {fd : FuncData} (T : Txt K mg) (N : TxtN K mg) (I : TxtI K mg) (C : TxtC13 K mg) (S : TxtS13 K mg) (SC : StoryC K mg CS) (F : Fun K "at" "Story.at" s_Story_at f fd) : FnOk P w K mg base CX0 3 f fd ["self", "k"] (spAt CS) := by
  refine F.ok sc_Story_at (fun vs H Q E h => ?_) (fun cdv A outer s H vs Q E hr h => ?_)
  · obtain ⟨x, f, c, d, ps, zs, st, k, rfl, _⟩ := h
    rfl
  · obtain ⟨x, f, c, d, ps, zs, st, k, rfl, hs, k0, nd, lp, run, kk⟩ := h
    have hu := hr.units
    refine ⟨_, (pss_cons (ps_expr (pe_c (ok_check_least0 T S) hr (by decide) rfl (pa_cons (pv 1) (pa_cons pe_int pa_nil))))
      (C8.pss_cut (DT.ps_setDcT (i := 2) (own := [("place", 4)]) (g := gName 4) (tt := tYes) (tk := tVar 4) (tv := tC (.bl true)) rfl rfl (DT.swD_true rfl rfl rfl (by decide +kernel)) rfl (lt2 hu) sc_Story_at.nd (pi_list (pe_fld (pv 0) rfl)) (blkOk_by (own := [("place", 4)]) (N := ["self", "k", "standing", "change", "place"]) (sc := defScope s_Story_at) (by decide +kernel)) (fun _ _ _ _ _ => pg_name (i := 4) sc_Story_at.nd rfl (Or.inl rfl)) (fun _ _ _ _ _ => pts_nil) (fun _ _ _ _ _ => pv 4) (fun _ _ _ _ _ => pe_bl))
      (pss_cons (ps_for PassesOwn.never rfl (pi_list (pe_fld (pv 0) rfl)) (pg_name (i := 3) sc_Story_at.nd rfl (.inl rfl))
        (pss_one (ps_if (pt_cmpR op_ltI (pe_ix ix_seq (pv 3) pe_int (fun _ _ => rfl)) (pv 1) (by rfl)) (pss_one (ps_expr (pe_c (ok_carry_out C) hr (by decide) rfl (pa_cons (pv 3) (pa_cons (pv 2) pa_nil))))) pss_nil)))
      (pss_one (ps_ret (pe_callB (DT.cr_sortKT rfl hu) (by rfl) T.n_sorted (by decide +kernel) (pa_cons (pv 2) pa_nil))))))), ?_⟩
    obtain ⟨dx, hx⟩ := id hs.hx
    obtain ⟨xs, hf, pl⟩ := id hs.hf
    obtain ⟨ts, hc, cs⟩ := id hs.hc
    have lx : xs.length = ps.length := pl.len
    k_extra "r_T13d"
    refine ⟨k, 0, rfl, k0, ?_⟩
    have S1 := Same.refl H
    k_extra "r_T13d"
    refine q_cut8 (M := fun σ H' => ∃ D, σ = [some (.ref x), some (.int k), some (.ref D), none, none] ∧ H D = none ∧ Same H H' ∧ H' D = some (.dT (stK ps))) ?_ ?_
    · refine DT.s_dcT ?_
      k_extra "r_T13d"
      refine s_fld ?_
      k_extra "r_T13d"
      refine ⟨x, CS, dx, _, .ref f, rfl, S1 _ _ hx, SC.cl, SC.n1, lk_first _ _ _, ?_⟩
      refine ⟨f, rfl, ⟨_, SqL.of (S1 _ _ hf)⟩, fun D nD => DT.dc_listT (K := K) (a := f) (xs := xs) (fun i H' => Same H H' ∧ H' D = some (.dT (stK (ps.take i)))) ⟨Same.new nD, upd_same⟩ (fun i H' _ h => SqL.of (h.1 _ _ (S1 _ _ hf))) ?_ ?_⟩
      · rintro j y H2 hj ⟨S2, h2⟩
        obtain ⟨q, eq, b, rfl, hb⟩ := pl.get2 hj
        have lt := (List.getElem?_eq_some_iff.mp hj).1
        k_extra "r_T13d"
        refine ⟨rfl, ?_⟩
        k_extra "r_T13d"
        refine ⟨b, keyOf q, _, rfl, (S1.trans S2) _ _ hb, h2, szlt (by rw [stK_len, List.length_take]; omega), same_mut S2 nD, ?_⟩
        rw [upd_same, putK_stK (nd_next nd eq), List.take_add_one, eq]
        rfl
      · rintro H2 ⟨S2, h2⟩
        rw [List.take_of_length_le (Nat.le_of_eq pl.len.symm)] at h2
        k_extra "r_T13d"
        exact ⟨D, rfl, nD, S2, h2⟩
    rintro σ H2 ⟨D, rfl, nD, S2, hD⟩
    k_extra "r_T13d"
    refine s_fld ?_
    k_extra "r_T13d"
    have T2 := S1.trans S2
    refine ⟨x, CS, dx, _, .ref c, rfl, T2 _ _ hx, SC.cl, SC.n2, lk_changes _ _ _, ?_⟩
    refine ⟨c, rfl, ⟨_, SqL.of (T2 _ _ hc)⟩, q_forL (K := K) (a := c) (xs := ts) (fun i σ H' => ∃ v3, σ = [some (.ref x), some (.int k), some (.ref D), v3, none] ∧ Same H H' ∧ H' D = some (.dT (stK (runC ps (before k (zs.take i)))))) ⟨_, rfl, S2, hD⟩ (fun i σ H' _ ⟨_, _, S, _⟩ => SqL.of (S _ _ (S1 _ _ hc))) ?_ ?_⟩
    · rintro i y σ H3 hy ⟨v3, rfl, S3, h3⟩
      obtain ⟨z, ez, hz'⟩ := Paired.get cs hy
      obtain ⟨g1, g2, can, nmz, l9⟩ := run.get ez
      have hy3 := (hz'.mono S1).mono S3
      obtain ⟨t, ys, rfl, ht, _⟩ := id hy3
      k_extra "r_T13d"
      refine q_ixT (SqT.of ht) (at_of (j := 0) rfl rfl) ?_
      k_extra "r_T13d"
      by_cases lt : z.1 < k
      · rw [before_take run ez lt] at h3
        refine s_if1 (decide_eq_true lt) ?_
        k_extra "r_T13d"
        refine ⟨_, z, D, _, rfl, hy3, h3, by omega, can, fun H4 h4 b4 => ?_⟩
        k_extra "r_T13d"
        refine ⟨_, rfl, same_but S3 nD b4, ?_⟩
        rw [before_next k ez, if_pos lt, before_take run ez lt]
        unfold runC
        rw [List.foldl_append]
        exact h4
      · refine s_if0 (decide_eq_false lt) ?_
        k_extra "r_T13d"
        refine ⟨_, rfl, S3, ?_⟩
        rw [before_next k ez, if_neg lt, List.append_nil]
        exact h3
    · rintro σ H3 ⟨v3, rfl, S3, h3⟩
      have lt : ts.length = zs.length := Paired.length cs
      rw [lt, List.take_of_length_le (Nat.le_refl _)] at h3
      k_extra "r_T13d"
      refine q_sortPK h3 fun p H4 ys np S4 hp pl4 => ?_
      exact kk p H4 ys ((S1.trans S3).free np) (S1.trans (S3.trans S4)) hp pl4
end
end Bt
namespace Bt
open PySem PySem.Spec PyProof.Rows L2
/-! ### C(k = v, ..), no positional argument, C's __init__ may raise; what is raised is wished for at the caller's slots -/
section
variable {X : Cx} {CX : CXT} {k : Nat} {f C : Addr} {fd : FuncData} {ps ks : List Str} {sp : Sp} {E : L2.St → XK} {x : Str} {p pos : Pos} {kws : List Keyword} {tk : TA} {g : List Value → List Value → List Value} {gV : List V → List V → List V}
def tMakeKS (C : Addr) (m : Nat) (sp : Sp) (gV : List V → List V → List V) (E : L2.St → XK) (tk : TA) : TE := fun σ H Q => tk σ H fun zs H2 => zs.length = m ∧ ∀ x dx, H2 x = none → H2 dx = none → dx ≠ x →
  sp (gV [.ref x] zs) (upd (upd H2 dx (.own x)) x (.ins C dx [])) (fun v H3 => v = .non ∧ Q (.ref x) H3) (E σ)
theorem run_makeKS {pins : List (Addr × Obj)} {σ : L2.St} {H : Hp} {s : Shared} {Q : VK} {ws : List Value} {zs : List V} (M : Mk X.K C f) (F : FnOk X.prog X.w X.K X.mg X.base CX k f fd ps sp) (hr : Room (k + 1) X.A) (hb : KBn X.K fd ps 1 ks g gV) (hx : PassesAt CX X σ (E σ))
    (I : Inv X pins σ H s) (rz : Vals zs ws) (l2 : zs.length = ks.length)
    (h : ∀ x dx, H x = none → H dx = none → dx ≠ x → sp (gV [.ref x] zs) (upd (upd H dx (.own x)) x (.ins C dx [])) (fun v H2 => v = .non ∧ Q (.ref x) H2) (E σ)) :
    wpAny (model X.prog X.w) X.A (call (.ref C) [] (ks.zip ws)) (EP X pins σ Q) X.xe s := by
  have hq := h (s.heap.objs.size + 1) s.heap.objs.size (I.hok.fresh (Nat.le_succ _)) (I.hok.fresh (Nat.le_refl _)) (Nat.ne_of_lt (Nat.lt_succ_self _))
  have I2 := Inv.made (C := C) I
  have r1 : Vals [V.ref (s.heap.objs.size + 1)] [Value.ref (s.heap.objs.size + 1)] := .cons rfl .nil
  have r2 := hb.rel r1 rz
  refine wpAny_call (make_map (f := f) I.kIn M.makes M.init (beq_iff_eq.mp M.fn) (codeAny_mono (F.run _ X.stack _ _ ⟨[Value.ref (s.heap.objs.size + 1)], ks.zip ws⟩ (g [Value.ref (s.heap.objs.size + 1)] ws) _ _ (E σ) (hr.make C [] (ks.zip ws))
    (I2.env0.make C [] (ks.zip ws)) (hb.to _ [Value.ref (s.heap.objs.size + 1)] ws I2.kIn rfl (rz.length.symm.trans l2)) r2 hq) fun r s' hq' => ?_))
  cases r with
  | error e => exact hx pins _ _ e s' I2 hq'
  | ok fl =>
    cases fl with
    | ret u =>
      obtain ⟨v, H', I3, rv, ev, q3⟩ := I2.after hq'
      subst ev
      exact ⟨rv, ⟨V.ref (s.heap.objs.size + 1), H', I3, rfl, q3⟩⟩
    | next => exact False.elim hq'
    | brk => exact False.elim hq'
    | cont => exact False.elim hq'
theorem pe_makeK0S (M : Mk X.K C f) (F : FnOk X.prog X.w X.K X.mg X.base CX k f fd ps sp) (hr : Room (k + 1) X.A) (hg : Gl X x) (hm : X.mg x = some (.ref C)) (hb : KBn X.K fd ps 1 ks g gV) (hx : ∀ σ, PassesAt CX X σ (E σ)) (hkw : PK X kws tk)
    (hall : (backToKw pos (keywordEach kws X.env)).all (·.1.isSome) = true := by rfl) (hks : (backToKw pos (keywordEach kws X.env)).filterMap (·.1) = ks := by rfl) (hdb : (x == ("__debug__" : Str)) = false := by decide)
    (hpl : ((backTo pos (starEach [] X.env)).any (·.1) || (backToKw pos (keywordEach kws X.env)).any (·.1.isNone)) = false := by rfl) :
    PE X (.Call (.Name x p) [] kws pos) (tMakeKS C ks.length sp gV E tk) := by
  refine ⟨fun pins s σ H Q I h => ?_⟩
  refine wpAny_Call_Name_kw (ld_glob I hg hm ?_ hdb)
  refine PySem.W.callWith_KW0 (h₀ := X.base) I.ok.mod.kin M.kp hall ?_ hpl
  refine thn (hkw.run pos pins s σ H _ I h) fun ws s2 ⟨zs, H2, I2, rz, l2, q2⟩ => ⟨I2.kIn, ?_⟩
  rw [hks]
  exact run_makeKS M F hr hb (hx σ) I2 rz l2 q2
theorem s_makeKS {m : Nat} {σ : L2.St} {H : Hp} {Q : VK} (h : tk σ H fun zs H2 => zs.length = m ∧ ∀ x dx, H2 x = none → H2 dx = none → dx ≠ x →
  sp (gV [.ref x] zs) (upd (upd H2 dx (.own x)) x (.ins C dx [])) (fun v H3 => v = .non ∧ Q (.ref x) H3) (E σ)) : tMakeKS C m sp gV E tk σ H Q := h
end
end Bt
namespace Bt
open PySem PySem.Spec PyProof.Rows L2
/-! ### o[i], x += v in a try: the own __getitem__, __iadd__ may raise; what is raised is wished for at the caller's slots -/
section
variable {X : Cx} {CX : CXT} {n : Nat} {C f : Addr} {fd : FuncData} {ps : List Str} {sp : Sp} {E : L2.St → XK}
def tIxOwnS (C : Addr) (sp : Sp) (E : L2.St → XK) (to ti : TE) : TE := fun σ H Q => to σ H fun x H1 => ti σ H1 fun y H2 => ∃ a dx fs, x = .ref a ∧ H2 a = some (.ins C dx fs) ∧ sp [x, y] H2 Q (E σ)
theorem pe_ixOwnS {o i : Expr} {pos : Pos} {to ti : TE} (ho : PE X o to) (hi : PE X i ti) (F : FnOk X.prog X.w X.K X.mg X.base CX n f fd ps sp) (hr : Room (n + 1) X.A) (hs : PySem.W.findIn X.K (.ref C) "__getitem__" = some (some (.ref f))) (hf : PySem.W.isFn X.K (.ref f) = true) (hfi : PySem.W.fnIn X.K f = true)
    (hb : Binds X.K fd ps []) (hx : ∀ σ, PassesAt CX X σ (E σ)) (hn : ∀ a v, subscripted i true (.ref a) v = runValue (.builtin "lifetime.subscript" ⟨[.ref a, v], []⟩) := by intro _ _; rfl) : PE X (.Subscript o i pos) (tIxOwnS C sp E to ti) := by
  refine ⟨fun pins s σ H Q I h => ?_⟩
  refine Subscript_ (thn (ho.run pins s σ H _ I h) fun u s1 ⟨x, H1, I1, rx, q1⟩ => thn (hi.run pins s1 σ H1 _ I1 q1) fun v s2 ⟨y, H2, I2, ry, a, dx, fs, ex, ha, hsp⟩ => ?_)
  subst ex
  cases rx
  obtain ⟨mA, J, _⟩ := ins_get I2.hok ha
  obtain ⟨od, J, _⟩ := J.look
  obtain ⟨m, hF⟩ := I2.fr
  refine PySem.W.sub_K hF I2.ok.mod.kin J hs hfi hf ?_ (hn a v)
  exact own_run F hr.in1 I2.env0.in1 hb I2 (.cons (show RelV (.ref a) (.ref a) from rfl) (.cons ry .nil)) hsp (fun v s' hq => hq) (fun e s' hq => hx σ pins H2 s2 e s' I2 hq)
theorem s_ixOwnS {to ti : TE} {σ : L2.St} {H : Hp} {Q : VK} (h : to σ H fun x H1 => ti σ H1 fun y H2 => ∃ a dx fs, x = .ref a ∧ H2 a = some (.ins C dx fs) ∧ sp [x, y] H2 Q (E σ)) : tIxOwnS C sp E to ti σ H Q := h
def tAugOwnS (i : Nat) (C : Addr) (sp : Sp) (E : L2.St → XK) (te : TE) : TS := fun D σ H => ∃ x, σ[i]? = some (some x) ∧ te σ H fun y H1 => ∃ a dx fs, x = .ref a ∧ H1 a = some (.ins C dx fs) ∧ sp [x, y] H1 (fun v H' => ∃ b, v = .ref b ∧ D.nx (σ.set i (some v)) H') (E σ)
theorem ps_augOwnS {i : Nat} {x : Str} {e : Expr} {te : TE} {pos pos' : Pos} (hN : X.N.Nodup) (hi : X.N[i]? = some x) (hx : Loc X.env.scope x) (he : PE X e te) (F : FnOk X.prog X.w X.K X.mg X.base CX n f fd ps sp) (hr : Room n X.A) (hc : PySem.W.selfFirst X.K C = true) (hs : PySem.W.findIn X.K (.ref C) "__iadd__" = some (some (.ref f))) (hf : PySem.W.isFn X.K (.ref f) = true) (hb : Binds X.K fd ps [])
    (hxx : ∀ σ, PassesAt CX X σ (E σ)) (hfn : X.fn x = true ∨ X.env.scope.names.lookup x = some .local := by first | exact .inl rfl | exact .inr rfl | assumption) :
    PS X (.AugAssign (.Name x pos') .Add e pos) (tAugOwnS i C sp E te) := by
  refine ⟨fun pins s σ H D I h => ?_⟩
  obtain ⟨v, e1, h⟩ := h
  obtain ⟨m, hn, hl⟩ := I.loc
  have vis : Vis X.env.scope x := by rcases hx with k | k; exact .inl k; exact .inr (.inl k)
  obtain ⟨u, r, l⟩ := hl i x v hi e1 vis
  refine wpAny_AugAssign_Name ?_
  have go : wpAny (model X.prog X.w) X.A (eval e X.env) (fun w s₂ => wpAny (model X.prog X.w) X.A (inplaceOp .Add u w) (fun r s₃ => wpAny (model X.prog X.w) X.A (storeName X.env x r) (fun _ => SP X pins D .next) X.xe s₃) X.xe s₂) X.xe s := by
    refine thn (he.run pins s σ H _ I h) fun w s1 ⟨y, H1, I1, r1, a, dx, fs, ex, ha, hsp⟩ => ?_
    subst ex
    cases r
    obtain ⟨mA, J, _⟩ := ins_get I1.hok ha
    obtain ⟨od, J, _⟩ := J.look
    obtain ⟨m', hF⟩ := I1.fr
    refine PySem.W.ksp_inplace hF I1.ok.mod.kin J hc hs hf ?_
    refine own_run F hr I1.env0 hb I1 (.cons (show RelV (.ref a) (.ref a) from rfl) (.cons r1 .nil)) hsp (fun v s' hq => ?_) (fun e s' hq => hxx σ pins H1 s1 e s' I1 hq)
    obtain ⟨z, H2, I2, rz, b, ez, q2⟩ := hq
    subst ez
    cases rz
    exact store_ok I2 hN hi hx (show RelV (.ref b) (.ref b) from rfl) (fun s3 I3 => ⟨_, H2, I3, q2⟩) hfn
  rcases l with ⟨hk, hm⟩ | ⟨hk, c, hc, hcell⟩
  · exact wpAny_loadName_local I.ok.kind hk hn hm go
  · rcases hk with hk | hk
    · exact wpAny_loadName_cell I.ok.kind hk hc hcell go
    · rcases hx with k | k
      · have : X.env.scope.names.lookup x = some .free := hk
        rw [k] at this; cases this
      · have : X.env.scope.names.lookup x = some .free := hk
        rw [k] at this; cases this
theorem s_augOwnS {i : Nat} {te : TE} {D : Ends} {σ : L2.St} {H : Hp} (h : ∃ x, σ[i]? = some (some x) ∧ te σ H fun y H1 => ∃ a dx fs, x = .ref a ∧ H1 a = some (.ins C dx fs) ∧ sp [x, y] H1 (fun v H' => ∃ b, v = .ref b ∧ D.nx (σ.set i (some v)) H') (E σ)) : tAugOwnS i C sp E te D σ H := h
end
end Bt
namespace Bt
open PySem PySem.Spec PyProof.Rows L2 LamX NdefX
open PySem.W (dataLt dataLe alike AllAlike Sortable)
theorem words132_ : True := by
  k_with "s_T13e" => first
    | ((with_reducible refine' s_var ?hv ?_); (case hv => exact rfl))
    | with_reducible first
      | refine' s_c ?_ | refine' s_op ?_ | refine' s_asg ?_ | refine' s_gname ?_ | refine' s_seq ?_ | refine' s_next ?_ | refine' s_ret ?_ | refine' s_ifS ?_ | refine' s_drop ?_ | refine' s_retN ?_ | refine' s_test ?_ | refine' s_B ?_ | refine' q_test ?_ | refine' s_int ?_ | refine' s_cons ?_ | refine' s_nil ?_ | refine' s_call ?_ | refine' s_CB ?_ | refine' s_andT ?_ | refine' s_orT ?_ | refine' s_notT ?_ | refine' s_andV ?_ | refine' s_orV ?_ | refine' s_notV ?_ | refine' s_ifV ?_ | refine' s_chain ?_ | refine' s_sl ?_ | refine' s_noPart ?_ | refine' s_part ?_ | refine' s_gsub ?_ | refine' s_BM ?_ | refine' s_tup ?_ | refine' s_lst ?_ | refine' q_add ?_ | refine' q_sub ?_ | refine' q_lt ?_ | refine' q_le ?_ | refine' q_gt ?_ | refine' q_ge ?_ | refine' s_ifT ?_ | refine' s_ifF ?_ | refine' s_yes ?_ | refine' s_iStr ?_ | refine' s_M0 ?_ | refine' s_for ?_ | refine' s_rng1 ?_ | refine' s_par ?_ | refine' s_gcons ?_ | refine' s_gnil ?_ | refine' s_iList ?_ | refine' s_iEnum ?_ | refine' s_raise1 ?_
      | (refine' q_mod ?hm ?_; (case hm => first | omega | decide))
    | dsimp only
  k_with "r_T13e" => repeat (k_extra "s_T13e")
  trivial
/-! ### Story.__init__, of every kind of value; += -/
/-- what Story refuses -/
def SbN (K : PySem.W.Frag) (CS : Addr) (H : Hp) (a b : V) : Prop := (b = .non ∧ FsK K H a false) ∨ (b ≠ .non ∧ SbK K CS H a b none)
theorem SbN.mono {K : PySem.W.Frag} {CS : Addr} {H H' : Hp} {a b : V} (S : Same H H') : SbN K CS H a b → SbN K CS H' a b
  | .inl ⟨e, h⟩ => .inl ⟨e, h.mono S⟩
  | .inr ⟨e, h⟩ => .inr ⟨e, h.mono S⟩
/-- what Story takes -/
structure SbY (H : Hp) (a b : V) (ps : List Plc) (zs : List GC) : Prop where
  fs : ∃ f xs, a = .ref f ∧ H f = some (.lst xs) ∧ Pls H xs ps ∧ xs.length < 64
  nm : ∀ p ∈ ps, NmP p
  nd : ps.Nodup
  cs : ∃ ts, ((b = .non ∧ ts = []) ∨ ∃ c, b = .ref c ∧ H c = some (.lst ts)) ∧ ChsAt H ts zs
  run : Run ps 0 zs
theorem SbY.mono {H H' : Hp} {a b : V} {ps : List Plc} {zs : List GC} (S : Same H H') (h : SbY H a b ps zs) : SbY H' a b ps zs :=
  ⟨let ⟨f, xs, e, h1, h2, h3⟩ := h.fs; ⟨f, xs, e, S _ _ h1, h2.mono S, h3⟩, h.nm, h.nd, let ⟨ts, h1, h2⟩ := h.cs; ⟨ts, h1.imp id fun ⟨c, e, z⟩ => ⟨c, e, S _ _ z⟩, h2.mono S⟩, h.run⟩
section
variable {P : Program} {w : World} {K : PySem.W.Frag} {mg : Str → Option Value} {base : Heap} {CS CI : Addr}
def spInitK (K : PySem.W.Frag) (CS CI : Addr) : Sp := fun vs H Q E => ∃ p dx a b, vs = [.ref p, a, b] ∧ H p = some (.ins CS dx []) ∧
  ((∃ ps zs, SbY H a b ps zs ∧ ∀ H' f' c' d', StoAt CS H' p f' c' d' (ps.mergeSort pLe) zs (runC ps zs) → H f' = none → H c' = none → H d' = none → But p H H' → Q .non H') ∨
   (SbN K CS H a b ∧ ∀ H' t d, Same H H' → H t = none → H d = none → H' d = some (.xd [("value", .ref t)]) → H' t = some (.tup [a, b]) → E (.ref CI) (some d) H'))
theorem ok_story_initK {f : Addr} {fd : FuncData} (T : Txt K mg) (N : TxtN K mg) (I : TxtI K mg) (C : TxtC13 K mg) (S : TxtS13 K mg) (SC : StoryC K mg CS) (SM : StoryM K CS) (XS : ExcF K mg "InvalidStory" "value" CI)
    (F : FunD K "__init__" "Story.__init__" (defArgs s_Story___init__) (defBody s_Story___init__) (defScope s_Story___init__) [.non] [] f fd) : FnOk P w K mg base (L2.CX P w) 6 f fd ["self", "first", "changes"] (spInitK K CS CI) := by
  refine F.ok sc_Story___init__ (fun vs H Q E h => ?_) (fun cdv A outer s H vs Q E hr h => ?_)
  · obtain ⟨p, dx, a, b, rfl, _⟩ := h
    rfl
  · obtain ⟨p, dx, a, b, rfl, hp, hk⟩ := h
    have hu := hr.units
    refine ⟨_, (C8.pss_cut (ps_set (i := 3) sc_Story___init__.nd rfl (.inl rfl) (pe_ifExp (pt_cmpR op_isNon (pv 2) pe_non (by rfl)) (pe_lst pa_nil) (pv 2)))
      (pss_cons (ps_set (i := 4) sc_Story___init__.nd rfl (.inl rfl) (pe_c (ok__standing_behindK T N I C S SC SM) hr (by decide) rfl (pa_cons (pv 1) (pa_cons (pv 3) pa_nil))))
      (pss_cons (ps_if (pt_cmpR op_isNon (pv 4) pe_non (by rfl)) (pss_one (ps_raise1 rfl XS hr (by decide) (takes_of rfl rfl rfl rfl) (pe_tup (pa_cons (pv 1) (pa_cons (pv 2) pa_nil))))) pss_nil)
      (pss_cons (ps_fld (pv 0) (pe_callB (cr_sortD hu) (by rfl) T.n_sorted (by decide +kernel) (pa_cons (pv 1) pa_nil)) rfl)
      (pss_cons (ps_fld (pv 0) (pe_callTy call_listOf (by rfl) T.n_list (by decide +kernel) (pa_cons (pv 3) pa_nil)) rfl)
      (pss_one (ps_fld (pv 0) (pv 4) rfl))))))), ?_⟩
    rcases hk with ⟨ps, zs, hY, k⟩ | ⟨hN, kk⟩
    · obtain ⟨f, xs, rfl, hf, pl, hz⟩ := hY.fs
      have nm := hY.nm
      have nd := hY.nd
      have run := hY.run
      obtain ⟨ts, hb, cs⟩ := hY.cs
      refine q_cut8 (M := fun σ H' => ∃ c, σ = [some (.ref p), some (.ref f), some b, some (.ref c), none] ∧ c ≠ p ∧ Same H H' ∧ H' c = some (.lst ts)) ?_ ?_
      · k_extra "r_T13e"
        refine q_isNon ?_
        rcases hb with ⟨rfl, rfl⟩ | ⟨c, rfl, hc⟩
        · refine q_test (s_if1 (decide_eq_true rfl) ?_)
          k_extra "r_T13e"
          refine q_newL (by show 0 ≤ sizeLine; decide) fun c H1 n1 S1 h1 => ?_
          k_extra "r_T13e"
          exact ⟨c, rfl, (fun z => by rw [z, hp] at n1; cases n1), S1, h1⟩
        · refine q_test (s_if0 (decide_eq_false fun z => by cases z) ?_)
          k_extra "r_T13e"
          exact ⟨c, rfl, (fun z => by rw [z, hp] at hc; cases hc), Same.refl H, hc⟩
      rintro σ H0 ⟨c, rfl, cp, S0, hc⟩
      clear hb
      have hp0 := S0 _ _ hp
      have cs0 := cs.mono S0
      k_extra "r_T13e"
      refine ⟨_, _, some (runC ps zs), rfl, .lst rfl (S0 _ _ hf) (pl.mono S0) nm hz nd rfl hc (run.runK (Int.le_refl _) cs0), (fun e => by cases e), fun st D H1 e nD S1 hD => ?_⟩
      cases e
      k_extra "r_T13e"
      refine q_isNon (q_test (s_if0 (decide_eq_false fun z => by cases z) ?_))
      k_extra "r_T13e"
      refine s_sFld ?_
      k_extra "r_T13e"
      have S01 := S0.trans S1
      refine q_sortP (SqL.of (S01 _ _ hf)) (pl.mono S01) fun f' H2 ys n2 S2 h2 pl2 => ?_
      k_extra "r_T13e"
      have S12 := S1.trans S2
      have fp : f' ≠ p := fun z => by rw [z, S1 _ _ hp0] at n2; cases n2
      have Dp : D ≠ p := fun z => by rw [z, hp0] at nD; cases nD
      have nf : H f' = none := S01.free n2
      refine ⟨p, CS, dx, [], rfl, S12 _ _ hp0, SC.cl, SC.n1, (by show 0 < 1000; decide), ?_⟩
      have B2 : But p H0 (upd H2 p (.ins CS dx (putF "_first" (.ref f') []))) := fun b o nb e => by rw [upd_ne nb]; exact S12 _ _ e
      have g2 : (upd H2 p (.ins CS dx (putF "_first" (.ref f') []))) p = some (.ins CS dx (putF "_first" (.ref f') [])) := upd_same
      have d2 : (upd H2 p (.ins CS dx (putF "_first" (.ref f') []))) D = some (.dT (stK (runC ps zs))) := by rw [upd_ne Dp]; exact S2 _ _ hD
      have f2 : (upd H2 p (.ins CS dx (putF "_first" (.ref f') []))) f' = some (.lst ys) := by rw [upd_ne fp]; exact h2
      have p2 : Pls (upd H2 p (.ins CS dx (putF "_first" (.ref f') []))) ys (ps.mergeSort pLe) := pl2.tk (TupK.but (S12 _ _ hp0) (fun _ z => by cases z) But.upd)
      show tSeq _ _ _ _ (upd H2 p (.ins CS dx (putF "_first" (.ref f') [])))
      generalize (upd H2 p (.ins CS dx (putF "_first" (.ref f') []))) = H3 at B2 g2 d2 f2 p2 ⊢
      refine s_seq (s_sFld ?_)
      k_extra "r_T13e"
      refine q_listL (SqL.of (B2 _ _ cp hc)) fun c' H4 n4 S4 h4 => ?_
      have cp' : c' ≠ p := fun z => by rw [z, g2] at n4; cases n4
      have cD' : c' ≠ D := fun z => by rw [z, d2] at n4; cases n4
      have fc' : f' ≠ c' := fun z => by rw [← z, f2] at n4; cases n4
      k_extra "r_T13e"
      refine ⟨p, CS, dx, _, rfl, S4 _ _ g2, SC.cl, SC.n2, (by show 1 < 1000; decide), ?_⟩
      refine s_sFld ?_
      k_extra "r_T13e"
      refine ⟨p, CS, dx, _, rfl, upd_same, SC.cl, SC.n3, (by show 2 < 1000; decide), ?_⟩
      refine k _ f' c' D ⟨⟨dx, upd_same⟩, ⟨ys, by rw [upd_ne fp, upd_ne fp]; exact S4 _ _ f2, ?_⟩, ⟨ts, by rw [upd_ne cp', upd_ne cp']; exact h4, ?_⟩, by rw [upd_ne Dp, upd_ne Dp]; exact S4 _ _ d2, fc'⟩ nf (S0.free (B2.free cp' n4)) (S0.free nD) fun b o nb e => by rw [upd_ne nb, upd_ne nb]; exact S4 _ _ (B2 _ _ nb (S0 _ _ e))
      · exact p2.tk ((TupK.of S4).trans ((TupK.but (S4 _ _ g2) (fun _ z => by cases z) But.upd).trans (TupK.but upd_same (fun _ z => by cases z) But.upd)))
      · exact cs0.tk ((TupK.but hp0 (fun _ z => by cases z) B2).trans ((TupK.of S4).trans ((TupK.but (S4 _ _ g2) (fun _ z => by cases z) But.upd).trans (TupK.but upd_same (fun _ z => by cases z) But.upd))))
    · refine q_cut8 (M := fun σ H' => ∃ r, σ = [some (.ref p), some a, some b, some r, none] ∧ Same H H' ∧ SbK K CS H' a r none) ?_ ?_
      · k_extra "r_T13e"
        refine q_isNon ?_
        rcases hN with ⟨rfl, hF⟩ | ⟨nb, hF⟩
        · refine q_test (s_if1 (decide_eq_true rfl) ?_)
          k_extra "r_T13e"
          refine q_newL (by show 0 ≤ sizeLine; decide) fun c H1 n1 S1 h1 => ?_
          k_extra "r_T13e"
          exact ⟨_, rfl, S1, .first (hF.mono S1) (Pl.lst h1)⟩
        · refine q_test (s_if0 (decide_eq_false nb) ?_)
          k_extra "r_T13e"
          exact ⟨_, rfl, Same.refl H, hF⟩
      rintro σ H0 ⟨r, rfl, S0, hs⟩
      k_extra "r_T13e"
      refine ⟨_, _, none, rfl, hs, fun _ H1 S1 => ?_, fun st D H1 e => by cases e⟩
      k_extra "r_T13e"
      refine q_isNon (q_test (s_if1 (decide_eq_true rfl) ?_))
      refine s_raise1 ?_
      k_extra "r_T13e"
      refine q_newT (by show 2 ≤ sizeLine; decide) fun t H2 n2 S2 h2 => ?_
      k_extra "r_T13e"
      have S02 := S0.trans (S1.trans S2)
      exact fun d H3 nd S3 hd => kk H3 t d (S02.trans S3) ((S0.trans S1).free n2) (S02.free nd) hd (S3 _ _ h2)
def spIaddK (K : PySem.W.Frag) (CS CI : Addr) : Sp := fun vs H Q E => ∃ x f c d ps zs st y, vs = [.ref x, y] ∧ StoAt CS H x f c d ps zs st ∧ st.length < 90 ∧ zs.length < 1000 ∧ 0 ≤ lastG 0 zs ∧
  ((∃ z, ChAt H y z ∧ lastG 0 zs ≤ z.1 ∧ (∀ p ∈ z.2.pcs, NmP p) ∧ Can st z.2 ∧ ∀ H', StoAt CS H' x f c d ps (zs ++ [z]) (mkC st z.2) → (∀ b o, b ≠ c → b ≠ d → H b = some o → H' b = some o) → Q (.ref x) H') ∨
   (MayK K CS H y (lastG 0 zs) st false ∧ ∀ H' e, Same H H' → H e = none → H' e = some (.xd [("value", y)]) → E (.ref CI) (some e) H'))
theorem ok_story_iaddK {f : Addr} {fd : FuncData} (T : Txt K mg) (N : TxtN K mg) (I : TxtI K mg) (C : TxtC13 K mg) (S : TxtS13 K mg) (SC : StoryC K mg CS) (SM : StoryM K CS) (XC : ExcF K mg "InvalidChange" "value" CI) (F : Fun K "__iadd__" "Story.__iadd__" s_Story___iadd__ f fd) : FnOk P w K mg base (L2.CX P w) 5 f fd ["self", "other"] (spIaddK K CS CI) := by
  refine F.okX sc_Story___iadd__ (fun vs H Q E h => ?_) (fun cdv A outer s H vs Q E hr h => ?_)
  · obtain ⟨x, f, c, d, ps, zs, st, y, rfl, _⟩ := h
    rfl
  · obtain ⟨x, f, c, d, ps, zs, st, y, rfl, hs, l9, lz, g00, hk⟩ := h
    refine ⟨_, (C8.pss_cut (ps_set (i := 2) sc_Story___iadd__.nd rfl (.inl rfl) (pe_ifExp (pt_truth (pe_fld (pv 0) rfl) (fun _ => rfl)) (pe_ix ix_seq (pe_ix ix_seq (pe_fld (pv 0) rfl) (pe_un un_neg pe_int) (fun _ _ => rfl)) pe_int (fun _ _ => rfl)) pe_int))
      (pss_cons (ps_if (pt_not (pt_val (pe_c (ok_may_comeK T N I C S SC SM) hr (by decide) rfl (pa_cons (pv 1) (pa_cons (pv 2) (pa_cons (pe_fld (pv 0) rfl) pa_nil)))))) (pss_one (ps_raise1 rfl XC hr (by decide) (takes_of rfl rfl rfl rfl) (pv 1))) pss_nil)
      (pss_cons (ps_expr (pe_c (ok_carry_out C) hr (by decide) rfl (pa_cons (pv 1) (pa_cons (pe_fld (pv 0) rfl) pa_nil))))
      (pss_cons (ps_expr (pe_bm PySem.F.plainAttrs_list PySem.F.slot_list_append PySem.F.type_list_append mt_append (pe_fld (pv 0) rfl) (pa_cons (pv 1) pa_nil)))
      (pss_one (ps_ret (pv 0))))))), ?_⟩
    obtain ⟨dx, hx⟩ := id hs.hx
    obtain ⟨xs, hf, pl⟩ := id hs.hf
    obtain ⟨ts, hc, cs⟩ := id hs.hc
    have hd := hs.hd
    have lt : ts.length = zs.length := Paired.length cs
    have fld1 : ∀ {σ : L2.St} {H : Hp} {Q : VK}, σ[0]? = some (some (V.ref x)) → H x = some (.ins CS dx (stF f c d)) → Q (.ref c) H → tFld K (tVar 0) "_changes" σ H Q := fun e h q => s_fld (s_var e ⟨x, CS, dx, _, .ref c, rfl, h, SC.cl, SC.n2, lk_changes _ _ _, q⟩)
    have fld2 : ∀ {σ : L2.St} {H : Hp} {Q : VK}, σ[0]? = some (some (V.ref x)) → H x = some (.ins CS dx (stF f c d)) → Q (.ref d) H → tFld K (tVar 0) "_last" σ H Q := fun e h q => s_fld (s_var e ⟨x, CS, dx, _, .ref d, rfl, h, SC.cl, SC.n3, lk_last _ _ _, q⟩)
    refine q_cut8 (M := fun σ H' => σ = [some (.ref x), some y, some (.int (lastG 0 zs))] ∧ Same H H') ?_ ?_
    · k_extra "r_T13e"
      refine fld1 rfl hx ?_
      refine ⟨!ts.isEmpty, .inl ⟨ts, SqL.of hc, rfl⟩, ?_⟩
      by_cases e : zs = []
      · subst e
        cases cs
        refine s_if0 rfl ?_
        k_extra "r_T13e"
        exact ⟨rfl, Same.refl H⟩
      · have et : ts ≠ [] := fun z => e (List.length_eq_zero_iff.mp (by rw [← lt, z]; rfl))
        refine s_if1 (by cases ts with | nil => exact absurd rfl et | cons _ _ => rfl) ?_
        k_extra "r_T13e"
        refine fld1 rfl hx ?_
        k_extra "r_T13e"
        refine ⟨_, rfl, ?_⟩
        obtain ⟨t0, t, rfl⟩ : ∃ t0 t, ts = t0 ++ [t] := ⟨ts.dropLast, ts.getLast et, (List.dropLast_concat_getLast et).symm⟩
        refine q_ixL (SqL.of hc) (atI_last _ _) ?_
        obtain ⟨z', ez', hz'⟩ := Paired.get cs (i := t0.length) (x := t) (by simp)
        obtain ⟨b, us, rfl, hb, _⟩ := hz'
        k_extra "r_T13e"
        refine q_ixT (SqT.of hb) (at_of (j := 0) rfl rfl) ?_
        k_extra "r_T13e"
        refine ⟨?_, Same.refl H⟩
        have : lastG 0 zs = z'.1 := by
          have := lastG_next 0 ez'
          rwa [List.take_of_length_le (by rw [← lt]; simp)] at this
        rw [this]
        rfl
    rintro σ H1 ⟨rfl, S1⟩
    k_extra "r_T13e"
    refine fld2 rfl (S1 _ _ hx) ?_
    k_extra "r_T13e"
    rcases hk with ⟨z, hy, hg, nm, can, k⟩ | ⟨no, kk⟩
    · refine ⟨y, _, d, st, true, rfl, ?_, S1 _ _ hd, fun H2 S2 => ?_⟩
      · have := MayK.yes (K := K) (CS := CS) (g := lastG 0 zs) (st := st) (hy.mono S1) (Int.le_trans g00 hg) nm
        rw [decide_eq_true hg, canB_iff.mpr can] at this
        exact this
      have T2 := S1.trans S2
      k_extra "r_T13e"
      refine s_if0 rfl ?_
      k_extra "r_T13e"
      refine fld2 rfl (T2 _ _ hx) ?_
      k_extra "r_T13e"
      refine ⟨y, z, d, st, rfl, hy.mono T2, T2 _ _ hd, by omega, can, fun H3 h3 b3 => ?_⟩
      have xd : x ≠ d := fun e => by rw [e, hd] at hx; cases hx
      have cd : c ≠ d := fun e => by rw [e, hd] at hc; cases hc
      have fd' : f ≠ d := fun e => by rw [e, hd] at hf; cases hf
      have xc : x ≠ c := fun e => by rw [e, hc] at hx; cases hx
      have hx3 := b3 _ _ xd (T2 _ _ hx)
      have hc3 := b3 _ _ cd (T2 _ _ hc)
      k_extra "r_T13e"
      refine fld1 rfl hx3 ?_
      k_extra "r_T13e"
      refine ⟨.inl ⟨rfl, _, SqL.of hc3⟩, ?_⟩
      k_extra "r_T13e"
      refine q_append hc3 (szlt (by omega)) fun H4 b4 h4 => ?_
      k_extra "r_T13e"
      have T03 : TupK H H3 := (TupK.of T2).trans (TupK.but (T2 _ _ hd) (fun _ z => by cases z) b3)
      have T04 : TupK H H4 := T03.trans (TupK.but hc3 (fun _ z => by cases z) b4)
      refine k H4 ⟨⟨dx, b4 _ _ xc hx3⟩, ⟨xs, b4 _ _ hs.ne (b3 _ _ fd' (T2 _ _ hf)), pl.tk T04⟩, ⟨_, h4, (cs.tk T04).snoc (hy.tk T04)⟩, b4 _ _ cd.symm h3, hs.ne⟩ fun b o n1 n2 e => b4 _ _ n1 (b3 _ _ n2 (T2 _ _ e))
    · refine ⟨y, _, d, st, false, rfl, no.mono S1, S1 _ _ hd, fun H2 S2 => ?_⟩
      k_extra "r_T13e"
      refine s_if1 rfl ?_
      refine s_raise1 ?_
      k_extra "r_T13e"
      have S02 := S1.trans S2
      exact fun e H3 nd S3 hd => kk H3 e (S02.trans S3) (S02.free nd) hd
end
end Bt
namespace Bt
open PySem PySem.Spec PyProof.Rows L2 LamX NdefX
open PySem.W (dataLt dataLe alike AllAlike Sortable)
theorem words98_ : True := by
  k_with "s_L13a" => first
    | ((with_reducible refine' s_var ?hv ?_); (case hv => exact rfl))
    | with_reducible first
      | refine' s_c ?_ | refine' s_op ?_ | refine' s_asg ?_ | refine' s_gname ?_ | refine' s_seq ?_ | refine' s_next ?_ | refine' s_ret ?_ | refine' s_ifS ?_ | refine' s_drop ?_ | refine' s_retN ?_ | refine' s_test ?_ | refine' s_B ?_ | refine' q_test ?_ | refine' s_int ?_ | refine' s_cons ?_ | refine' s_nil ?_ | refine' s_call ?_ | refine' s_CB ?_ | refine' s_andT ?_ | refine' s_orT ?_ | refine' s_notT ?_ | refine' s_andV ?_ | refine' s_orV ?_ | refine' s_notV ?_ | refine' s_ifV ?_ | refine' s_chain ?_ | refine' s_sl ?_ | refine' s_noPart ?_ | refine' s_part ?_ | refine' s_gsub ?_ | refine' s_BM ?_ | refine' s_tup ?_ | refine' s_lst ?_ | refine' q_add ?_ | refine' q_sub ?_ | refine' q_lt ?_ | refine' q_le ?_ | refine' q_gt ?_ | refine' q_ge ?_ | refine' s_ifT ?_ | refine' s_ifF ?_ | refine' s_yes ?_ | refine' s_iStr ?_ | refine' s_M0 ?_ | refine' s_for ?_ | refine' s_rng1 ?_ | refine' s_par ?_ | refine' s_gcons ?_ | refine' s_gnil ?_ | refine' s_iList ?_ | refine' s_iEnum ?_ | refine' s_raise1 ?_
      | (refine' q_mod ?hm ?_; (case hm => first | omega | decide))
    | dsimp only
  k_with "r_L13a" => repeat (k_extra "s_L13a")
  trivial
/-! ### the law's helpers: step, change -/
theorem room65 {k : Nat} {A : Around} (r : Room k A) : A.units + 65 < cLine := by have := r.un; omega
theorem any_pl (st : List Plc) (p : Plc) : (st.map dPl).any (fun z => PyData.eqv z (dPl p)) = decide (p ∈ st) := by
  rw [List.any_map, Bool.eq_iff_iff, List.any_eq_true, decide_eq_true_iff]
  constructor
  · rintro ⟨y, hy, e⟩
    have e2 : PyData.eqv (dPl y) (dPl p) = true := e
    rw [eqv_pl, decide_eq_true_iff] at e2
    exact e2 ▸ hy
  · intro h
    refine ⟨p, h, ?_⟩
    show PyData.eqv (dPl p) (dPl p) = true
    rw [eqv_pl]
    exact decide_eq_true rfl
theorem q_inPl {K : PySem.W.Frag} {H : Hp} {Q : VK} {x : V} {p : Plc} {l : Addr} {xs : List V} {st : List Plc} (hx : PlAt H x p) (np : NmP p) (hl : H l = some (.lst xs)) (pl : Pls H xs st) (nm : ∀ p ∈ st, NmP p) (q : Q (.bl (decide (p ∈ st))) H) : rInD K x (.ref l) H Q :=
  ⟨dPl p, st.map dPl, hx.dp, .lst (SqL.of hl) pl.dps, sh_pl np.1 np.2, sh_pls nm, by rw [any_pl]; exact q⟩
theorem q_ninPl {K : PySem.W.Frag} {H : Hp} {Q : VK} {x : V} {p : Plc} {l : Addr} {xs : List V} {st : List Plc} (hx : PlAt H x p) (np : NmP p) (hl : H l = some (.lst xs)) (pl : Pls H xs st) (nm : ∀ p ∈ st, NmP p) (q : Q (.bl (!decide (p ∈ st))) H) : rNotInD K x (.ref l) H Q :=
  ⟨dPl p, st.map dPl, hx.dp, .lst (SqL.of hl) pl.dps, sh_pl np.1 np.2, sh_pls nm, by rw [any_pl]; exact q⟩
structure TxtL13 (K : PySem.W.Frag) (mg : Str → Option Value) : Prop where
  n_enumerate : mg "enumerate" = none
  d_fresh : Df K mg "_law_fresh" s__law_fresh ["_law_places"]
  d_whole : Df K mg "_law_whole" s__law_whole ["_law_value"]
  d_step : Df K mg "_law_step" s__law_step ["_law_there", "_law_change_here"]
  d_change : Df K mg "_law_change" s__law_change ["_law_purse_here", "_law_places", "_law_there", "_law_gap"]
  d_course : Df K mg "_law_course" s__law_course ["_law_purse_here", "_law_places", "_law_there"]
  d_refused : Df K mg "_law_refused" s__law_refused ["_law_first", "_law_changes"]
  d_alone : Df K mg "_law_refused_alone" s__law_refused_alone ["_law_first"]
  d_added : Df K mg "_law_added" s__law_added ["_law_story", "_law_change_here"]
  d_got : Df K mg "_law_got" s__law_got ["_law_story", "_law_k"]
  d_bad : Df K mg "_law_bad_changes" s__law_bad_changes ["_law_there", "_law_places", "_law_gap"]
  d_odd : Df K mg "_law_odd_changes" s__law_odd_changes ["_law_there", "_law_gap"]
  d_same : Df K mg "_law_same" s__law_same ["_law_story", "_law_first", "_law_changes", "_law_places"]
  d_indexes : Df K mg "_law_indexes" s__law_indexes ["_law_story", "_law_many", "_law_far"]
  d_alike : Df K mg "_law_alike" s__law_alike ["_law_story", "_law_first", "_law_changes", "_law_fresh_here"]
  d_pair : Df K mg "_law_ordered_pair" s__law_ordered_pair ["_law_first", "_law_fresh_here", "_law_more"]
  d_parts : Df K mg "_law_odd_parts" s__law_odd_parts ["_law_first", "_law_changes", "_law_places"]
section
variable {P : Program} {w : World} {K : PySem.W.Frag} {mg : Str → Option Value} {base : Heap}
def spStep : Sp := fun vs H Q _ => ∃ q xs st y z, vs = [.ref q, y] ∧ H q = some (.lst xs) ∧ Pls H xs st ∧ (∀ p ∈ st, NmP p) ∧ ChAt H y z ∧ (∀ p ∈ z.2.pcs, NmP p) ∧ Can st z.2 ∧ xs.length < 1000 ∧
  ∀ D H' ys, H D = none → Same H H' → H' D = some (.lst ys) → Pls H' ys (mkC st z.2) → Q (.ref D) H'
theorem ok__law_step (L : TxtL13 K mg) : Cal P w K mg base 1 "_law_step" spStep := by
  refine L.d_step.cal sc__law_step (fun vs H Q E h => ?_) (fun f cdv A outer s H vs Q E hr h => ?_)
  · obtain ⟨q, xs, st, y, z, rfl, _⟩ := h
    rfl
  · obtain ⟨q, xs, st, y, z, rfl, hq, pl, nm, ⟨t, ys, rfl, ht, hy⟩, nz, can, hz, k⟩ := h
    have hu := hr.units
    refine ⟨_, (pss_cons (ps_if (pt_cmpR op_eq (pe_ix ix_seq (pv 1) pe_int (fun _ _ => rfl)) pe_str (by rfl)) (pss_cons (ps_if (pt_cmpR (op_inD (room65 hr)) (pe_ix ix_seq (pv 1) pe_int (fun _ _ => rfl)) (pv 0) (by rfl)) (pss_one (ps_ret pe_non)) pss_nil)
        (pss_one (ps_ret (pe_op op_addU (pv 0) (pe_lst (pa_cons (pe_ix ix_seq (pv 1) pe_int (fun _ _ => rfl)) pa_nil)))))) pss_nil)
      (pss_cons (ps_if (pt_cmpR (op_notInD (room65 hr)) (pe_ix ix_seq (pv 1) pe_int (fun _ _ => rfl)) (pv 0) (by rfl)) (pss_one (ps_ret pe_non)) pss_nil)
      (C8.pss_cut (ps_setLc (i := 2) (own := [("_law_place", 3)]) (g := gName 3) (tt := tTest (tOp (rNeU K) (tVar 3) (tOp (rIx K) (tVar 1) (tC (.int 2))))) (te := tVar 3) rfl sc__law_step.nd rfl rfl (sw_true rfl rfl rfl (by decide +kernel)) (pi_list (pv 0)) (blkOk_by (own := [("_law_place", 3)]) (N := ["_law_there", "_law_change_here", "_law_rest", "_law_place"]) (sc := defScope s__law_step) (by decide +kernel)) (fun _ _ _ _ _ => pg_name (i := 3) sc__law_step.nd rfl (Or.inl rfl)) (fun _ _ _ _ _ => by exact pts_one (pt_cmpR (op_neU hu) (pv 3) (pe_ix ix_seq (pv 1) pe_int (fun _ _ => rfl)) (by rfl))) (fun _ _ _ _ _ => (pv 3)))
      (pss_cons (ps_if (pt_cmpR op_eq (pe_ix ix_seq (pv 1) pe_int (fun _ _ => rfl)) pe_str (by rfl)) (pss_one (ps_ret (pv 2))) pss_nil)
      (pss_cons (ps_if (pt_cmpR (op_inD (room65 hr)) (pe_ix ix_seq (pv 1) pe_int (fun _ _ => rfl)) (pv 0) (by rfl)) (pss_one (ps_ret pe_non)) pss_nil)
      (pss_one (ps_ret (pe_op op_addU (pv 2) (pe_lst (pa_cons (pe_ix ix_seq (pv 1) pe_int (fun _ _ => rfl)) pa_nil)))))))))), ?_⟩
    k_extra "r_L13a"
    refine q_ixT (SqT.of ht) (at_of (j := 1) rfl rfl) ?_
    k_extra "r_L13a"
    obtain ⟨g, c⟩ := z
    by_cases ea : ∃ p, c = .add p
    · obtain ⟨p, rfl⟩ := ea
      refine ⟨rfl, q_test (s_if1 (show decide (V.str "add" = V.str "add") = true by decide) ?_)⟩
      cases hy with
      | cons h hn =>
        k_extra "r_L13a"
        refine q_ixT (SqT.of ht) (at_of (j := 2) rfl rfl) ?_
        k_extra "r_L13a"
        refine q_inPl h (nz p (by simp [Ch.pcs])) hq pl nm ?_
        rw [decide_eq_false (can.2 p rfl)]
        refine q_test (s_if0 rfl ?_)
        k_extra "r_L13a"
        refine q_ixT (SqT.of ht) (at_of (j := 2) rfl rfl) ?_
        k_extra "r_L13a"
        refine q_newL (by show 1 ≤ sizeLine; decide) fun l1 H1 n1 S1 h1 => ?_
        refine q_cat (S1 _ _ hq) h1 (sz (by simp; omega)) fun l2 H2 n2 S2 h2 => ?_
        have S12 := S1.trans S2
        exact k l2 H2 _ (S1.free n2) S12 h2 ((pl.mono S12).app (.cons (h.mono S12) .nil))
    obtain ⟨p, y0, yr, rfl, hp, np, eg, ew⟩ : ∃ p y0 yr, ys = y0 :: yr ∧ PlAt H y0 p ∧ NmP p ∧ c.gs = some p ∧ decide (V.str c.wd = V.str "add") = false := by
      cases c with
      | add p => exact absurd ⟨p, rfl⟩ ea
      | take p =>
        cases hy with
        | cons h hn => exact ⟨p, _, _, rfl, h, nz p (by simp [Ch.pcs]), rfl, show decide (V.str "take" = V.str "add") = false by decide +kernel⟩
      | ren p r =>
        cases hy with
        | cons h hn => exact ⟨p, _, _, rfl, h, nz p (by simp [Ch.pcs]), rfl, show decide (V.str "rename" = V.str "add") = false by decide +kernel⟩
    refine ⟨rfl, q_test (s_if0 ew ?_)⟩
    k_extra "r_L13a"
    refine q_ixT (SqT.of ht) (at_of (j := 2) rfl rfl) ?_
    k_extra "r_L13a"
    refine q_ninPl hp np hq pl nm ?_
    rw [decide_eq_true (can.1 p eg)]
    refine q_test (s_if0 rfl ?_)
    k_extra "r_L13a"
    refine q_cut8 (M := fun σ H' => ∃ D us, σ = [some (.ref q), some (.ref t), some (.ref D), none] ∧ H D = none ∧ Same H H' ∧ H' D = some (.lst us) ∧ Pls H' us (st.filter fun r => decide (r ≠ p)) ∧ us.length ≤ xs.length) ?_ ?_
    · k_extra "r_L13a"
      refine s_lc ?_
      k_extra "r_L13a"
      refine ⟨q, rfl, ⟨_, SqL.of hq⟩, fun D nD => lc_list (K := K) (a := q) (xs := xs) (fun i H' => Same H H' ∧ ∃ us, H' D = some (.lst us) ∧ Pls H' us ((st.take i).filter fun r => decide (r ≠ p)) ∧ us.length ≤ i) ⟨Same.new nD, [], upd_same, .nil, Nat.le_refl _⟩ (fun i H' _ h => SqL.of (h.1 _ _ hq)) ?_ ?_⟩
      · rintro i x H1 hx ⟨S1, us, h1, pu, lu⟩
        obtain ⟨r, er, hr'⟩ := pl.get2 hx
        have lt := (List.getElem?_eq_some_iff.mp hx).1
        have mr := List.mem_of_getElem? er
        k_extra "r_L13a"
        refine ⟨rfl, ?_⟩
        k_extra "r_L13a"
        refine q_ixT (SqT.of (S1 _ _ ht)) (at_of (j := 2) rfl rfl) ?_
        refine q_neD (hr'.mono S1).dp (hp.mono S1).dp (sh_pl (nm r mr).1 (nm r mr).2) (sh_pl np.1 np.2) ?_
        rw [eqv_pl, List.take_add_one, er, List.filter_append]
        by_cases e : r = p
        · rw [decide_eq_true e]
          refine ⟨_, rfl, ?_⟩
          refine ⟨S1, us, h1, ?_, by omega⟩
          simpa [e] using pu
        · rw [decide_eq_false e]
          refine ⟨_, rfl, s_if1 rfl ?_⟩
          k_extra "r_L13a"
          have N : TupK H1 (upd H1 D (.lst (us ++ [x]))) := TupK.but h1 (fun _ z => by cases z) But.upd
          refine ⟨us, h1, szlt (by omega), same_mut S1 nD, _, upd_same, ?_, by simp; omega⟩
          have : List.filter (fun r => decide (r ≠ p)) (some r).toList = [r] := by simp [e]
          rw [this]
          exact (pu.tk N).app (.cons ((hr'.mono S1).tk N) .nil)
      · rintro H1 ⟨S1, us, h1, pu, lu⟩
        rw [List.take_of_length_le (Nat.le_of_eq pl.len.symm)] at pu
        k_extra "r_L13a"
        exact ⟨D, us, rfl, nD, S1, h1, pu, lu⟩
    rintro σ H1 ⟨D, us, rfl, nD, S1, hD, pu, lu⟩
    k_extra "r_L13a"
    refine q_ixT (SqT.of (S1 _ _ ht)) (at_of (j := 1) rfl rfl) ?_
    k_extra "r_L13a"
    cases c with
    | add p => exact absurd ⟨p, rfl⟩ ea
    | take p' =>
      cases eg
      refine ⟨rfl, q_test (s_if1 (show decide (V.str "take" = V.str "take") = true by decide) ?_)⟩
      k_extra "r_L13a"
      refine k D H1 us nD S1 hD ?_
      show Pls H1 us ((st.filter fun q => decide (q ≠ p)) ++ [])
      rw [List.append_nil]
      exact pu
    | ren p' r =>
      cases eg
      refine ⟨rfl, q_test (s_if0 (show decide (V.str "rename" = V.str "take") = false by decide +kernel) ?_)⟩
      cases hy with
      | cons _ hn =>
      cases hn with
      | cons hr2 hn2 =>
      cases hn2
      have hr3 := hr2.mono S1
      k_extra "r_L13a"
      refine q_ixT (SqT.of (S1 _ _ ht)) (at_of (j := 3) rfl rfl) ?_
      k_extra "r_L13a"
      refine q_inPl hr3 (nz r (by simp [Ch.pcs])) (S1 _ _ hq) (pl.mono S1) nm ?_
      rw [decide_eq_false (can.2 r rfl)]
      refine q_test (s_if0 rfl ?_)
      k_extra "r_L13a"
      refine q_ixT (SqT.of (S1 _ _ ht)) (at_of (j := 3) rfl rfl) ?_
      k_extra "r_L13a"
      refine q_newL (by show 1 ≤ sizeLine; decide) fun l1 H2 n2 S2 h2 => ?_
      refine q_cat (S2 _ _ hD) h2 (sz (by simp; omega)) fun l2 H3 n3 S3 h3 => ?_
      have S23 := S2.trans S3
      exact k l2 H3 _ ((S1.trans S2).free n3) (S1.trans S23) h3 ((pu.mono S23).app (.cons (hr3.mono S23) .nil))
end
end Bt
namespace Bt
open PySem PySem.Spec PyProof.Rows L2 LamX NdefX
open PySem.W (dataLt dataLe alike AllAlike Sortable)
theorem words99_ : True := by
  k_with "s_L13b" => first
    | ((with_reducible refine' s_var ?hv ?_); (case hv => exact rfl))
    | with_reducible first
      | refine' s_c ?_ | refine' s_op ?_ | refine' s_asg ?_ | refine' s_gname ?_ | refine' s_seq ?_ | refine' s_next ?_ | refine' s_ret ?_ | refine' s_ifS ?_ | refine' s_drop ?_ | refine' s_retN ?_ | refine' s_test ?_ | refine' s_B ?_ | refine' q_test ?_ | refine' s_int ?_ | refine' s_cons ?_ | refine' s_nil ?_ | refine' s_call ?_ | refine' s_CB ?_ | refine' s_andT ?_ | refine' s_orT ?_ | refine' s_notT ?_ | refine' s_andV ?_ | refine' s_orV ?_ | refine' s_notV ?_ | refine' s_ifV ?_ | refine' s_chain ?_ | refine' s_sl ?_ | refine' s_noPart ?_ | refine' s_part ?_ | refine' s_gsub ?_ | refine' s_BM ?_ | refine' s_tup ?_ | refine' s_lst ?_ | refine' q_add ?_ | refine' q_sub ?_ | refine' q_lt ?_ | refine' q_le ?_ | refine' q_gt ?_ | refine' q_ge ?_ | refine' s_ifT ?_ | refine' s_ifF ?_ | refine' s_yes ?_ | refine' s_iStr ?_ | refine' s_M0 ?_ | refine' s_for ?_ | refine' s_rng1 ?_ | refine' s_par ?_ | refine' s_gcons ?_ | refine' s_gnil ?_ | refine' s_iList ?_ | refine' s_iEnum ?_ | refine' s_raise1 ?_
      | (refine' q_mod ?hm ?_; (case hm => first | omega | decide))
    | dsimp only
  k_with "r_L13b" => repeat (k_extra "s_L13b")
  trivial
/-! ### the law's helpers: change, course, due, raised -/
section
variable {P : Program} {w : World} {K : PySem.W.Frag} {mg : Str → Option Value} {base : Heap} {CS CI : Addr}
def spChange : Sp := fun vs H Q _ => ∃ pu lp xs ps q ys st g, vs = [.ref pu, .ref lp, .ref q, .int g] ∧ Purse H pu ∧ H lp = some (.lst xs) ∧ lp ≠ pu ∧ Pls H xs ps ∧ xs ≠ [] ∧ xs.length ≤ 100 ∧ (∀ p ∈ ps, NmP p) ∧ H q = some (.lst ys) ∧ q ≠ pu ∧ Pls H ys st ∧ (∀ p ∈ st, NmP p) ∧
  ∀ y H' z, ChAt H' y z → z.1 = g → Can st z.2 → (∀ p ∈ z.2.pcs, p ∈ ps) → Purse H' pu → But pu H H' → Q y H'
theorem ok__law_change (L : TxtL K mg) (N : TxtN K mg) (L4 : TxtL13 K mg) : Cal P w K mg base 2 "_law_change" spChange := by
  refine L4.d_change.cal sc__law_change (fun vs H Q E h => ?_) (fun f cdv A outer s H vs Q E hr h => ?_)
  · obtain ⟨pu, lp, xs, ps, q, ys, st, g, rfl, _⟩ := h
    rfl
  · obtain ⟨pu, lp, xs, ps, q, ys, st, g, rfl, hp, hl, lpu, pl, ne, lx, nm, hq, qpu, pq, nq, k⟩ := h
    have hu := hr.units
    refine ⟨_, (pss_cons (ps_par (i := 4) (j := 5) (by rfl) sc__law_change.nd rfl rfl (by decide) rfl rfl (pa_cons (pe_ix ix_seq (pv 1) (pe_c (ok__law_draw L) hr (by decide) rfl (pa_cons (pv 0) (pa_cons (pe_callB call_lenQ (by rfl) N.n_len (by decide +kernel) (pa_cons (pv 1) pa_nil)) pa_nil))) (fun _ _ => rfl)) (pa_cons (pe_ix ix_seq (pv 1) (pe_c (ok__law_draw L) hr (by decide) rfl (pa_cons (pv 0) (pa_cons (pe_callB call_lenQ (by rfl) N.n_len (by decide +kernel) (pa_cons (pv 1) pa_nil)) pa_nil))) (fun _ _ => rfl)) pa_nil)) (by rfl))
      (C8.pss_cut (ps_if (PW.pt (pw_and (pt_cmpR (op_inD (room65 hr)) (pv 4) (pv 2) (by rfl)) (pw_and (pt_cmpR (op_notInD (room65 hr)) (pv 5) (pv 2) (by rfl)) (pw_and1 (pt_cmpR op_gtI (pe_c (ok__law_draw L) hr (by decide) rfl (pa_cons (pv 0) (pa_cons pe_int pa_nil))) pe_int (by rfl)))))) (pss_one (ps_ret (pe_tup (pa_cons (pv 3) (pa_cons pe_str (pa_cons (pv 4) (pa_cons (pv 5) pa_nil))))))) pss_nil)
      (pss_one (ps_ret (pe_tup (pa_cons (pv 3) (pa_cons (pe_ifExp (pt_cmpR (op_inD (room65 hr)) (pv 4) (pv 2) (by rfl)) pe_str pe_str) (pa_cons (pv 4) pa_nil)))))))), ?_⟩
    have l0 : 0 < xs.length := List.length_pos_iff.mpr ne
    have pick : ∀ n : Int, 0 ≤ n → n < xs.length → ∃ x p, atI xs n = some x ∧ p ∈ ps ∧ PlAt H x p := fun n n0 n1 => by
      obtain ⟨j, rfl⟩ : ∃ j : Nat, n = j := ⟨n.toNat, by omega⟩
      have e : xs[j]? = some xs[j] := List.getElem?_eq_getElem (by omega)
      obtain ⟨p, mp, hp⟩ := pl.get e
      exact ⟨_, p, atI_nat e, mp, hp⟩
    k_extra "r_L13b"
    refine q_lenL (SqL.of hl) ?_
    k_extra "r_L13b"
    refine ⟨pu, _, rfl, hp, by omega, by omega, fun n H1 n0 n1 p1 b1 => ?_⟩
    obtain ⟨x, p, ex, mp, hx⟩ := pick n n0 n1
    have hl1 := b1 _ _ lpu hl
    refine q_ixL (SqL.of hl1) ex ?_
    k_extra "r_L13b"
    refine q_lenL (SqL.of hl1) ?_
    k_extra "r_L13b"
    refine ⟨pu, _, rfl, p1, by omega, by omega, fun m H2 m0 m1 p2 b2 => ?_⟩
    obtain ⟨y, r, ey, mr, hy⟩ := pick m m0 m1
    have b12 := b1.trans b2
    refine q_ixL (SqL.of (b2 _ _ lpu hl1)) ey ?_
    k_extra "r_L13b"
    refine ⟨_, _, rfl, ?_⟩
    k_extra "r_L13b"
    have hx2 := hx.nl (NL.pu hp b12)
    have hy2 := hy.nl (NL.pu hp b12)
    have hq2 := b12 _ _ qpu hq
    have pq2 := pq.nl (NL.pu hp b12)
    refine q_cut8 (M := fun σ H' => σ = [some (.ref pu), some (.ref lp), some (.ref q), some (.int g), some x, some y] ∧ Purse H' pu ∧ But pu H H') ?_ ?_
    · k_extra "r_L13b"
      refine q_inPl hx2 (nm p mp) hq2 pq2 nq ?_
      by_cases e1 : p ∈ st
      · rw [decide_eq_true e1]
        refine q_test (s_if1 rfl ?_)
        k_extra "r_L13b"
        refine q_ninPl hy2 (nm r mr) hq2 pq2 nq ?_
        by_cases e2 : r ∈ st
        · rw [decide_eq_true e2]
          refine q_test (s_if0 rfl ?_)
          k_extra "r_L13b"
          exact ⟨rfl, p2, b12⟩
        · rw [decide_eq_false e2]
          refine q_test (s_if1 rfl ?_)
          k_extra "r_L13b"
          refine ⟨pu, 3, rfl, p2, by decide, by decide, fun a H3 a0 a1 p3 b3 => ?_⟩
          k_extra "r_L13b"
          refine s_ifD (fun _ => ?_) (fun _ => ?_)
          · k_extra "r_L13b"
            have N3 := NL.pu p2 b3
            refine q_newT (by show 4 ≤ sizeLine; decide) fun t H4 n4 S4 h4 => ?_
            exact k _ H4 (g, .ren p r) ⟨t, [x, y], rfl, h4, .cons ((hx2.nl N3).mono S4) (.cons ((hy2.nl N3).mono S4) .nil)⟩ rfl ⟨fun p' e => by cases e; exact e1, fun q' e => by cases e; exact e2⟩ (fun p' m' => by
              simp only [Ch.pcs, List.mem_cons, List.not_mem_nil, or_false] at m'
              rcases m' with rfl | rfl <;> assumption) (p3.mono S4) (b12.trans (b3.trans (But.of S4)))
          · k_extra "r_L13b"
            exact ⟨rfl, p3, b12.trans b3⟩
      · rw [decide_eq_false e1]
        refine q_test (s_if0 rfl ?_)
        k_extra "r_L13b"
        exact ⟨rfl, p2, b12⟩
    clear p1 b1 hl1 p2 b2 b12 hx2 hy2 hq2 pq2
    rintro σ H3 ⟨rfl, p3, b3⟩
    have N3 := NL.pu hp b3
    k_extra "r_L13b"
    refine q_inPl (hx.nl N3) (nm p mp) (b3 _ _ qpu hq) (pq.nl N3) nq ?_
    by_cases e1 : p ∈ st
    · rw [decide_eq_true e1]
      refine q_test (s_if1 rfl ?_)
      k_extra "r_L13b"
      refine q_newT (by show 3 ≤ sizeLine; decide) fun t H4 n4 S4 h4 => ?_
      exact k _ H4 (g, .take p) ⟨t, [x], rfl, h4, .cons ((hx.nl N3).mono S4) .nil⟩ rfl ⟨fun p' e => by cases e; exact e1, fun q' e => by cases e⟩ (fun p' m' => by
        simp only [Ch.pcs, List.mem_cons, List.not_mem_nil, or_false] at m'
        rcases m' with rfl
        assumption) (p3.mono S4) (b3.trans (But.of S4))
    · rw [decide_eq_false e1]
      refine q_test (s_if0 rfl ?_)
      k_extra "r_L13b"
      refine q_newT (by show 3 ≤ sizeLine; decide) fun t H4 n4 S4 h4 => ?_
      exact k _ H4 (g, .add p) ⟨t, [x], rfl, h4, .cons ((hx.nl N3).mono S4) .nil⟩ rfl ⟨fun p' e => (by cases e), fun q' e => by cases e; exact e1⟩ (fun p' m' => by
        simp only [Ch.pcs, List.mem_cons, List.not_mem_nil, or_false] at m'
        rcases m' with rfl
        assumption) (p3.mono S4) (b3.trans (But.of S4))
end
end Bt
namespace Bt
open PySem PySem.Spec PyProof.Rows L2 LamX NdefX
open PySem.W (dataLt dataLe alike AllAlike Sortable)
theorem words100_ : True := by
  k_with "s_L13c" => first
    | ((with_reducible refine' s_var ?hv ?_); (case hv => exact rfl))
    | with_reducible first
      | refine' s_c ?_ | refine' s_op ?_ | refine' s_asg ?_ | refine' s_gname ?_ | refine' s_seq ?_ | refine' s_next ?_ | refine' s_ret ?_ | refine' s_ifS ?_ | refine' s_drop ?_ | refine' s_retN ?_ | refine' s_test ?_ | refine' s_B ?_ | refine' q_test ?_ | refine' s_int ?_ | refine' s_cons ?_ | refine' s_nil ?_ | refine' s_call ?_ | refine' s_CB ?_ | refine' s_andT ?_ | refine' s_orT ?_ | refine' s_notT ?_ | refine' s_andV ?_ | refine' s_orV ?_ | refine' s_notV ?_ | refine' s_ifV ?_ | refine' s_chain ?_ | refine' s_sl ?_ | refine' s_noPart ?_ | refine' s_part ?_ | refine' s_gsub ?_ | refine' s_BM ?_ | refine' s_tup ?_ | refine' s_lst ?_ | refine' q_add ?_ | refine' q_sub ?_ | refine' q_lt ?_ | refine' q_le ?_ | refine' q_gt ?_ | refine' q_ge ?_ | refine' s_ifT ?_ | refine' s_ifF ?_ | refine' s_yes ?_ | refine' s_iStr ?_ | refine' s_M0 ?_ | refine' s_for ?_ | refine' s_rng1 ?_ | refine' s_par ?_ | refine' s_gcons ?_ | refine' s_gnil ?_ | refine' s_iList ?_ | refine' s_iEnum ?_ | refine' s_raise1 ?_
      | (refine' q_mod ?hm ?_; (case hm => first | omega | decide))
    | dsimp only
  k_with "r_L13c" => repeat (k_extra "s_L13c")
  trivial
/-! ### course, due, raised -/
theorem mkC_mem {st : List Plc} {c : Ch} {p : Plc} (h : p ∈ mkC st c) : p ∈ st ∨ p ∈ c.pcs := by
  unfold mkC at h
  rcases List.mem_append.mp h with h | h
  · left
    cases e : c.gs with
    | none => rw [e] at h; exact h
    | some q => rw [e] at h; exact (List.mem_filter.mp h).1
  · right
    cases c <;> simp_all [Ch.cs, Ch.pcs]
theorem mkC_len (st : List Plc) (c : Ch) : (mkC st c).length ≤ st.length + 1 := by
  cases c with
  | add p =>
    show (st ++ [p]).length ≤ _
    simp
  | take p =>
    show (st.filter (fun q => decide (q ≠ p)) ++ []).length ≤ _
    rw [List.append_nil]
    exact Nat.le_succ_of_le (List.length_filter_le _ _)
  | ren p q =>
    show (st.filter (fun q => decide (q ≠ p)) ++ [q]).length ≤ _
    rw [List.length_append]
    exact Nat.add_le_add_right (List.length_filter_le _ _) 1
theorem pick5 {e : Int} (he : 0 ≤ e) {m : Int} (m0 : 0 ≤ m) (m1 : m < 5) : ∃ g : Int, atI [V.int 0, V.int 0, V.int 1, V.int 2, V.int e] m = some (.int g) ∧ 0 ≤ g := by
  obtain ⟨j, rfl⟩ : ∃ j : Nat, m = j := ⟨m.toNat, by omega⟩
  match j, m1 with
  | 0, _ => exact ⟨0, atI_nat (j := 0) rfl, by decide⟩
  | 1, _ => exact ⟨0, atI_nat (j := 1) rfl, by decide⟩
  | 2, _ => exact ⟨1, atI_nat (j := 2) rfl, by decide⟩
  | 3, _ => exact ⟨2, atI_nat (j := 3) rfl, by decide⟩
  | 4, _ => exact ⟨e, atI_nat (j := 4) rfl, he⟩
  | j + 5, h => omega
theorem runC_snoc (st : List Plc) (zs : List GC) (z : GC) : runC st (zs ++ [z]) = mkC (runC st zs) z.2 := by
  unfold runC
  rw [List.foldl_append]
  rfl
theorem lastG_snoc (g : Int) (zs : List GC) (z : GC) : lastG g (zs ++ [z]) = z.1 := by
  unfold lastG
  rw [List.foldl_append]
  rfl
theorem Run.snoc : ∀ {zs : List GC} {st : List Plc} {g : Int} {z : GC}, Run st g zs → lastG g zs ≤ z.1 → Can (runC st zs) z.2 → (∀ p ∈ z.2.pcs, NmP p) → (runC st zs).length < 90 → Run st g (zs ++ [z])
  | [], _, _, _, _, h1, h2, h3, h4 => ⟨h1, h2, h3, h4, trivial⟩
  | _ :: _, _, _, _, ⟨k1, k2, k3, k4, k5⟩, h1, h2, h3, h4 => ⟨k1, k2, k3, k4, Run.snoc k5 h1 h2 h3 h4⟩
section
variable {P : Program} {w : World} {K : PySem.W.Frag} {mg : Str → Option Value} {base : Heap} {CS CI : Addr}
def spCourse : Sp := fun vs H Q _ => ∃ pu lp xs ps q ys st, vs = [.ref pu, .ref lp, .ref q] ∧ Purse H pu ∧ H lp = some (.lst xs) ∧ lp ≠ pu ∧ Pls H xs ps ∧ xs ≠ [] ∧ xs.length ≤ 100 ∧ (∀ p ∈ ps, NmP p) ∧ H q = some (.lst ys) ∧ q ≠ pu ∧ Pls H ys st ∧ (∀ p ∈ st, NmP p) ∧ st.length ≤ 20 ∧
  ∀ D H' ts zs, H D = none → H' D = some (.lst ts) → ChsAt H' ts zs → Run st 0 zs → zs.length ≤ 9 → (∀ z ∈ zs, ∀ p ∈ z.2.pcs, p ∈ ps) → Purse H' pu → But pu H H' → Q (.ref D) H'
theorem ok__law_course (L : TxtL K mg) (N : TxtN K mg) (L4 : TxtL13 K mg) : Cal P w K mg base 3 "_law_course" spCourse := by
  refine L4.d_course.cal sc__law_course (fun vs H Q E h => ?_) (fun f cdv A outer s H vs Q E hr h => ?_)
  · obtain ⟨pu, lp, xs, ps, q, ys, st, rfl, _⟩ := h
    rfl
  · obtain ⟨pu, lp, xs, ps, q, ys, st, rfl, hp, hl, lpu, pl, ne, lx, nm, hq, qpu, pq, nq, ls, k⟩ := h
    have hu := hr.units
    refine ⟨_, (pss_cons (ps_par (i := 3) (j := 4) (by rfl) sc__law_course.nd rfl rfl (by decide) rfl rfl (pa_cons (pe_lst pa_nil) (pa_cons pe_int pa_nil)) (by rfl))
      (pss_cons (ps_for PassesOwn.never rfl (pi_range1 rfl L.n_range (pa_cons (pe_c (ok__law_draw L) hr (by decide) rfl (pa_cons (pv 0) (pa_cons pe_int pa_nil))) pa_nil)) (pg_name (i := 5) sc__law_course.nd rfl (.inl rfl))
        (pss_cons (ps_set (i := 4) sc__law_course.nd rfl (.inl rfl) (pe_op op_addU (pv 4) (pe_ix ix_seq (pe_lst (pa_cons pe_int (pa_cons pe_int (pa_cons pe_int (pa_cons pe_int (pa_cons (pe_op op_powW pe_int pe_int) pa_nil)))))) (pe_c (ok__law_draw L) hr (by decide) rfl (pa_cons (pv 0) (pa_cons pe_int pa_nil))) (fun _ _ => rfl))))
          (pss_cons (ps_set (i := 6) sc__law_course.nd rfl (.inl rfl) (pe_c (ok__law_change L N L4) hr (by decide) rfl (pa_cons (pv 0) (pa_cons (pv 1) (pa_cons (pv 2) (pa_cons (pv 4) pa_nil))))))
          (pss_cons (ps_set (i := 2) sc__law_course.nd rfl (.inl rfl) (pe_c (ok__law_step L4) hr (by decide) rfl (pa_cons (pv 2) (pa_cons (pv 6) pa_nil))))
          (pss_one (ps_expr (pe_bm PySem.F.plainAttrs_list PySem.F.slot_list_append PySem.F.type_list_append mt_append (pv 3) (pa_cons (pv 6) pa_nil))))))))
      (pss_one (ps_ret (pv 3))))), ?_⟩
    k_extra "r_L13c"
    refine q_newL (by show 0 ≤ sizeLine; decide) fun D H1 nD S1 hD => ?_
    k_extra "r_L13c"
    refine ⟨_, _, rfl, ?_⟩
    k_extra "r_L13c"
    have Dpu : D ≠ pu := fun z => by obtain ⟨_, _, _, e, _⟩ := hp; rw [z, e] at nD; cases nD
    have lD : lp ≠ D := fun z => by rw [z, nD] at hl; cases hl
    have qD : q ≠ D := fun z => by rw [z, nD] at hq; cases hq
    refine ⟨pu, 10, rfl, hp.mono S1, by decide, by decide, fun n H2 n0 n1 p2 b2 => ?_⟩
    k_extra "r_L13c"
    refine ⟨_, rfl, by omega, by omega, q_forR (fun i σ H' => ∃ q' ys' ts zs v5 v6, σ = [some (.ref pu), some (.ref lp), some (.ref q'), some (.ref D), some (.int (lastG 0 zs)), v5, v6] ∧ H' D = some (.lst ts) ∧ ChsAt H' ts zs ∧ Run st 0 zs ∧ zs.length = i ∧ (∀ z ∈ zs, ∀ p ∈ z.2.pcs, p ∈ ps) ∧
      H' q' = some (.lst ys') ∧ q' ≠ pu ∧ q' ≠ D ∧ Pls H' ys' (runC st zs) ∧ (∀ p ∈ runC st zs, NmP p) ∧ (runC st zs).length ≤ 20 + i ∧ Purse H' pu ∧ But pu H H')
      ⟨q, ys, [], [], none, none, rfl, b2 _ _ Dpu hD, .nil, trivial, rfl, (fun _ h => by cases h), b2 _ _ qpu (S1 _ _ hq), qpu, qD, (pq.mono S1).nl (NL.pu (hp.mono S1) b2), nq, by simpa [runC] using ls, p2, (But.of S1).trans b2⟩ ?_ ?_⟩
    · rintro i σ H3 hi ⟨q', ys', ts, zs, v5, v6, rfl, h3, cs, run, lz, mz, hq', nq1, nq2, pq', nmr, lr, p3, b3⟩
      have ltz : ts.length = zs.length := Paired.length cs
      k_extra "r_L13c"
      refine ⟨_, _, rfl, rfl, ⟨by decide, by decide +kernel⟩, ?_⟩
      k_extra "r_L13c"
      refine q_newL (by show 5 ≤ sizeLine; decide) fun l4 H4 n4 S4 h4 => ?_
      have l4pu : l4 ≠ pu := fun z => by obtain ⟨_, _, _, e, _⟩ := p3; rw [z, e] at n4; cases n4
      k_extra "r_L13c"
      refine ⟨pu, 5, rfl, p3.mono S4, by decide, by decide, fun m H5 m0 m1 p5 b5 => ?_⟩
      obtain ⟨e, ee, e0⟩ := pick5 (e := 10 ^ (30 : Int).toNat) (by decide) m0 m1
      refine q_ixL (SqL.of (b5 _ _ l4pu h4)) ee ?_
      k_extra "r_L13c"
      have T35 : But pu H3 H5 := (But.of S4).trans b5
      have N35 := NL.pu p3 T35
      have lpc : ∀ {H' : Hp}, But pu H H' → H' lp = some (.lst xs) := fun b => b _ _ lpu hl
      have plc : ∀ {H' : Hp}, But pu H H' → Pls H' xs ps := fun b => pl.nl (NL.pu hp b)
      have B5 := b3.trans T35
      refine ⟨pu, lp, xs, ps, q', ys', runC st zs, _, rfl, p5, lpc B5, lpu, plc B5, ne, lx, nm, T35 _ _ nq1 hq', nq1, pq'.nl N35, nmr, fun y H6 z hy gz can mz' p6 b6 => ?_⟩
      have T36 := T35.trans b6
      have N36 := NL.pu p3 T36
      have nz : ∀ p ∈ z.2.pcs, NmP p := fun p hp => nm p (mz' p hp)
      have lq : ys'.length = (runC st zs).length := pq'.len
      k_extra "r_L13c"
      refine ⟨_, ys', _, y, z, rfl, T36 _ _ nq1 hq', pq'.nl N36, nmr, hy, nz, can, by omega, fun q2 H7 ys2 n7 S7 h7 pl7 => ?_⟩
      have h7D : H7 D = some (.lst ts) := S7 _ _ (T36 _ _ Dpu h3)
      have q2D : q2 ≠ D := fun e => by rw [e, T36 _ _ Dpu h3] at n7; cases n7
      have q2pu : q2 ≠ pu := fun e => by obtain ⟨_, _, _, e2, _⟩ := p6; rw [e, e2] at n7; cases n7
      k_extra "r_L13c"
      refine ⟨.inl ⟨rfl, _, SqL.of h7D⟩, ?_⟩
      k_extra "r_L13c"
      refine q_append h7D (szlt (by omega)) fun H8 b8 h8 => ?_
      have N8 : TupK H7 H8 := TupK.but h7D (fun _ z => by cases z) b8
      k_extra "r_L13c"
      refine ⟨q2, ys2, _, zs ++ [z], _, _, by rw [lastG_snoc, gz]; rfl, h8, ((cs.tk (TupK.nl N36)).mono S7 |>.tk N8).snoc ((hy.mono S7).tk N8), run.snoc (by rw [gz]; omega) can nz (by omega), by simp; omega, fun y' my => ?_, b8 _ _ q2D h7, q2pu, q2D, by rw [runC_snoc]; exact pl7.tk N8, ?_, ?_, ?_, fun b o nb eo => ?_⟩
      · rcases List.mem_append.mp my with my | my
        · exact mz y' my
        · rw [List.mem_singleton.mp my]
          exact mz'
      · rw [runC_snoc]
        intro p hp
        exact (mkC_mem hp).elim (nmr p) (nz p)
      · rw [runC_snoc]
        have := mkC_len (runC st zs) z.2
        omega
      · obtain ⟨_, _, _, e2, hh⟩ := p6.mono S7
        exact ⟨_, _, _, b8 _ _ Dpu.symm e2, hh⟩
      · exact b8 _ _ (fun z => by rw [z, nD] at eo; cases eo) (S7 _ _ (T36 _ _ nb (b3 _ _ nb eo)))
    · rintro σ H3 ⟨q', ys', ts, zs, v5, v6, rfl, h3, cs, run, lz, mz, hq', nq1, nq2, pq', nmr, lr, p3, b3⟩
      k_extra "r_L13c"
      exact k D H3 ts zs nD h3 cs run (by omega) mz p3 b3
end
end Bt
namespace Bt
open PySem PySem.Spec PyProof.Rows L2
/-! ### try: .. except A as e: .. except B as e: .. -/
section
variable {X : Cx} {x1 x2 n : Str} {c1 c2 : Value} {i : Nat} {body su1 su2 : List Stmt} {b1 b2 : Stmt} {p1 p2 q1 q2 pos : Pos} {tb : WX → TS} {ts1 ts2 : Addr → Value → Option Addr → TS} {Wout : WX}
abbrev SuiteOk (X : Cx) (b : Stmt) (su : List Stmt) (ts : Addr → Value → Option Addr → TS) : Prop :=
  ∀ (a : Addr) (oe : Obj) (cls : Value) (d : Option Addr) (pn : List (Addr × Obj)), Zc cls d oe → (∃ vs, oe.data = .fields vs) → PSs (X.suite a ((a, oe) :: pn)) (b :: su) (ts a cls d)
theorem ps_try_as2 (hs : X.stack = X.env :: X.outer) (hf : X.env.frame = some X.env.locals) (hN : X.N.Nodup) (hi : X.N[i]? = some n) (hl : X.env.kindOf n = some .local) (nm1 : Names X x1 c1) (nm2 : Names X x2 c2) (tk : Takes X Wout)
    (hb : ∀ (W : WX) (pn : List (Addr × Obj)) (xe : Value → Shared → Prop), Takes (X.tr pn xe) W → PassesOwn (model X.prog X.w) X.A X.env xe → PSs (X.tr pn xe) body (tb W)) (s1 : SuiteOk X b1 su1 ts1) (s2 : SuiteOk X b2 su2 ts2) :
    PS X (.Try body [.ExceptHandler (some (.Name x1 p1)) (some n) (b1 :: su1) q1, .ExceptHandler (some (.Name x2 p2)) (some n) (b2 :: su2) q2] [] [] pos) (fun D σ H => tb (wAs X.K c1 i ts1 (wAs X.K c2 i ts2 Wout D) D) D σ H) := by
  refine ⟨fun pins s σ H D I h => wpAny_Try_except ?_⟩
  have okX := I.ok
  have frames : X.A.frames = some (X.env :: X.outer) := by rw [okX.frames, hs]
  have loc : Loc X.env.scope n := .inl hl
  have run := (hb (wAs X.K c1 i ts1 (wAs X.K c2 i ts2 Wout D) D) (X.pn ++ pins) (fun ev t1 => wpAny (model X.prog X.w) X.A (noteFrame ev X.env) (fun _ t2 => wpAny (model X.prog X.w) X.A (setFlight ev none) (fun _ t3 =>
    wpAny (model X.prog X.w) X.A (handleBy ev X.env [.ExceptHandler (some (.Name x1 p1)) (some n) (b1 :: su1) q1, .ExceptHandler (some (.Name x2 p2)) (some n) (b2 :: su2) q2]) (SP X pins D) X.xe t3) X.xe t2) X.xe t1) (fun u sx xx => ?caught) PassesOwn.looking).run [] s σ H D (I.toTry _) h
  case caught =>
    obtain ⟨ea, Bx, sI, _, σe, He, cls, d, rfl, Je, notb, up0, skyE, fresh, osE, barE, wish⟩ := xx
    have J0 : Inv X pins σe He sI := Je.ofTry okX
    have sky0 : Sky Bx (X.env :: X.outer) ea (Zc cls d) X.env.locals sx.heap := by rw [← hs]; exact skyE
    show wpAny (model X.prog X.w) X.A (noteFrame (.ref ea) X.env) _ _ _
    refine Sky.land Zc.steady frames hf sky0 fun h3 flight up3 => ?_
    have J3 : Inv X pins σe He { sx with heap := h3 } := J0.landed notb flight.1 (up0.trans up3) osE barE
    obtain ⟨o3, v3, at3, z3, d3⟩ := flight.there
    have out : ea ∉ frs (X.env :: X.outer) := fun hm => by
      obtain ⟨_, o', e', nf⟩ := flight.2.2.1.mem hm
      rw [at3] at e'
      cases e'
      exact nf _ d3
    have nLoc : ea ≠ X.env.locals := fun z => out (List.mem_filterMap.mpr ⟨X.env, List.mem_cons_self, by rw [hf, z]⟩)
    have nFs : ea ∉ X.fs := fun hm => by
      obtain ⟨ev, he, q⟩ := List.mem_filterMap.mp hm
      exact out (List.mem_filterMap.mpr ⟨ev, List.mem_cons_of_mem _ he, q⟩)
    have S3 := J3.suite at3 d3 fresh nLoc nFs
    have tyE : PySem.W.Looks (model X.prog X.w) h3 (typeOf (.ref ea)) cls := fun A Q E s kk q => wpAny_typeOf_ref (kk _ _ at3) (by rw [z3.1]; exact q)
    have clause : ∀ {y : Str} {c : Value} {b : Stmt} {su : List Stmt} {np qp : Pos} {ts : Addr → Value → Option Addr → TS} {W2 : WX} {rest : List ExceptHandler}, Names X y c → SuiteOk X b su ts → wAs X.K c i ts W2 D cls d σe He →
        (W2 cls d σe He → wpAny (model X.prog X.w) X.A (handleBy (.ref ea) X.env rest) (SP X pins D) X.xe { sx with heap := h3 }) →
        wpAny (model X.prog X.w) X.A (handleBy (.ref ea) X.env (.ExceptHandler (some (.Name y np)) (some n) (b :: su) qp :: rest)) (SP X pins D) X.xe { sx with heap := h3 } := by
      intro y c b su np qp ts W2 rest nm sOk w next
      obtain ⟨ans, hm, yes, no⟩ := w
      refine wpAny_handleBy_cons (codeAny_handlers_test ?_) (by intro q; cases q)
      have matches_ := PySem.W.exm_one (M := model X.prog X.w) J3.kIn tyE hm
      have name : ∀ {Q E : Value → Shared → Prop}, Q c { sx with heap := h3 } → wpAny (model X.prog X.w) (X.A.mark (some (.ref ea))) (eval (.Name y np) X.env) Q E { sx with heap := h3 } := fun {Q E} q => by
        obtain ⟨g1, g2, g3 | ⟨g3, g4, g5⟩⟩ := nm
        · exact ld_glob (X := X.suite ea ((ea, o3) :: (X.pn ++ pins))) S3 g1 g3 q g2
        · exact ld_blt (X := X.suite ea ((ea, o3) :: (X.pn ++ pins))) S3 g1 g3 g4 q g5 g2
      refine name (matches_.here ?_)
      cases ans with
      | false => exact next (no rfl)
      | true =>
        refine codeAny_handlers_suite_as (HandSPX.lands_againZ flight fun h4 fl4 up4 => ?_)
        have J4 : Inv X pins σe He { sx with heap := h4 } := J0.landed notb fl4.1 ((up0.trans up3).trans up4) osE barE
        obtain ⟨o4, v4, at4, z4, d4⟩ := fl4.there
        have S4 := J4.suite at4 d4 fresh nLoc nFs
        refine store_ok (X := X.suite ea ((ea, o4) :: (X.pn ++ pins))) (v := .ref ea) S4 hN hi loc rfl (fun s5 S5 => ?_) (.inr hl)
        refine wpAny_mono ((sOk ea o4 cls d (X.pn ++ pins) z4 ⟨_, d4⟩).run [] s5 _ He _ S5 (yes rfl ea fresh)) (fun fl s6 sp => ?_) (fun _ _ z => False.elim z)
        have leave : ∀ {σ6 : L2.St} {H6 : Hp} {Q : Shared → Prop}, Inv (X.suite ea ((ea, o4) :: (X.pn ++ pins))) [] σ6 H6 s6 → (∀ s7, Inv X pins (σ6.set i none) H6 s7 → Q s7) →
            wpAny (model X.prog X.w) X.A (do bindName X.env n .none; unbindBehindTheSuite X.env n qp) (fun _ s7 => Q s7) X.xe s6 := fun S6 q => gone_ok (S6.unsuite okX) hN hi hl q
        cases fl with
        | next => obtain ⟨σ6, H6, S6, q6⟩ := sp; exact leave S6 fun _ J7 => ⟨_, _, J7, q6⟩
        | brk => obtain ⟨σ6, H6, S6, q6⟩ := sp; exact leave S6 fun _ J7 => ⟨_, _, J7, q6⟩
        | cont => obtain ⟨σ6, H6, S6, q6⟩ := sp; exact leave S6 fun _ J7 => ⟨_, _, J7, q6⟩
        | ret u => obtain ⟨v6, σ6, H6, S6, r6, q6⟩ := sp; exact leave S6 fun _ J7 => ⟨_, _, _, J7, r6, q6⟩
    refine clause nm1 s1 wish fun wish2 => clause nm2 s2 wish2 fun last => ?_
    refine wpAny_handleBy_nil ?_
    obtain ⟨_, _, _, oz, vz, Tz, _, _, atz, zz, dz, f1, _⟩ := id flight
    unfold PySem.passOn
    refine wpAny_bind (wpAny_field atz dz f1 ?_)
    rw [if_neg (show ¬ ((Value.ref Tz == Value.none) = true) from by simp)]
    have thrown : wpAny (model X.prog X.w) X.A (setFlight (.ref ea) X.env.frame) (fun _ t4 => wpAny (model X.prog X.w) X.A (throw (.ref ea) : Sem Flow) (SP X pins D) X.xe t4) X.xe { sx with heap := h3 } := by
      rw [hf]
      refine HandSPX.setFlight_upZ flight fun h4 in4 up4 => wpAny_throw (tk _ _ ?_)
      exact ⟨ea, Bx, sI, pins, σe, He, cls, d, rfl, J0, notb, (up0.trans up3).trans up4, .inr (.inr (by rw [hs]; exact in4)), fresh, osE, barE, last⟩
    first
      | exact wpAny_bind (wpAny_pure (wpAny_bind thrown))
      | exact wpAny_bind thrown
  refine wpAny_mono run (fun fl s1 sp => ?_) fun _ _ z => z
  cases fl with
  | next => obtain ⟨σ', H', J', q⟩ := sp; exact wpAny_execs_nil ⟨σ', H', J'.ofTry okX, q⟩
  | brk => obtain ⟨σ', H', J', q⟩ := sp; exact ⟨σ', H', J'.ofTry okX, q⟩
  | cont => obtain ⟨σ', H', J', q⟩ := sp; exact ⟨σ', H', J'.ofTry okX, q⟩
  | ret u => obtain ⟨v, σ', H', J', r, q⟩ := sp; exact ⟨v, σ', H', J'.ofTry okX, r, q⟩
end
end Bt
namespace Bt
open PySem PySem.Spec PyProof.Rows L2 LamX NdefX
open PySem.W (dataLt dataLe alike AllAlike Sortable)
theorem words101_ : True := by
  k_with "s_L13d" => first
    | ((with_reducible refine' s_var ?hv ?_); (case hv => exact rfl))
    | with_reducible first
      | refine' s_c ?_ | refine' s_op ?_ | refine' s_asg ?_ | refine' s_gname ?_ | refine' s_seq ?_ | refine' s_next ?_ | refine' s_ret ?_ | refine' s_ifS ?_ | refine' s_drop ?_ | refine' s_retN ?_ | refine' s_test ?_ | refine' s_B ?_ | refine' q_test ?_ | refine' s_int ?_ | refine' s_cons ?_ | refine' s_nil ?_ | refine' s_call ?_ | refine' s_CB ?_ | refine' s_andT ?_ | refine' s_orT ?_ | refine' s_notT ?_ | refine' s_andV ?_ | refine' s_orV ?_ | refine' s_notV ?_ | refine' s_ifV ?_ | refine' s_chain ?_ | refine' s_sl ?_ | refine' s_noPart ?_ | refine' s_part ?_ | refine' s_gsub ?_ | refine' s_BM ?_ | refine' s_tup ?_ | refine' s_lst ?_ | refine' q_add ?_ | refine' q_sub ?_ | refine' q_lt ?_ | refine' q_le ?_ | refine' q_gt ?_ | refine' q_ge ?_ | refine' s_ifT ?_ | refine' s_ifF ?_ | refine' s_yes ?_ | refine' s_iStr ?_ | refine' s_M0 ?_ | refine' s_for ?_ | refine' s_rng1 ?_ | refine' s_par ?_ | refine' s_gcons ?_ | refine' s_gnil ?_ | refine' s_iList ?_ | refine' s_iEnum ?_ | refine' s_raise1 ?_
      | (refine' q_mod ?hm ?_; (case hm => first | omega | decide))
    | dsimp only
  k_with "r_L13d" => repeat (k_extra "s_L13d")
  trivial
/-! ### due, raised -/
theorem Run.nm : ∀ {zs : List GC} {st : List Plc} {g : Int}, Run st g zs → NmC zs
  | [], _, _, _, _, m => by cases m
  | y :: zs, st, g, ⟨h1, h2, h3, h4, h5⟩, z, m => by
    rcases List.mem_cons.mp m with rfl | m
    · exact h3
    · exact Run.nm h5 z m
theorem runC_nm : ∀ {zs : List GC} {ps : List Plc}, (∀ p ∈ ps, NmP p) → NmC zs → ∀ p ∈ runC ps zs, NmP p
  | [], _, h, _ => h
  | z :: zs, ps, h, hz => runC_nm (zs := zs) (ps := mkC ps z.2) (fun p m => (mkC_mem m).elim (h p) (hz z List.mem_cons_self p)) fun y m => hz y (List.mem_cons_of_mem _ m)
section
variable {X : Cx} {k : Nat} {CS CI : Addr} {o e : Expr} {to te : TE} {pos apos : Pos}
theorem pe_at (T : Txt X.K X.mg) (N : TxtN X.K X.mg) (I : TxtI X.K X.mg) (C : TxtC13 X.K X.mg) (S : TxtS13 X.K X.mg) (SC : StoryC X.K X.mg CS) (SM : StoryM X.K CS) (hr : Room k X.A) (hk : 4 ≤ k) (ho : PE X o to) (ha : PE X e te)
    {pl : Sem Bool} (ht : eval (.Call (.Attribute o "at" apos) [e] [] pos) X.env = (do
      let ov ← eval o X.env
      standAt apos.atName
      let (f, first) ← holding [ov] (getMethod ov "at" pl)
      callWith pos f first (backTo pos (starEach [e] X.env)) (backToKw pos (keywordEach [] X.env))) := by rfl)
    (he : starEach [e] X.env = (false, eval e X.env) :: starEach [] X.env := by rfl) (hpl : (backTo pos (starEach [] X.env)).any (·.1) = false := by rfl) :
    PE X (.Call (.Attribute o "at" apos) [e] [] pos) (tMeth CS "at" (spAt CS) [] E0 to (tCons te tNil)) := by
  obtain ⟨f, fd, m, F, b⟩ := SM.at_
  exact pe_meth (pl := pl) ho SC.cl m (ok_story_at T N I C S SC F) (hr.mono (by omega)) b .nil L2.pass0 (pa_cons ha pa_nil he) he hpl ht
end
theorem stF_at {f c d : Addr} : (stF f c d).lookup (Str.ofString "at") = none := by
  unfold stF
  rw [lookup_putF, if_neg (by decide +kernel), lookup_putF, if_neg (by decide +kernel), lookup_putF, if_neg (by decide +kernel)]
  rfl
end Bt
namespace Bt
open PySem PySem.Spec PyProof.Rows L2 LamX NdefX
open PySem.W (dataLt dataLe alike AllAlike Sortable)
theorem words102_ : True := by
  k_with "s_L13e" => first
    | ((with_reducible refine' s_var ?hv ?_); (case hv => exact rfl))
    | with_reducible first
      | refine' s_c ?_ | refine' s_op ?_ | refine' s_asg ?_ | refine' s_gname ?_ | refine' s_seq ?_ | refine' s_next ?_ | refine' s_ret ?_ | refine' s_ifS ?_ | refine' s_drop ?_ | refine' s_retN ?_ | refine' s_test ?_ | refine' s_B ?_ | refine' q_test ?_ | refine' s_int ?_ | refine' s_cons ?_ | refine' s_nil ?_ | refine' s_call ?_ | refine' s_CB ?_ | refine' s_andT ?_ | refine' s_orT ?_ | refine' s_notT ?_ | refine' s_andV ?_ | refine' s_orV ?_ | refine' s_notV ?_ | refine' s_ifV ?_ | refine' s_chain ?_ | refine' s_sl ?_ | refine' s_noPart ?_ | refine' s_part ?_ | refine' s_gsub ?_ | refine' s_BM ?_ | refine' s_tup ?_ | refine' s_lst ?_ | refine' q_add ?_ | refine' q_sub ?_ | refine' q_lt ?_ | refine' q_le ?_ | refine' q_gt ?_ | refine' q_ge ?_ | refine' s_ifT ?_ | refine' s_ifF ?_ | refine' s_yes ?_ | refine' s_iStr ?_ | refine' s_M0 ?_ | refine' s_for ?_ | refine' s_rng1 ?_ | refine' s_par ?_ | refine' s_gcons ?_ | refine' s_gnil ?_ | refine' s_iList ?_ | refine' s_iEnum ?_ | refine' s_raise1 ?_
      | (refine' q_mod ?hm ?_; (case hm => first | omega | decide))
    | dsimp only
  k_with "r_L13e" => repeat (k_extra "s_L13e")
  trivial
/-! ### twice -/
section
variable {X : Cx} {k : Nat} {CS : Addr} {e : Expr} {te : TE} {pos : Pos}
theorem pe_first (T : Txt X.K X.mg) (SC : StoryC X.K X.mg CS) (SM : StoryM X.K CS) (hr : Room k X.A) (hk : 2 ≤ k) (he : PE X e te) (hab : attributeBase e "first" X.env (eval e X.env) = eval e X.env := by rfl) : PE X (.Attribute e "first" pos) (tProp CS (spFirst CS) [] E0 te) := by
  obtain ⟨p, f, fd, hp, F, b⟩ := SM.first
  exact pe_prop he SC.cl hp (ok_story_first T SC F) (hr.mono hk) b .nil L2.pass0 hab
end
theorem s_prop {C : Addr} {sp : Sp} {dvs : List V} {E : XK} {ta : TE} {σ : L2.St} {H : Hp} {Q : VK} (h : ta σ H fun x H1 => ∃ a dx fs, x = .ref a ∧ H1 a = some (.ins C dx fs) ∧ sp (.ref a :: dvs) H1 Q E) : tProp C sp dvs E ta σ H Q := h
theorem s_aug {i : Nat} {te : TE} {ti : TIp} {D : Ends} {σ : L2.St} {H : Hp} (h : ∃ x, σ[i]? = some (some x) ∧ te σ H fun y H1 => ti x y H1 fun z H2 => D.nx (σ.set i (some z)) H2) : tAug i te ti D σ H := h
section
variable {K : PySem.W.Frag} {mg : Str → Option Value} {H : Hp} {Q : VK} {CS x f c d y f' c' d' : Addr} {ps ps' : List Plc} {zs zs' : List GC} {st st' : List Plc}
theorem q_stoLen (hs : StoAt CS H x f c d ps zs st) (lz : zs.length < 100000) (q : Q (.int zs.length) H) : rLenOwn CS (spLen CS) E0 [.ref x] H Q := by
  obtain ⟨dx, hx⟩ := id hs.hx
  exact ⟨x, dx, _, rfl, hx, x, f, c, d, ps, zs, st, rfl, hs, zs.length, rfl, by omega, by omega, q⟩
theorem q_stoEq (SC : StoryC K mg CS) (SM : StoryM K CS) (hs : StoAt CS H x f c d ps zs st) (hs' : StoAt CS H y f' c' d' ps' zs' st') (n1 : ∀ p ∈ ps, NmP p) (n2 : ∀ p ∈ ps', NmP p) (n3 : NmC zs) (n4 : NmC zs')
    (q : Q (.bl (decide (ps = ps') && PyData.eqv (dChs zs) (dChs zs'))) H) : rEqOwn K CS (spSEq CS) E0 (.ref x) (.ref y) H Q := by
  obtain ⟨dx, hx⟩ := id hs.hx
  obtain ⟨dy, hy⟩ := id hs'.hx
  exact ⟨x, dx, _, _, rfl, hx, .base (.ins hy SC.cl SC.i1 SC.i2 SC.i3 SC.i4), SM.nY, x, f, c, d, ps, zs, st, y, f', c', d', ps', zs', st', rfl, hs, hs', n1, n2, n3, n4, ⟨_, rfl, q⟩⟩
theorem eqv_self {zs : List GC} (n : NmC zs) : PyData.eqv (dChs zs) (dChs zs) = true := SeqAt.eqv_refl _ (SeqAt.canLay_of_shaped (sh_chs n))
theorem eqv_len {zs zs' : List GC} (h : zs.length ≠ zs'.length) : PyData.eqv (dChs zs) (dChs zs') = false := by
  unfold dChs
  rw [PyData.eqv]
  exact eqvAll_len _ _ (by rw [List.length_map, List.length_map]; exact h)
end
theorem before_all {zs : List GC} {k : Int} (h : ∀ z ∈ zs, z.1 < k) : before k zs = zs := List.filter_eq_self.mpr fun z m => decide_eq_true (h z m)
theorem Run.top : ∀ {zs : List GC} {st : List Plc} {g : Int}, Run st g zs → ∀ z ∈ zs, z.1 ≤ lastG g zs
  | [], _, _, _, _, m => by cases m
  | y :: zs, st, g, ⟨h1, h2, h3, h4, h5⟩, z, m => by
    have up : ∀ {zs : List GC} {st : List Plc} {g : Int}, Run st g zs → g ≤ lastG g zs := fun {zs} => by
      induction zs with
      | nil => exact fun _ => Int.le_refl _
      | cons u us ih => exact fun ⟨k1, _, _, _, k5⟩ => Int.le_trans k1 (ih k5)
    rcases List.mem_cons.mp m with rfl | m
    · exact up h5
    · exact Run.top h5 z m
theorem Run.up {zs : List GC} : ∀ {st : List Plc} {g : Int}, Run st g zs → g ≤ lastG g zs := by
  induction zs with
  | nil => exact fun _ => Int.le_refl _
  | cons u us ih => exact fun ⟨k1, _, _, _, k5⟩ => Int.le_trans k1 (ih k5)
/-- a story under a change of what is not its own -/
theorem StoAt.but {CS : Addr} {H H' : Hp} {x f c d pu : Addr} {ps : List Plc} {zs : List GC} {st : List Plc} {us : List V} (hp : H pu = some (.lst us)) (fp : f ≠ pu) (cp : c ≠ pu) (B : But pu H H') (h : StoAt CS H x f c d ps zs st) : StoAt CS H' x f c d ps zs st := by
  have N := TupK.but hp (fun _ z => by cases z) B
  have hd := h.hd
  exact ⟨let ⟨dx, e⟩ := h.hx; ⟨dx, B _ _ (fun z => by rw [z, hp] at e; cases e) e⟩, let ⟨xs, e, p⟩ := h.hf; ⟨xs, B _ _ fp e, p.tk N⟩, let ⟨ts, e, p⟩ := h.hc; ⟨ts, B _ _ cp e, p.tk N⟩, B _ _ (fun z => by rw [z, hp] at hd; cases hd) hd, h.ne⟩
end Bt
namespace Bt
open PySem PySem.Spec PyProof.Rows L2 LamX NdefX
open PySem.W (dataLt dataLe alike AllAlike Sortable)
theorem words104_ : True := by
  k_with "s_L13g" => first
    | ((with_reducible refine' s_var ?hv ?_); (case hv => exact rfl))
    | with_reducible first
      | refine' s_c ?_ | refine' s_op ?_ | refine' s_asg ?_ | refine' s_gname ?_ | refine' s_seq ?_ | refine' s_next ?_ | refine' s_ret ?_ | refine' s_ifS ?_ | refine' s_drop ?_ | refine' s_retN ?_ | refine' s_test ?_ | refine' s_B ?_ | refine' q_test ?_ | refine' s_int ?_ | refine' s_cons ?_ | refine' s_nil ?_ | refine' s_call ?_ | refine' s_CB ?_ | refine' s_andT ?_ | refine' s_orT ?_ | refine' s_notT ?_ | refine' s_andV ?_ | refine' s_orV ?_ | refine' s_notV ?_ | refine' s_ifV ?_ | refine' s_chain ?_ | refine' s_sl ?_ | refine' s_noPart ?_ | refine' s_part ?_ | refine' s_gsub ?_ | refine' s_BM ?_ | refine' s_tup ?_ | refine' s_lst ?_ | refine' q_add ?_ | refine' q_sub ?_ | refine' q_lt ?_ | refine' q_le ?_ | refine' q_gt ?_ | refine' q_ge ?_ | refine' s_ifT ?_ | refine' s_ifF ?_ | refine' s_yes ?_ | refine' s_iStr ?_ | refine' s_M0 ?_ | refine' s_for ?_ | refine' s_rng1 ?_ | refine' s_par ?_ | refine' s_gcons ?_ | refine' s_gnil ?_ | refine' s_iList ?_ | refine' s_iEnum ?_ | refine' s_raise1 ?_
      | (refine' q_mod ?hm ?_; (case hm => first | omega | decide))
    | dsimp only
  k_with "r_L13g" => repeat (k_extra "s_L13g")
  trivial
/-! ### the state of the law -/
def SelfV (K : PySem.W.Frag) (H : Hp) (x : V) : Prop := EqV K H 0 x x true
theorem SelfV.ref {K : PySem.W.Frag} {H : Hp} (a : Addr) : SelfV K H (.ref a) := .same a
theorem SelfV.str {K : PySem.W.Frag} {H : Hp} {z : Str} (h : PyData.strOk z = true) : SelfV K H (.str z) := by
  have sh : SeqAt.shaped (.str z) = true := by unfold SeqAt.shaped; simp [PyData.canLay0, PyData.depth, h]
  have := EqV.data (K := K) (H := H) (n := 0) (.str z) (.str z) sh sh
  rw [SeqAt.eqv_refl _ (SeqAt.canLay_of_shaped sh)] at this
  exact this
theorem SelfV.non {K : PySem.W.Frag} {H : Hp} : SelfV K H .non := by
  have sh : SeqAt.shaped .none = true := by decide
  have := EqV.data (K := K) (H := H) (n := 0) .non .non sh sh
  rw [SeqAt.eqv_refl _ (SeqAt.canLay_of_shaped sh)] at this
  exact this
theorem SelfV.bl {K : PySem.W.Frag} {H : Hp} {b : Bool} : SelfV K H (.bl b) := by
  have sh : SeqAt.shaped (.bool b) = true := by cases b <;> decide
  have := EqV.data (K := K) (H := H) (n := 0) (.bl b) (.bl b) sh sh
  rw [SeqAt.eqv_refl _ (SeqAt.canLay_of_shaped sh)] at this
  exact this
theorem SelfV.int {K : PySem.W.Frag} {H : Hp} {i : Int} : SelfV K H (.int i) := by
  have sh : SeqAt.shaped (.int i) = true := by unfold SeqAt.shaped; simp [PyData.canLay0, PyData.depth]
  have := EqV.data (K := K) (H := H) (n := 0) (.int i) (.int i) sh sh
  rw [SeqAt.eqv_refl _ (SeqAt.canLay_of_shaped sh)] at this
  exact this
mutual
theorem EqV.up {K : PySem.W.Frag} {H H' : Hp} (S : Same H H') : ∀ (n : Nat) (x y : V) (b : Bool), EqV K H n x y b → ∀ m, n ≤ m → EqV K H' m x y b
  | _, _, _, _, .same a, _, _ => .same a
  | _, _, _, _, .data h1 h2 h3 h4, _, _ => .data (Dp.mono S h1) (Dp.mono S h2) h3 h4
  | _, _, _, _, .lst ne h1 h2 h3, m, hm => by
    obtain ⟨m', rfl⟩ : ∃ m', m = m' + 1 := ⟨m - 1, by omega⟩
    exact .lst ne (SqL_monoN (ext_same S) h1) (SqL_monoN (ext_same S) h2) (EqVs.up S _ _ _ _ h3 m' (by omega))
theorem EqVs.up {K : PySem.W.Frag} {H H' : Hp} (S : Same H H') : ∀ (n : Nat) (xs ys : List V) (bs : List Bool), EqVs K H n xs ys bs → ∀ m, n ≤ m → EqVs K H' m xs ys bs
  | _, _, _, _, .nil, _, _ => .nil
  | _, _, _, _, .cons h hs, m, hm => .cons (EqV.up S _ _ _ _ h m hm) (EqVs.up S _ _ _ _ hs m hm)
end
theorem SelfV.mono {K : PySem.W.Frag} {H H' : Hp} {x : V} (S : Same H H') (h : SelfV K H x) : SelfV K H' x := EqV.up S _ _ _ _ h 0 (Nat.le_refl _)
theorem dp_any {K : PySem.W.Frag} {H H' : Hp} {x : V} {d : PyData} (n : ∀ a, x ≠ .ref a) (h : Dp K H x d) : Dp K H' x d := by
  cases h with
  | non => exact .non
  | bl b => exact .bl b
  | int i => exact .int i
  | str z => exact .str z
  | lst h _ => exact absurd rfl (n _)
  | tup h _ => exact absurd rfl (n _)
theorem SelfV.any {K : PySem.W.Frag} {H H' : Hp} {x : V} (h : SelfV K H x) : SelfV K H' x := by
  have key : ∀ (n : Nat) (y z : V) (b : Bool), EqV K H n y z b → n = 0 → y = x → z = x → b = true → SelfV K H' x := fun n y z b h e0 e1 e2 e3 => by
    by_cases r : ∃ a, x = .ref a
    · obtain ⟨a, rfl⟩ := r
      exact .same a
    · cases h with
      | same a => exact absurd ⟨a, e1.symm⟩ r
      | data hd he sd se =>
        subst e1
        have := EqV.data (K := K) (H := H') (n := 0) (dp_any (fun a e => r ⟨a, e⟩) hd) (dp_any (fun a e => r ⟨a, e2.symm ▸ e⟩) he) sd se
        rw [e3] at this
        subst e2
        exact this
      | lst _ _ _ _ => exact absurd e0 (by omega)
  exact key 0 x x true h rfl rfl rfl rfl
theorem selfs {K : PySem.W.Frag} {H : Hp} {n : Nat} : ∀ {xs : List V}, (∀ x ∈ xs, SelfV K H x) → EqVs K H n xs xs (xs.map fun _ => true)
  | [], _ => .nil
  | x :: xs, h => .cons (EqV.up (Same.refl H) _ _ _ _ (h x List.mem_cons_self) n (Nat.zero_le n)) (selfs fun y hy => h y (List.mem_cons_of_mem _ hy))
theorem all_trues (xs : List V) : (xs.map fun _ => true).all id = true := by
  rw [List.all_map, List.all_eq_true]
  exact fun _ _ => rfl
def rRevL (K : PySem.W.Frag) (Q : VK) (x : V) (H : Hp) : Prop := ∃ a xs, x = .ref a ∧ SqL K H a xs ∧ ∀ p, H p = none → Q (.ref p) (upd H p (.lst xs.reverse))
theorem s_revL {K : PySem.W.Frag} {te : TE} {σ : L2.St} {H : Hp} {Q : VK} (h : te σ H fun x H1 => rRevL K Q x H1) : tRevL K te σ H Q := h
theorem q_revL {K : PySem.W.Frag} {H : Hp} {Q : VK} {a : Addr} {xs : List V} (h : SqL K H a xs) (q : ∀ p H', H p = none → Same H H' → H' p = some (.lst xs.reverse) → Q (.ref p) H') : rRevL K Q (.ref a) H := ⟨a, xs, rfl, h, fun p n => q p _ n (Same.new n) upd_same⟩
theorem ten39 : (0 : Int) < (10 : Int) ^ (39 : Int).toNat := Int.pow_pos (by decide)
theorem ten39b : (10 : Int) ^ (39 : Int).toNat < 2 ^ 199 := by decide +kernel
theorem sort_perm {ps qs : List Plc} (h : ps.Perm qs) : ps.mergeSort pLe = qs.mergeSort pLe :=
  ((List.mergeSort_perm ps pLe).trans (h.trans (List.mergeSort_perm qs pLe).symm)).eq_of_pairwise (fun _ _ _ _ h1 h2 => pLe_antisymm h1 h2) (dl_pw dPl ps) (dl_pw dPl qs)
theorem due_eq (fs : List Plc) (zs : List GC) : (runC (fs.mergeSort pLe) zs).mergeSort pLe = (runC fs zs).mergeSort pLe := sort_perm (runC_perm zs (List.mergeSort_perm fs pLe))
theorem runC_len (zs : List GC) (fs : List Plc) : (runC fs zs).length ≤ fs.length + zs.length := by
  induction zs generalizing fs with
  | nil => exact Nat.le_refl _
  | cons z zs ih =>
    have h1 : (runC fs (z :: zs)).length ≤ (mkC fs z.2).length + zs.length := ih (mkC fs z.2)
    have h2 := mkC_len fs z.2
    simp only [List.length_cons]
    omega
end Bt
namespace Bt
open PySem PySem.Spec PyProof.Rows L2 LamX NdefX
open PySem.W (dataLt dataLe alike AllAlike Sortable)
theorem words133_ : True := by
  k_with "s_T13f" => first
    | ((with_reducible refine' s_var ?hv ?_); (case hv => exact rfl))
    | with_reducible first
      | refine' s_c ?_ | refine' s_op ?_ | refine' s_asg ?_ | refine' s_gname ?_ | refine' s_seq ?_ | refine' s_next ?_ | refine' s_ret ?_ | refine' s_ifS ?_ | refine' s_drop ?_ | refine' s_retN ?_ | refine' s_test ?_ | refine' s_B ?_ | refine' q_test ?_ | refine' s_int ?_ | refine' s_cons ?_ | refine' s_nil ?_ | refine' s_call ?_ | refine' s_CB ?_ | refine' s_andT ?_ | refine' s_orT ?_ | refine' s_notT ?_ | refine' s_andV ?_ | refine' s_orV ?_ | refine' s_notV ?_ | refine' s_ifV ?_ | refine' s_chain ?_ | refine' s_sl ?_ | refine' s_noPart ?_ | refine' s_part ?_ | refine' s_gsub ?_ | refine' s_BM ?_ | refine' s_tup ?_ | refine' s_lst ?_ | refine' q_add ?_ | refine' q_sub ?_ | refine' q_lt ?_ | refine' q_le ?_ | refine' q_gt ?_ | refine' q_ge ?_ | refine' s_ifT ?_ | refine' s_ifF ?_ | refine' s_yes ?_ | refine' s_iStr ?_ | refine' s_M0 ?_ | refine' s_for ?_ | refine' s_rng1 ?_ | refine' s_par ?_ | refine' s_gcons ?_ | refine' s_gnil ?_ | refine' s_iList ?_ | refine' s_iEnum ?_ | refine' s_raise1 ?_
      | (refine' q_mod ?hm ?_; (case hm => first | omega | decide))
    | dsimp only
  k_with "r_T13f" => repeat (k_extra "s_T13f")
  trivial
/-! ### Story(..) of one and of two, in a try and out of it; o[k] -/
section
variable {X : Cx} {CS CI CN : Addr} {k : Nat} {p pos apos : Pos} {e e2 o : Expr} {ta tb to : TE}
theorem pe_story2 (T : Txt X.K X.mg) (N : TxtN X.K X.mg) (I : TxtI X.K X.mg) (C : TxtC13 X.K X.mg) (S : TxtS13 X.K X.mg) (SC : StoryC X.K X.mg CS) (SM : StoryM X.K CS) (XS : ExcF X.K X.mg "InvalidStory" "value" CI) (hr : Room k X.A) (hk : 7 ≤ k) (h1 : PE X e ta) (h2 : PE X e2 tb) (hg : Gl X "Story" := by rfl)
    (s1 : starEach (e :: [e2]) X.env = (false, eval e X.env) :: starEach [e2] X.env := by rfl) (s2 : starEach (e2 :: []) X.env = (false, eval e2 X.env) :: starEach [] X.env := by rfl) (s3 : (backTo pos (starEach [e2] X.env)).any (·.1) = false := by rfl) :
    PE X (.Call (.Name "Story" p) [e, e2] [] pos) (tMake CS (spInitK X.K CS CI) [] E0 (tCons ta (tCons tb tNil))) := by
  obtain ⟨f, fd, i1, i2, F, b, _⟩ := SC.init
  exact pe_make ⟨SC.makes, i1, i2, SC.kp⟩ (ok_story_initK T N I C S SC SM XS F) (hr.mono hk) hg SC.g b .nil passL (pa_cons h1 (pa_cons h2 pa_nil s2) s1) (by decide) s1 s3
theorem pe_story1 (T : Txt X.K X.mg) (N : TxtN X.K X.mg) (I : TxtI X.K X.mg) (C : TxtC13 X.K X.mg) (S : TxtS13 X.K X.mg) (SC : StoryC X.K X.mg CS) (SM : StoryM X.K CS) (XS : ExcF X.K X.mg "InvalidStory" "value" CI) (hr : Room k X.A) (hk : 7 ≤ k) (h1 : PE X e ta) (hg : Gl X "Story" := by rfl)
    (s1 : starEach (e :: []) X.env = (false, eval e X.env) :: starEach [] X.env := by rfl) (s3 : (backTo pos (starEach [] X.env)).any (·.1) = false := by rfl) :
    PE X (.Call (.Name "Story" p) [e] [] pos) (tMake CS (spInitK X.K CS CI) [.non] E0 (tCons ta tNil)) := by
  obtain ⟨f, fd, i1, i2, F, _, b⟩ := SC.init
  exact pe_make ⟨SC.makes, i1, i2, SC.kp⟩ (ok_story_initK T N I C S SC SM XS F) (hr.mono hk) hg SC.g b (.cons rfl .nil) passL (pa_cons h1 pa_nil s1) (by decide) s1 s3
theorem pe_story2S {W : WX} (T : Txt X.K X.mg) (N : TxtN X.K X.mg) (I : TxtI X.K X.mg) (C : TxtC13 X.K X.mg) (S : TxtS13 X.K X.mg) (SC : StoryC X.K X.mg CS) (SM : StoryM X.K CS) (XS : ExcF X.K X.mg "InvalidStory" "value" CI) (hr : Room k X.A) (hk : 7 ≤ k) (tk : Takes X W) (h1 : PE X e ta) (h2 : PE X e2 tb) (hg : Gl X "Story" := by rfl)
    (s1 : starEach (e :: [e2]) X.env = (false, eval e X.env) :: starEach [e2] X.env := by rfl) (s2 : starEach (e2 :: []) X.env = (false, eval e2 X.env) :: starEach [] X.env := by rfl) (s3 : (backTo pos (starEach [e2] X.env)).any (·.1) = false := by rfl) :
    PE X (.Call (.Name "Story" p) [e, e2] [] pos) (tMakeS CS (spInitK X.K CS CI) [] (fun σ => WE W σ) (tCons ta (tCons tb tNil))) := by
  obtain ⟨f, fd, i1, i2, F, b, _⟩ := SC.init
  exact pe_makeS ⟨SC.makes, i1, i2, SC.kp⟩ (ok_story_initK T N I C S SC SM XS F) (hr.mono hk) hg SC.g b .nil (fun σ => passAt tk σ) (pa_cons h1 (pa_cons h2 pa_nil s2) s1) (by decide) s1 s3
theorem pe_story1S {W : WX} (T : Txt X.K X.mg) (N : TxtN X.K X.mg) (I : TxtI X.K X.mg) (C : TxtC13 X.K X.mg) (S : TxtS13 X.K X.mg) (SC : StoryC X.K X.mg CS) (SM : StoryM X.K CS) (XS : ExcF X.K X.mg "InvalidStory" "value" CI) (hr : Room k X.A) (hk : 7 ≤ k) (tk : Takes X W) (h1 : PE X e ta) (hg : Gl X "Story" := by rfl)
    (s1 : starEach (e :: []) X.env = (false, eval e X.env) :: starEach [] X.env := by rfl) (s3 : (backTo pos (starEach [] X.env)).any (·.1) = false := by rfl) :
    PE X (.Call (.Name "Story" p) [e] [] pos) (tMakeS CS (spInitK X.K CS CI) [.non] (fun σ => WE W σ) (tCons ta tNil)) := by
  obtain ⟨f, fd, i1, i2, F, _, b⟩ := SC.init
  exact pe_makeS ⟨SC.makes, i1, i2, SC.kp⟩ (ok_story_initK T N I C S SC SM XS F) (hr.mono hk) hg SC.g b (.cons rfl .nil) (fun σ => passAt tk σ) (pa_cons h1 pa_nil s1) (by decide) s1 s3
end
section
variable {P : Program} {w : World} {K : PySem.W.Frag} {mg : Str → Option Value} {base : Heap} {CS CI CN : Addr}
theorem q_story2 {H : Hp} {Q : Addr → Hp → Prop} {E : XK} {a b : V} {ps : List Plc} {zs : List GC} (h : SbY H a b ps zs)
    (k : ∀ x H' f' c' d', H x = none → H f' = none → H c' = none → H d' = none → Same H H' → StoAt CS H' x f' c' d' (ps.mergeSort pLe) zs (runC ps zs) → Q x H') :
    ∀ x dx, H x = none → H dx = none → dx ≠ x → spInitK K CS CI [.ref x, a, b] (upd (upd H dx (.own x)) x (.ins CS dx [])) (fun v H2 => v = .non ∧ Q x H2) E := fun x dx nx nD ne => by
  have S := same_made (C := CS) nx nD
  exact ⟨x, dx, a, b, rfl, upd_same, .inl ⟨ps, zs, h.mono S, fun H' f' c' d' st n1 n2 n3 B => ⟨rfl, k x H' f' c' d' nx (S.free n1) (S.free n2) (S.free n3) (fun b o e => B b o (ne_of_none e nx) (S _ _ e)) st⟩⟩⟩
theorem q_storyN {H : Hp} {Q : Addr → Hp → Prop} {E : XK} {a b : V} (h : SbN K CS H a b)
    (k : ∀ H' t d, Same H H' → H t = none → H d = none → H' d = some (.xd [("value", .ref t)]) → H' t = some (.tup [a, b]) → E (.ref CI) (some d) H') :
    ∀ x dx, H x = none → H dx = none → dx ≠ x → spInitK K CS CI [.ref x, a, b] (upd (upd H dx (.own x)) x (.ins CS dx [])) (fun v H2 => v = .non ∧ Q x H2) E := fun x dx nx nD ne => by
  have S := same_made (C := CS) nx nD
  exact ⟨x, dx, a, b, rfl, upd_same, .inr ⟨h.mono S, fun H' t d S' nt nd hd ht => k H' t d (S.trans S') (S.free nt) (S.free nd) hd ht⟩⟩
/-- check_index of what is none -/
def spCIX (K : PySem.W.Frag) (CN : Addr) : Sp := fun vs H Q E => ∃ v T n, vs = [v, .int n] ∧ Pl K H v T ∧ (∀ i, v = .int i → ¬ (0 ≤ i ∧ i < n)) ∧ ∀ H' d, Same H H' → H d = none → H' d = some (.xd [("value", v)]) → E (.ref CN) (some d) H'
theorem ok_check_indexX (T : Txt K mg) (S : TxtS13 K mg) (XN : ExcF K mg "InvalidNumber" "value" CN) : CalX P w K mg base 3 "check_index" (spCIX K CN) := by
  refine S.d_ci.calX sc_check_index (fun vs H Q E h => ?_) (fun f cdv A outer s H vs Q E hr h => ?_)
  · obtain ⟨v, T, n, rfl, _⟩ := h
    rfl
  · obtain ⟨v, ty, n, rfl, hv, no, k⟩ := h
    refine ⟨_, (pss_one (ps_if (pt_not (PW.pt (pw_and (pt_val (pe_c (ok_is_whole T) hr (by decide) rfl (pa_cons (pv 0) pa_nil))) (pw_and1 (pt_chain op_leI op_ltI pe_int (pv 0) (pv 1)))))) (pss_one (ps_raise1 rfl XN hr (by decide) (takes_of rfl rfl rfl rfl) (pv 0))) pss_nil)), ?_⟩
    k_extra "r_T13f"
    refine ⟨v, ty, rfl, hv, ?_⟩
    k_extra "r_T13f"
    by_cases e : ty = "int"
    · obtain ⟨i, rfl⟩ := hv.of_int e
      subst e
      refine s_if1 rfl ?_
      k_extra "r_T13f"
      have ni := no i rfl
      refine s_ifD (fun h0 => ?_) (fun h0 => ?_)
      · k_extra "r_T13f"
        refine s_ifND (fun h1 => absurd ⟨h0, h1⟩ ni) (fun _ => ?_)
        refine s_raise1 ?_
        k_extra "r_T13f"
        exact fun d H3 nd S3 hd => k H3 d S3 nd hd
      · k_extra "r_T13f"
        refine s_if1 rfl ?_
        refine s_raise1 ?_
        k_extra "r_T13f"
        exact fun d H3 nd S3 hd => k H3 d S3 nd hd
    · refine s_if0 (beq_eq_false_iff_ne.mpr e) ?_
      refine s_if1 rfl ?_
      refine s_raise1 ?_
      k_extra "r_T13f"
      exact fun d H3 nd S3 hd => k H3 d S3 nd hd
def spGetX (K : PySem.W.Frag) (CS CN : Addr) : Sp := fun vs H Q E => ∃ x f c d ps zs st v T, vs = [.ref x, v] ∧ StoAt CS H x f c d ps zs st ∧ Pl K H v T ∧ (∀ i, v = .int i → ¬ (0 ≤ i ∧ i < zs.length)) ∧ ∀ H' e, Same H H' → H e = none → H' e = some (.xd [("value", v)]) → E (.ref CN) (some e) H'
theorem ok_story_getX {f : Addr} {fd : FuncData} (T : Txt K mg) (N : TxtN K mg) (S : TxtS13 K mg) (SC : StoryC K mg CS) (XN : ExcF K mg "InvalidNumber" "value" CN) (F : Fun K "__getitem__" "Story.__getitem__" s_Story___getitem__ f fd) : FnOk P w K mg base (L2.CX P w) 4 f fd ["self", "at"] (spGetX K CS CN) := by
  refine F.okX sc_Story___getitem__ (fun vs H Q E h => ?_) (fun cdv A outer s H vs Q E hr h => ?_)
  · obtain ⟨x, f, c, d, ps, zs, st, v, T, rfl, _⟩ := h
    rfl
  · obtain ⟨x, f, c, d, ps, zs, st, v, ty, rfl, hs, hv, no, kk⟩ := h
    refine ⟨_, (pss_cons (ps_expr (pe_cxS (ok_check_indexX T S XN) hr (by decide) (takes_of rfl rfl rfl rfl) rfl (pa_cons (pv 1) (pa_cons (pe_callB call_lenQ (by rfl) N.n_len (by decide +kernel) (pa_cons (pe_fld (pv 0) rfl) pa_nil)) pa_nil)))) pss_deadA), ?_⟩
    obtain ⟨dx, hx⟩ := hs.hx
    obtain ⟨ts, hc, cs⟩ := hs.hc
    have lt : ts.length = zs.length := Paired.length cs
    k_extra "r_T13f"
    refine s_callSD ?_
    k_extra "r_T13f"
    refine s_fld ?_
    k_extra "r_T13f"
    refine ⟨x, CS, dx, _, .ref c, rfl, hx, SC.cl, SC.n2, lk_changes _ _ _, ?_⟩
    k_extra "r_T13f"
    refine q_lenL (SqL.of hc) ?_
    k_extra "r_T13f"
    refine ⟨v, ty, _, rfl, hv, (fun i e => by rw [lt]; exact no i e), fun H1 d1 S1 n1 h1 => ?_⟩
    k_extra "r_T13f"
    exact kk H1 d1 S1 n1 h1
end
end Bt
namespace Bt
open PySem PySem.Spec PyProof.Rows L2 LamX NdefX
open PySem.W (dataLt dataLe alike AllAlike Sortable)
theorem words134_ : True := by
  k_with "s_L13h" => first
    | ((with_reducible refine' s_var ?hv ?_); (case hv => exact rfl))
    | with_reducible first
      | refine' s_c ?_ | refine' s_op ?_ | refine' s_asg ?_ | refine' s_gname ?_ | refine' s_seq ?_ | refine' s_next ?_ | refine' s_ret ?_ | refine' s_ifS ?_ | refine' s_drop ?_ | refine' s_retN ?_ | refine' s_test ?_ | refine' s_B ?_ | refine' q_test ?_ | refine' s_int ?_ | refine' s_cons ?_ | refine' s_nil ?_ | refine' s_call ?_ | refine' s_CB ?_ | refine' s_andT ?_ | refine' s_orT ?_ | refine' s_notT ?_ | refine' s_andV ?_ | refine' s_orV ?_ | refine' s_notV ?_ | refine' s_ifV ?_ | refine' s_chain ?_ | refine' s_sl ?_ | refine' s_noPart ?_ | refine' s_part ?_ | refine' s_gsub ?_ | refine' s_BM ?_ | refine' s_tup ?_ | refine' s_lst ?_ | refine' q_add ?_ | refine' q_sub ?_ | refine' q_lt ?_ | refine' q_le ?_ | refine' q_gt ?_ | refine' q_ge ?_ | refine' s_ifT ?_ | refine' s_ifF ?_ | refine' s_yes ?_ | refine' s_iStr ?_ | refine' s_M0 ?_ | refine' s_for ?_ | refine' s_rng1 ?_ | refine' s_par ?_ | refine' s_gcons ?_ | refine' s_gnil ?_ | refine' s_iList ?_ | refine' s_iEnum ?_ | refine' s_raise1 ?_
      | (refine' q_mod ?hm ?_; (case hm => first | omega | decide))
    | dsimp only
  k_with "r_L13h" => repeat (k_extra "s_L13h")
  trivial
/-! ### refused, added, got, fresh, whole -/
/-- what a value is: no list, or these items -/
inductive Vw (K : PySem.W.Frag) (H : Hp) (x : V) : Option (List V) → Prop where
  | no {T : String} : Pl K H x T → T ≠ "list" → Vw K H x none
  | lst {q : Addr} {xs : List V} : x = .ref q → H q = some (.lst xs) → Vw K H x (some xs)
theorem Vw.mono {K : PySem.W.Frag} {H H' : Hp} {x : V} {o : Option (List V)} (S : Same H H') (h : Vw K H x o) : Vw K H' x o := by
  cases h with
  | no h n => exact .no (h.mono S) n
  | lst e h => exact .lst e (S _ _ h)
/-- no list of places -/
def FsB (K : PySem.W.Frag) (H : Hp) : Option (List V) → Prop
  | none => True
  | some xs => xs.length < 60 ∧ ((∃ r : V → Bool, (∀ y ∈ xs, PlK K H y (r y)) ∧ xs.all r = false) ∨ ∃ ps, Pls H xs ps ∧ (∀ p ∈ ps, NmP p) ∧ ¬ ps.Nodup)
def FsY (H : Hp) (o : Option (List V)) (ps : List Plc) : Prop := ∃ xs, o = some xs ∧ xs.length < 60 ∧ Pls H xs ps ∧ (∀ p ∈ ps, NmP p) ∧ ps.Nodup
/-- no first and changes of a story -/
def SbB (K : PySem.W.Frag) (CS : Addr) (H : Hp) (o1 o2 : Option (List V)) : Prop := FsB K H o1 ∨ ∃ ps, FsY H o1 ps ∧ ∀ ts, o2 = some ts → RunK K CS H ts 0 ps none
theorem FsB.mono {K : PySem.W.Frag} {H H' : Hp} (S : Same H H') : ∀ {o : Option (List V)}, FsB K H o → FsB K H' o
  | none, _ => trivial
  | some _, ⟨z, h⟩ => ⟨z, h.imp (fun ⟨r, h1, h2⟩ => ⟨r, fun y m => (h1 y m).mono S, h2⟩) fun ⟨ps, h1, h2⟩ => ⟨ps, h1.mono S, h2⟩⟩
theorem FsY.mono {H H' : Hp} (S : Same H H') {o : Option (List V)} {ps : List Plc} : FsY H o ps → FsY H' o ps := fun ⟨xs, e, z, h, n⟩ => ⟨xs, e, z, h.mono S, n⟩
theorem SbB.mono {K : PySem.W.Frag} {CS : Addr} {H H' : Hp} (S : Same H H') {o1 o2 : Option (List V)} : SbB K CS H o1 o2 → SbB K CS H' o1 o2
  | .inl h => .inl (h.mono S)
  | .inr ⟨ps, h, k⟩ => .inr ⟨ps, h.mono S, fun ts e => (k ts e).mono S⟩
theorem FsB.fsK {K : PySem.W.Frag} {H : Hp} {x : V} {o : Option (List V)} (v : Vw K H x o) (h : FsB K H o) : FsK K H x false := by
  cases v with
  | no p n => exact .no p n
  | lst e hq =>
    obtain ⟨z, h⟩ := h
    rcases h with ⟨r, h1, h2⟩ | ⟨ps, h1, h2, h3⟩
    · exact .item r e hq (by omega) h1 h2
    · exact (decide_eq_false h3) ▸ FsK.lst e hq (by omega) h1 h2
theorem FsY.fsK {K : PySem.W.Frag} {H : Hp} {x : V} {o : Option (List V)} {ps : List Plc} (v : Vw K H x o) (h : FsY H o ps) : FsK K H x true := by
  obtain ⟨xs, e, z, h1, h2, h3⟩ := h
  cases v with
  | no p n => cases e
  | lst e2 hq =>
    cases e
    exact (decide_eq_true h3) ▸ FsK.lst e2 hq (by omega) h1 h2
theorem Vw.pl {K : PySem.W.Frag} {H : Hp} {x : V} {o : Option (List V)} (v : Vw K H x o) : ∃ T, Pl K H x T := by
  cases v with
  | no p n => exact ⟨_, p⟩
  | lst e hq => exact ⟨"list", e ▸ Pl.lst hq⟩
theorem SbB.sbN {K : PySem.W.Frag} {CS : Addr} {H : Hp} {a b : V} {o1 o2 : Option (List V)} (va : Vw K H a o1) (vb : Vw K H b o2) (h : (b = .non ∧ FsB K H o1) ∨ (b ≠ .non ∧ SbB K CS H o1 o2)) : SbN K CS H a b := by
  rcases h with ⟨e, h⟩ | ⟨e, h⟩
  · exact .inl ⟨e, h.fsK va⟩
  · refine .inr ⟨e, ?_⟩
    obtain ⟨T, pb⟩ := vb.pl
    rcases h with h | ⟨ps, h, k⟩
    · exact .first (h.fsK va) pb
    · cases vb with
      | no p n => exact .kind (h.fsK va) p n
      | lst e2 hc =>
        obtain ⟨xs, e3, z, h1, h2, h3⟩ := h
        cases va with
        | no p n => cases e3
        | lst e4 hq =>
          cases e3
          exact .lst e4 hq h1 h2 (by omega) h3 e2 hc (k _ rfl)
/-- a value that is equal to itself and to a copy of it -/
def SelfA (K : PySem.W.Frag) (H : Hp) (x : V) : Option (List V) → Prop
  | none => SelfV K H x
  | some xs => xs.length < 100 ∧ ∀ y ∈ xs, SelfV K H y
theorem s_par3 {i j l : Nat} {ta : TA} {D : Ends} {σ : L2.St} {H : Hp} (h : ta σ H fun vs H1 => ∃ u v w, vs = [u, v, w] ∧ D.nx (((σ.set i (some u)).set j (some v)).set l (some w)) H1) : tPar3 i j l ta D σ H := h
section
variable {P : Program} {w : World} {K : PySem.W.Frag} {mg : Str → Option Value} {base : Heap} {CS CI CC CN : Addr}
/-- the copy of a value: itself, or a new list -/
def CpA (K : PySem.W.Frag) (H0 H : Hp) (x : V) (o : Option (List V)) (y : V) : Prop := match o with
  | none => y = x
  | some xs => ∃ q, y = .ref q ∧ H0 q = none ∧ H q = some (.lst xs)
theorem CpA.vw {H0 H : Hp} {x y : V} {o : Option (List V)} (S : Same H0 H) (v : Vw K H0 x o) (c : CpA K H0 H x o y) : Vw K H y o := by
  cases v with
  | no p n =>
    obtain rfl : y = x := c
    exact .no (p.mono S) n
  | lst e h =>
    obtain ⟨q, rfl, _, hq⟩ := c
    exact .lst rfl hq
theorem CpA.mono {H0 H H' : Hp} {x y : V} {o : Option (List V)} (S : Same H H') (c : CpA K H0 H x o y) : CpA K H0 H' x o y := by
  cases o with
  | none => exact c
  | some xs => exact let ⟨q, e, n, h⟩ := c; ⟨q, e, n, S _ _ h⟩
theorem CpA.eqv {H0 H : Hp} {x y : V} {o : Option (List V)} (S : Same H0 H) (v : Vw K H0 x o) (s : SelfA K H0 x o) (c : CpA K H0 H x o y) : EqV K H 1 y x true := by
  cases v with
  | no p n =>
    obtain rfl : y = x := c
    exact EqV.up S _ _ _ _ (show EqV K H0 0 y y true from s) 1 (Nat.zero_le 1)
  | @lst a xs e h =>
    obtain ⟨q, rfl, n, hq⟩ := c
    subst e
    have := EqV.lst (K := K) (H := H) (n := 0) (a := q) (b := a) (fun z => by rw [z, h] at n; cases n) (SqL.of hq) (SqL.of (S _ _ h)) (selfs fun y m => (s.2 y m).mono S)
    rw [all_trues] at this
    exact this
theorem CpA.self {H0 H H' : Hp} {x y : V} {o : Option (List V)} (v : Vw K H0 x o) (s : SelfA K H0 x o) (c : CpA K H0 H x o y) : SelfV K H' y := by
  cases v with
  | no p n =>
    obtain rfl : y = x := c
    exact (show SelfV K H0 y from s).any
  | lst e h =>
    obtain ⟨q, rfl, n, hq⟩ := c
    exact .ref q
def spRefused (K : PySem.W.Frag) (CS : Addr) : Sp := fun vs H Q _ => ∃ a b o1 o2, vs = [a, b] ∧ Vw K H a o1 ∧ Vw K H b o2 ∧ SelfA K H a o1 ∧ SelfA K H b o2 ∧ ((b = .non ∧ FsB K H o1) ∨ (b ≠ .non ∧ SbB K CS H o1 o2)) ∧ ∀ H', Same H H' → Q (.bl true) H'
theorem ok__law_refused (T : Txt K mg) (N : TxtN K mg) (I : TxtI K mg) (C : TxtC13 K mg) (S : TxtS13 K mg) (SC : StoryC K mg CS) (SM : StoryM K CS) (XS : ExcF K mg "InvalidStory" "value" CI) (L : TxtL13 K mg) : Cal P w K mg base 8 "_law_refused" (spRefused K CS) := by
  refine L.d_refused.cal sc__law_refused (fun vs H Q E h => ?_) (fun f cdv A outer s H vs Q E hr h => ?_)
  · obtain ⟨a, b, o1, o2, rfl, _⟩ := h
    rfl
  · obtain ⟨a, b, o1, o2, rfl, va, vb, sa, sb, hb, k⟩ := h
    have hu := hr.units
    refine ⟨_, (pss_cons (ps_par3 (i := 2) (j := 3) (l := 4) (by rfl) sc__law_refused.nd rfl rfl rfl (by decide) (by decide) (by decide) rfl rfl rfl (pa_cons (pv 0) (pa_cons (pv 1) (pa_cons pe_non pa_nil))) (by rfl))
      (C8.pss_cut (ps_if (pt_val (pe_callB call_isi (by rfl) T.n_isinstance (by decide +kernel) (pa_cons (pv 2) (pa_cons (pe_bltn (v := .ty "list") (by rfl) T.n_list (by decide +kernel) rfl) pa_nil)))) (pss_one (ps_set (i := 2) sc__law_refused.nd rfl (.inl rfl) (pe_callTy call_listOf (by rfl) T.n_list (by decide +kernel) (pa_cons (pv 2) pa_nil)))) pss_nil)
      (C8.pss_cut (ps_if (pt_val (pe_callB call_isi (by rfl) T.n_isinstance (by decide +kernel) (pa_cons (pv 3) (pa_cons (pe_bltn (v := .ty "list") (by rfl) T.n_list (by decide +kernel) rfl) pa_nil)))) (pss_one (ps_set (i := 3) sc__law_refused.nd rfl (.inl rfl) (pe_callTy call_listOf (by rfl) T.n_list (by decide +kernel) (pa_cons (pv 3) pa_nil)))) pss_nil)
      (pss_cons (ps_try_as (i := 5) (tb := fun W => tDrop (tMakeS CS (spInitK K CS CI) [] (fun σ => WE W σ) (tCons (tVar 2) (tCons (tVar 3) tNil)))) (ts := fun a cls d => tAsg (tXf a cls d CI "value" (tVar 5)) (gName 4)) (Wout := fun _ _ _ _ => False) rfl rfl sc__law_refused.nd rfl rfl ⟨rfl, by decide, Or.inl XS.g⟩ L2.takes0
        (fun W pn xe tk _ => pss_one (ps_expr (by exact (pe_story2S T N I C S SC SM XS hr (by decide) tk (pv 2) (pv 3)))))
        (fun a oe cls d pn hz hf => pss_one (ps_set (i := 4) sc__law_refused.nd rfl (Or.inl rfl) (by exact (pe_xf XS.xf XS.no hz hf (pv 5))))))
      (pss_cons (ps_if (PW.pt (pw_or (pt_not (pt_val (pe_callB call_isi (by rfl) T.n_isinstance (by decide +kernel) (pa_cons (pv 4) (pa_cons (pe_bltn (v := .ty "tuple") (by rfl) T.n_tuple (by decide +kernel) rfl) pa_nil))))) (pw_or1 (pt_cmpR (op_neI (n := 1) (room66 hr)) (pv 4) (pe_tup (pa_cons (pv 0) (pa_cons (pv 1) pa_nil))) (by rfl))))) (pss_one (ps_ret pe_bl)) pss_nil)
      (C8.pss_cut (ps_for PassesOwn.never rfl (pi_list (pe_lst (pa_cons (pv 2) (pa_cons (pv 3) pa_nil)))) (pg_name (i := 6) sc__law_refused.nd rfl (.inl rfl))
        (pss_one (ps_if (pt_val (pe_callB call_isi (by rfl) T.n_isinstance (by decide +kernel) (pa_cons (pv 6) (pa_cons (pe_bltn (v := .ty "list") (by rfl) T.n_list (by decide +kernel) rfl) pa_nil)))) (pss_one (ps_expr (pe_bm PySem.F.plainAttrs_list PySem.F.slot_list_append PySem.F.type_list_append mt_append (pv 6) (pa_cons pe_str pa_nil)))) pss_nil)))
      (pss_one (ps_ret (pe_cmpR (op_eqI (n := 1) (room66 hr)) (pv 4) (pe_tup (pa_cons (pv 2) (pa_cons (pv 3) pa_nil))) (by rfl)))))))))), ?_⟩
    k_extra "r_L13h"
    refine s_par3 ?_
    k_extra "r_L13h"
    refine ⟨_, _, _, rfl, ?_⟩
    k_extra "r_L13h"
    refine q_cut8 (M := fun σ H' => ∃ y, σ = [some a, some b, some y, some b, some .non, none, none] ∧ Same H H' ∧ CpA K H H' a o1 y) ?_ ?_
    · k_extra "r_L13h"
      cases va with
      | no p n =>
        refine q_isi p .lst ?_
        rw [show subKd _ "list" = false by cases p.2 <;> first | rfl | exact absurd rfl n]
        k_extra "r_L13h"
        exact ⟨a, rfl, Same.refl H, rfl⟩
      | lst e h =>
        subst e
        refine q_isi (Pl.lst h) .lst ?_
        k_extra "r_L13h"
        refine s_if1 rfl ?_
        k_extra "r_L13h"
        refine q_listL (SqL.of h) fun q H1 n1 S1 h1 => ?_
        k_extra "r_L13h"
        exact ⟨_, rfl, S1, q, rfl, n1, h1⟩
    rintro σ H1 ⟨y, rfl, S1, cy⟩
    refine q_cut8 (M := fun σ H' => ∃ u, σ = [some a, some b, some y, some u, some .non, none, none] ∧ Same H1 H' ∧ CpA K H1 H' b o2 u) ?_ ?_
    · k_extra "r_L13h"
      cases vb with
      | no p n =>
        refine q_isi (p.mono S1) .lst ?_
        rw [show subKd _ "list" = false by cases p.2 <;> first | rfl | exact absurd rfl n]
        k_extra "r_L13h"
        exact ⟨b, rfl, Same.refl H1, rfl⟩
      | lst e h =>
        subst e
        refine q_isi (Pl.lst (S1 _ _ h)) .lst ?_
        k_extra "r_L13h"
        refine s_if1 rfl ?_
        k_extra "r_L13h"
        refine q_listL (SqL.of (S1 _ _ h)) fun q H2 n2 S2 h2 => ?_
        k_extra "r_L13h"
        exact ⟨_, rfl, S2, q, rfl, n2, h2⟩
    rintro σ H2 ⟨u, rfl, S2, cu⟩
    have S12 := S1.trans S2
    have cy2 := cy.mono S2
    have vy := cy2.vw S12 va
    have vu := cu.vw S2 (vb.mono S1)
    have hb2 : (u = .non ∧ FsB K H2 o1) ∨ (u ≠ .non ∧ SbB K CS H2 o1 o2) := by
      rcases hb with ⟨rfl, h⟩ | ⟨e, h⟩
      · cases vb with
        | no p n => exact .inl ⟨cu, h.mono S12⟩
        | lst e _ => cases e
      · refine .inr ⟨fun z => ?_, h.mono S12⟩
        cases vb with
        | no p n => exact e ((show u = b from cu) ▸ z)
        | lst _ _ =>
          obtain ⟨q, e2, _⟩ := cu
          rw [z] at e2
          cases e2
    k_extra "r_L13h"
    refine s_makeS ?_
    k_extra "r_L13h"
    refine q_storyN (SbB.sbN vy vu hb2) fun H3 t d S3 nt nd hd ht => ?_
    refine ⟨true, XS.te, fun _ a0 ha0 => ?_, fun q => Bool.noConfusion q⟩
    k_extra "r_L13h"
    refine ⟨_, rfl, rfl, rfl, d, _, .ref t, rfl, hd, (by simp [List.lookup]), ?_⟩
    k_extra "r_L13h"
    refine q_isi (Pl.tup ht) .tup ?_
    k_extra "r_L13h"
    refine s_if0 rfl ?_
    k_extra "r_L13h"
    refine q_newT (by show 2 ≤ sizeLine; decide) fun t2 H4 n4 S4 h4 => ?_
    have S34 := S3.trans S4
    have S04 := S12.trans S34
    have ey : EqV K H4 1 y a true := (cy2.mono S34).eqv S04 va sa
    have eu : EqV K H4 1 u b true := by
      have vb1 := vb.mono S1
      have sb1 : SelfA K H1 b o2 := by
        cases o2 with
        | none => exact SelfV.mono S1 sb
        | some xs => exact ⟨sb.1, fun z m => (sb.2 z m).mono S1⟩
      exact (cu.mono S34).eqv (S2.trans S34) vb1 sb1
    refine ⟨_, _, _, _, _, rfl, rfl, .inr ⟨SqT.of (S4 _ _ ht), SqT.of h4⟩, .cons ey (.cons eu .nil), ?_⟩
    refine q_test (s_if0 rfl ?_)
    k_extra "r_L13h"
    refine q_cut8 (M := fun σ H' => ∃ v6, σ = [some a, some b, some y, some u, some (.ref t), none, v6] ∧ Same H H' ∧ H' t = some (.tup [y, u])) ?_ ?_
    · k_extra "r_L13h"
      refine q_newL (by show 2 ≤ sizeLine; decide) fun l H5 n5 S5 h5 => ?_
      k_extra "r_L13h"
      have S05 := S04.trans S5
      have nl : H l = none := S04.free n5
      have ht5 := (S4.trans S5) _ _ ht
      have ntH : H t = none := S12.free nt
      have item : ∀ z ∈ [y, u], (∃ T, Pl K H z T ∧ T ≠ "list") ∨ ∃ q xs, z = .ref q ∧ H q = none ∧ q ≠ l ∧ H5 q = some (.lst xs) ∧ xs.length < 100 + 0 := fun z m => by
        have one : ∀ {x z : V} {o : Option (List V)} {H0 : Hp}, Same H H0 → Same H0 H4 → Vw K H x o → SelfA K H x o → CpA K H0 H4 x o z → (∃ T, Pl K H z T ∧ T ≠ "list") ∨ ∃ q xs, z = .ref q ∧ H q = none ∧ q ≠ l ∧ H5 q = some (.lst xs) ∧ xs.length < 100 + 0 := fun {x z o H0} s0 s4 v sl c => by
          cases v with
          | no p n => exact .inl ⟨_, (show z = x from c) ▸ p, n⟩
          | lst e h =>
            obtain ⟨q, e2, nq, hq⟩ := c
            exact .inr ⟨q, _, e2, s0.free nq, (fun z => by rw [z, n5] at hq; cases hq), S5 _ _ hq, sl.1⟩
        rcases List.mem_cons.mp m with rfl | m
        · exact one (Same.refl H) S04 va sa (cy2.mono S34)
        · rw [List.mem_singleton.mp m]
          exact one S1 (S2.trans S34) vb sb (cu.mono S34)
      refine ⟨l, rfl, ⟨_, SqL.of h5⟩, q_forL (K := K) (a := l) (xs := [y, u]) (fun i σ H' => ∃ v6, σ = [some a, some b, some y, some u, some (.ref t), none, v6] ∧ Same H H' ∧ H' t = some (.tup [y, u]) ∧ H' l = some (.lst [y, u]) ∧
        ∀ z ∈ [y, u], (∃ T, Pl K H z T ∧ T ≠ "list") ∨ ∃ q xs, z = .ref q ∧ H q = none ∧ q ≠ l ∧ H' q = some (.lst xs) ∧ xs.length < 100 + i) ⟨none, rfl, S05, ht5, h5, item⟩ (fun i σ H' _ ⟨_, _, _, _, h, _⟩ => SqL.of h) ?_ ?_⟩
      · rintro i z σ H6 hz ⟨v6, rfl, S6, h6, l6, it⟩
        have mz := List.mem_of_getElem? hz
        have li : i < 2 := (List.getElem?_eq_some_iff.mp hz).1
        k_extra "r_L13h"
        rcases it z mz with ⟨T, p, n⟩ | ⟨q, xs, rfl, nq, ql, hq, lx⟩
        · refine q_isi (p.mono S6) .lst ?_
          rw [show subKd _ "list" = false by cases p.2 <;> first | rfl | exact absurd rfl n]
          k_extra "r_L13h"
          exact ⟨_, rfl, S6, h6, l6, fun z m => (it z m).imp id fun ⟨q, xs, h1, h2, h3, h4, h5⟩ => ⟨q, xs, h1, h2, h3, h4, by omega⟩⟩
        · refine q_isi (Pl.lst hq) .lst ?_
          k_extra "r_L13h"
          refine s_if1 rfl ?_
          k_extra "r_L13h"
          refine ⟨.inl ⟨rfl, _, SqL.of hq⟩, ?_⟩
          k_extra "r_L13h"
          refine q_append hq (szlt (by omega)) fun H7 b7 h7 => ?_
          k_extra "r_L13h"
          refine ⟨_, rfl, fun c o e => b7 c o (fun z => by rw [z, nq] at e; cases e) (S6 _ _ e), b7 _ _ (fun z => by rw [z, hq] at h6; cases h6) h6, b7 _ _ ql.symm l6, fun z m => (it z m).imp id fun ⟨q', xs', g1, g2, g3, g4, g5⟩ => ?_⟩
          by_cases e : q' = q
          · subst e
            exact ⟨q', _, g1, g2, g3, h7, by rw [List.length_append, List.length_singleton]; omega⟩
          · exact ⟨q', xs', g1, g2, g3, b7 _ _ e g4, by omega⟩
      · rintro σ H6 ⟨v6, rfl, S6, h6, _⟩
        k_extra "r_L13h"
        exact ⟨_, rfl, S6, h6⟩
    · rintro σ H5 ⟨v6, rfl, S5, h5⟩
      k_extra "r_L13h"
      refine q_newT (by show 2 ≤ sizeLine; decide) fun t3 H6 n6 S6 h6 => ?_
      have sy : EqV K H6 1 y y true := EqV.up (Same.refl H6) _ _ _ _ (cy2.self va sa (H' := H6)) 1 (Nat.zero_le 1)
      have su : EqV K H6 1 u u true := by
        have vb1 := vb.mono S1
        have sb1 : SelfA K H1 b o2 := by
          cases o2 with
          | none => exact SelfV.mono S1 sb
          | some xs => exact ⟨sb.1, fun z m => (sb.2 z m).mono S1⟩
        exact EqV.up (Same.refl H6) _ _ _ _ (cu.self vb1 sb1 (H' := H6)) 1 (Nat.zero_le 1)
      refine ⟨_, _, _, _, _, rfl, rfl, .inr ⟨SqT.of (S6 _ _ h5), SqT.of h6⟩, .cons sy (.cons su .nil), ?_⟩
      exact k H6 (S5.trans S6)
end
end Bt
namespace Bt
open PySem PySem.Spec PyProof.Rows L2 LamX NdefX
open PySem.W (dataLt dataLe alike AllAlike Sortable)
theorem words135_ : True := by
  k_with "s_L13i" => first
    | ((with_reducible refine' s_var ?hv ?_); (case hv => exact rfl))
    | with_reducible first
      | refine' s_c ?_ | refine' s_op ?_ | refine' s_asg ?_ | refine' s_gname ?_ | refine' s_seq ?_ | refine' s_next ?_ | refine' s_ret ?_ | refine' s_ifS ?_ | refine' s_drop ?_ | refine' s_retN ?_ | refine' s_test ?_ | refine' s_B ?_ | refine' q_test ?_ | refine' s_int ?_ | refine' s_cons ?_ | refine' s_nil ?_ | refine' s_call ?_ | refine' s_CB ?_ | refine' s_andT ?_ | refine' s_orT ?_ | refine' s_notT ?_ | refine' s_andV ?_ | refine' s_orV ?_ | refine' s_notV ?_ | refine' s_ifV ?_ | refine' s_chain ?_ | refine' s_sl ?_ | refine' s_noPart ?_ | refine' s_part ?_ | refine' s_gsub ?_ | refine' s_BM ?_ | refine' s_tup ?_ | refine' s_lst ?_ | refine' q_add ?_ | refine' q_sub ?_ | refine' q_lt ?_ | refine' q_le ?_ | refine' q_gt ?_ | refine' q_ge ?_ | refine' s_ifT ?_ | refine' s_ifF ?_ | refine' s_yes ?_ | refine' s_iStr ?_ | refine' s_M0 ?_ | refine' s_for ?_ | refine' s_rng1 ?_ | refine' s_par ?_ | refine' s_gcons ?_ | refine' s_gnil ?_ | refine' s_iList ?_ | refine' s_iEnum ?_ | refine' s_raise1 ?_
      | (refine' q_mod ?hm ?_; (case hm => first | omega | decide))
    | dsimp only
  k_with "r_L13i" => repeat (k_extra "s_L13i")
  trivial
/-! ### refused alone, added, got, whole, fresh -/
theorem nd_le {α : Type} [DecidableEq α] : ∀ {l m : List α}, l.Nodup → (∀ x ∈ l, x ∈ m) → l.length ≤ m.length
  | [], _, _, _ => Nat.zero_le _
  | x :: l, m, nd, h => by
    have mx := h x List.mem_cons_self
    have := nd_le (l := l) (m := m.erase x) (List.nodup_cons.mp nd).2 fun y my => (List.mem_erase_of_ne (fun (z : y = x) => (List.nodup_cons.mp nd).1 (z ▸ my))).mpr (h y (List.mem_cons_of_mem _ my))
    rw [List.length_erase_of_mem mx] at this
    have := List.length_pos_of_mem mx
    rw [List.length_cons]
    omega
def qPl (c : Nat) : Plc := ("q", ⟨#[c]⟩)
theorem nmq : Nm "q" := ⟨by decide +kernel, by decide +kernel, by decide +kernel⟩
theorem qPl_inj {a b : Nat} (h : qPl a = qPl b) : a = b := by
  injection h with _ h
  injection h with h
  have := congrArg Array.toList h
  simpa using this
theorem qPl_nm {c : Nat} (h : c ∈ alpha) : NmP (qPl c) := ⟨nmq, ⟨Nat.le_refl 1, (by show 1 ≤ 8; decide), fun d m => by
  have : d = c := by simpa [qPl] using m
  rw [this]; exact h⟩⟩
theorem fresh_ex {ps : List Plc} (l : ps.length ≤ 20) : ∃ c us, alpha.filter (fun c => !decide (qPl c ∈ ps)) = c :: us ∧ c ∈ alpha ∧ qPl c ∉ ps := by
  cases e : alpha.filter (fun c => !decide (qPl c ∈ ps)) with
  | cons c us =>
    have m : c ∈ alpha.filter (fun c => !decide (qPl c ∈ ps)) := by rw [e]; exact List.mem_cons_self
    rw [List.mem_filter] at m
    exact ⟨c, us, rfl, m.1, by simpa using m.2⟩
  | nil =>
    exfalso
    have all : ∀ c ∈ alpha, qPl c ∈ ps := fun c m => by
      have := List.filter_eq_nil_iff.mp e c m
      simpa using this
    have n1 : (alpha.map qPl).Nodup := List.Pairwise.map qPl (fun _ _ ne e => ne (qPl_inj e)) alpha_nd
    have n2 := nd_le (m := ps) n1 fun x m => by
      obtain ⟨c, mc, rfl⟩ := List.mem_map.mp m
      exact all c mc
    rw [List.length_map, show alpha.length = 26 by decide +kernel] at n2
    omega
section
variable {P : Program} {w : World} {K : PySem.W.Frag} {mg : Str → Option Value} {base : Heap} {CS CI CC CN : Addr}
def spAlone (K : PySem.W.Frag) : Sp := fun vs H Q _ => ∃ a o1, vs = [a] ∧ Vw K H a o1 ∧ SelfV K H a ∧ FsB K H o1 ∧ ∀ H', Same H H' → Q (.bl true) H'
theorem ok__law_refused_alone (T : Txt K mg) (N : TxtN K mg) (I : TxtI K mg) (C : TxtC13 K mg) (S : TxtS13 K mg) (SC : StoryC K mg CS) (SM : StoryM K CS) (XS : ExcF K mg "InvalidStory" "value" CI) (L : TxtL13 K mg) : Cal P w K mg base 8 "_law_refused_alone" (spAlone K) := by
  refine L.d_alone.cal sc__law_refused_alone (fun vs H Q E h => ?_) (fun f cdv A outer s H vs Q E hr h => ?_)
  · obtain ⟨a, o1, rfl, _⟩ := h
    rfl
  · obtain ⟨a, o1, rfl, va, sa, hb, k⟩ := h
    refine ⟨_, (pss_cons (ps_set (i := 1) sc__law_refused_alone.nd rfl (.inl rfl) pe_non)
      (pss_cons (ps_try_as (i := 2) (tb := fun W => tDrop (tMakeS CS (spInitK K CS CI) [.non] (fun σ => WE W σ) (tCons (tVar 0) tNil))) (ts := fun a cls d => tAsg (tXf a cls d CI "value" (tVar 2)) (gName 1)) (Wout := fun _ _ _ _ => False) rfl rfl sc__law_refused_alone.nd rfl rfl ⟨rfl, by decide, Or.inl XS.g⟩ L2.takes0
        (fun W pn xe tk _ => pss_one (ps_expr (by exact (pe_story1S T N I C S SC SM XS hr (by decide) tk (pv 0)))))
        (fun a oe cls d pn hz hf => pss_one (ps_set (i := 1) sc__law_refused_alone.nd rfl (Or.inl rfl) (by exact (pe_xf XS.xf XS.no hz hf (pv 2))))))
      (pss_one (ps_ret (pe_and (pe_callB call_isi (by rfl) T.n_isinstance (by decide +kernel) (pa_cons (pv 1) (pa_cons (pe_bltn (v := .ty "tuple") (by rfl) T.n_tuple (by decide +kernel) rfl) pa_nil))) (pe_one (pe_cmpR (op_eqI (n := 1) (room66 hr)) (pv 1) (pe_tup (pa_cons (pv 0) (pa_cons pe_non pa_nil))) (by rfl)))))))), ?_⟩
    k_extra "r_L13i"
    refine s_makeS ?_
    k_extra "r_L13i"
    refine q_storyN (.inl ⟨rfl, hb.fsK va⟩) fun H3 t d S3 nt nd hd ht => ?_
    refine ⟨true, XS.te, fun _ a0 ha0 => ?_, fun q => Bool.noConfusion q⟩
    k_extra "r_L13i"
    refine ⟨_, rfl, rfl, rfl, d, _, .ref t, rfl, hd, (by simp [List.lookup]), ?_⟩
    k_extra "r_L13i"
    refine q_isi (Pl.tup ht) .tup ?_
    k_extra "r_L13i"
    refine s_if1 rfl ?_
    k_extra "r_L13i"
    refine q_newT (by show 2 ≤ sizeLine; decide) fun t2 H4 n4 S4 h4 => ?_
    have ey : EqV K H4 1 a a true := EqV.up (Same.refl H4) _ _ _ _ (sa.any (H' := H4)) 1 (Nat.zero_le 1)
    have eu : EqV K H4 1 .non .non true := EqV.up (Same.refl H4) _ _ _ _ (SelfV.non (H := H4)) 1 (Nat.zero_le 1)
    refine ⟨_, _, _, _, _, rfl, rfl, .inr ⟨SqT.of (S4 _ _ ht), SqT.of h4⟩, .cons ey (.cons eu .nil), ?_⟩
    exact k H4 (S3.trans S4)
def spAdded (K : PySem.W.Frag) (CS : Addr) : Sp := fun vs H Q _ => ∃ x f c d ps zs st y, vs = [.ref x, y] ∧ StoAt CS H x f c d ps zs st ∧ st.length < 90 ∧ zs.length < 1000 ∧ 0 ≤ lastG 0 zs ∧
  ((∃ z, ChAt H y z ∧ lastG 0 zs ≤ z.1 ∧ (∀ p ∈ z.2.pcs, NmP p) ∧ Can st z.2 ∧ ∀ D H', H D = none → H' D = some (.lst [.str "none"]) → StoAt CS H' x f c d ps (zs ++ [z]) (mkC st z.2) → (∀ b o, b ≠ c → b ≠ d → H b = some o → H' b = some o) → Q (.ref D) H') ∨
   (MayK K CS H y (lastG 0 zs) st false ∧ ∀ D H', H D = none → Same H H' → H' D = some (.lst [y]) → Q (.ref D) H'))
theorem ok__law_added (T : Txt K mg) (N : TxtN K mg) (I : TxtI K mg) (C : TxtC13 K mg) (S : TxtS13 K mg) (SC : StoryC K mg CS) (SM : StoryM K CS) (XC : ExcF K mg "InvalidChange" "value" CC) (L : TxtL13 K mg) : Cal P w K mg base 7 "_law_added" (spAdded K CS) := by
  refine L.d_added.cal sc__law_added (fun vs H Q E h => ?_) (fun fn cdv A outer s H vs Q E hr h => ?_)
  · obtain ⟨x, f, c, d, ps, zs, st, y, rfl, _⟩ := h
    rfl
  · obtain ⟨x, f, c, d, ps, zs, st, y, rfl, hs, l9, lz, g0, hk⟩ := h
    obtain ⟨fi, fdi, i0, i1, i2, Fi, bi⟩ := SM.iadd
    refine ⟨_, (pss_cons (ps_set (i := 2) sc__law_added.nd rfl (.inl rfl) (pe_lst (pa_cons pe_str pa_nil)))
      (pss_cons (ps_try_as (i := 3) (tb := fun W => tAugOwnS 0 CS (spIaddK K CS CC) (fun σ => WE W σ) (tVar 1)) (ts := fun a cls d => tAsg (tLst (tCons (tXf a cls d CC "value" (tVar 3)) tNil)) (gName 2)) (Wout := fun _ _ _ _ => False) rfl rfl sc__law_added.nd rfl rfl ⟨rfl, by decide, Or.inl XC.g⟩ L2.takes0
        (fun W pn xe tk _ => pss_one (by exact (ps_augOwnS (i := 0) sc__law_added.nd rfl (.inl rfl) (pv 1) (ok_story_iaddK T N I C S SC SM XC Fi) (hr.mono (by decide)) i0 i1 i2 bi (fun σ => passAt tk σ))))
        (fun a oe cls d pn hz hf => pss_one (ps_set (i := 2) sc__law_added.nd rfl (Or.inl rfl) (by exact pe_lst (pa_cons (pe_xf XC.xf XC.no hz hf (pv 3)) pa_nil)))))
      (pss_one (ps_ret (pv 2))))), ?_⟩
    k_extra "r_L13i"
    refine q_newL (by show 1 ≤ sizeLine; decide) fun l0 H1 n1 S1 h1 => ?_
    k_extra "r_L13i"
    have hs1 := hs.mono S1
    obtain ⟨dx, hx⟩ := id hs1.hx
    refine s_augOwnS ⟨.ref x, rfl, ?_⟩
    k_extra "r_L13i"
    refine ⟨x, dx, _, rfl, hx, x, f, c, d, ps, zs, st, y, rfl, hs1, l9, lz, g0, ?_⟩
    rcases hk with ⟨z, hy, hg, nm, can, k⟩ | ⟨no, k⟩
    · refine .inl ⟨z, hy.mono S1, hg, nm, can, fun H2 s2 b2 => ⟨x, rfl, ?_⟩⟩
      k_extra "r_L13i"
      have lc : l0 ≠ c := fun e => by
        obtain ⟨ts, h, _⟩ := hs.hc
        rw [← e, n1] at h; cases h
      have ld : l0 ≠ d := fun e => by
        have h := hs.hd
        rw [← e, n1] at h; cases h
      exact k l0 H2 n1 (b2 _ _ lc ld h1) s2 fun b o nc nd e => b2 b o nc nd (S1 _ _ e)
    · refine .inr ⟨no.mono S1, fun H2 d2 S2 nd hd => ⟨true, XC.te, fun _ a0 ha0 => ?_, fun q => Bool.noConfusion q⟩⟩
      k_extra "r_L13i"
      refine ⟨_, rfl, rfl, rfl, d2, _, y, rfl, hd, (by simp [List.lookup]), ?_⟩
      k_extra "r_L13i"
      refine q_newL (by show 1 ≤ sizeLine; decide) fun l1 H3 n3 S3 h3 => ?_
      k_extra "r_L13i"
      exact k l1 H3 ((S1.trans S2).free n3) (S1.trans (S2.trans S3)) h3
def spGot (K : PySem.W.Frag) (CS : Addr) : Sp := fun vs H Q _ => ∃ x f c d ps zs st v T, vs = [.ref x, v] ∧ StoAt CS H x f c d ps zs st ∧ Pl K H v T ∧ (∀ i, v = .int i → ¬ (0 ≤ i ∧ i < zs.length)) ∧ ∀ D H', H D = none → Same H H' → H' D = some (.lst [v]) → Q (.ref D) H'
theorem ok__law_got (T : Txt K mg) (N : TxtN K mg) (S : TxtS13 K mg) (SC : StoryC K mg CS) (SM : StoryM K CS) (XN : ExcF K mg "InvalidNumber" "value" CN) (L : TxtL13 K mg) : Cal P w K mg base 6 "_law_got" (spGot K CS) := by
  refine L.d_got.cal sc__law_got (fun vs H Q E h => ?_) (fun fn cdv A outer s H vs Q E hr h => ?_)
  · obtain ⟨x, f, c, d, ps, zs, st, v, T, rfl, _⟩ := h
    rfl
  · obtain ⟨x, f, c, d, ps, zs, st, v, ty, rfl, hs, hv, no, k⟩ := h
    obtain ⟨fg, fdg, g1, g2, g3, Fg, bg⟩ := SM.get
    refine ⟨_, (pss_cons (ps_set (i := 2) sc__law_got.nd rfl (.inl rfl) (pe_lst (pa_cons pe_str pa_nil)))
      (pss_cons (ps_try_as (i := 3) (tb := fun W => tAsg (tLst (tCons (tIxOwnS CS (spGetX K CS CN) (fun σ => WE W σ) (tVar 0) (tVar 1)) (tCons (tC (.int 0)) tNil))) (gName 2)) (ts := fun a cls d => tAsg (tLst (tCons (tXf a cls d CN "value" (tVar 3)) tNil)) (gName 2)) (Wout := fun _ _ _ _ => False) rfl rfl sc__law_got.nd rfl rfl ⟨rfl, by decide, Or.inl XN.g⟩ L2.takes0
        (fun W pn xe tk _ => pss_one (by exact (ps_set (i := 2) sc__law_got.nd rfl (.inl rfl) (pe_lst (pa_cons (pe_ixOwnS (pv 0) (pv 1) (ok_story_getX T N S SC XN Fg) (hr.mono (by decide)) g1 g2 g3 bg (fun σ => passAt tk σ)) (pa_cons pe_int pa_nil))))))
        (fun a oe cls d pn hz hf => pss_one (ps_set (i := 2) sc__law_got.nd rfl (Or.inl rfl) (by exact pe_lst (pa_cons (pe_xf XN.xf XN.no hz hf (pv 3)) pa_nil)))))
      (pss_one (ps_ret (pv 2))))), ?_⟩
    k_extra "r_L13i"
    refine q_newL (by show 1 ≤ sizeLine; decide) fun l0 H1 n1 S1 h1 => ?_
    k_extra "r_L13i"
    have hs1 := hs.mono S1
    obtain ⟨dx, hx⟩ := id hs1.hx
    refine s_ixOwnS ?_
    k_extra "r_L13i"
    refine ⟨x, dx, _, rfl, hx, x, f, c, d, ps, zs, st, v, ty, rfl, hs1, hv.mono S1, no, fun H2 d2 S2 nd hd => ⟨true, XN.te, fun _ a0 ha0 => ?_, fun q => Bool.noConfusion q⟩⟩
    k_extra "r_L13i"
    refine ⟨_, rfl, rfl, rfl, d2, _, v, rfl, hd, (by simp [List.lookup]), ?_⟩
    k_extra "r_L13i"
    refine q_newL (by show 1 ≤ sizeLine; decide) fun l1 H3 n3 S3 h3 => ?_
    k_extra "r_L13i"
    exact k l1 H3 ((S1.trans S2).free n3) (S1.trans (S2.trans S3)) h3
theorem ok__law_whole (T : Txt K mg) (L : TxtL13 K mg) : Cal P w K mg base 1 "_law_whole" (spWhole K) := by
  refine L.d_whole.cal sc__law_whole (fun vs H Q E h => ?_) (fun f cdv A outer s H vs Q E hr h => ?_)
  · obtain ⟨x, T, rfl, _⟩ := h
    rfl
  · obtain ⟨x, ty, rfl, hx, k⟩ := h
    refine ⟨_, (pss_one (ps_ret (pe_and (pe_callB call_isi (by rfl) T.n_isinstance (by decide +kernel) (pa_cons (pv 0) (pa_cons (pe_bltn (v := .ty "int") (by rfl) T.n_int (by decide +kernel) rfl) pa_nil))) (pe_one (pe_not (pe_callB call_isi (by rfl) T.n_isinstance (by decide +kernel) (pa_cons (pv 0) (pa_cons (pe_bltn (v := .ty "bool") (by rfl) T.n_bool (by decide +kernel) rfl) pa_nil)))))))), ?_⟩
    k_extra "r_L13i"
    refine q_isi hx .int ?_
    k_extra "r_L13i"
    cases hx.2 <;> k_extra "r_L13i" <;> first | exact k | (refine s_if (fun _ => ?_) (fun z => absurd z (by decide)); k_extra "r_L13i"; refine q_isi hx .bl ?_; k_extra "r_L13i"; exact k)
def spFresh : Sp := fun vs H Q _ => ∃ lp xs ps, vs = [.ref lp] ∧ H lp = some (.lst xs) ∧ Pls H xs ps ∧ (∀ p ∈ ps, NmP p) ∧ ps.length ≤ 20 ∧ ∀ t H' p, H t = none → Same H H' → PlAt H' (.ref t) p → NmP p → p ∉ ps → Q (.ref t) H'
theorem ok__law_fresh (L : TxtL13 K mg) : Cal P w K mg base 1 "_law_fresh" spFresh := by
  refine L.d_fresh.cal sc__law_fresh (fun vs H Q E h => ?_) (fun f cdv A outer s H vs Q E hr h => ?_)
  · obtain ⟨lp, xs, ps, rfl, _⟩ := h
    rfl
  · obtain ⟨lp, xs, ps, rfl, hl, pl, nm, lps, k⟩ := h
    refine ⟨_, (pss_cons (ps_setLc (i := 1) (own := [("_law_name_here", 2)]) (g := gName 2) (tt := tTest (tOp (rNotInD K) (tTup (tCons (tC (.str "q")) (tCons (tVar 2) tNil))) (tVar 0))) (te := tVar 2) rfl sc__law_fresh.nd rfl rfl (sw_true rfl rfl rfl (by decide +kernel)) (pi_str pe_str) (blkOk_by (own := [("_law_name_here", 2)]) (N := ["_law_places", "_law_names_here", "_law_name_here"]) (sc := defScope s__law_fresh) (by decide +kernel)) (fun _ _ _ _ _ => pg_name (i := 2) sc__law_fresh.nd rfl (Or.inl rfl)) (fun _ _ _ _ _ => by exact pts_one (pt_cmpR (op_notInD (room65 hr)) (pe_tup (pa_cons pe_str (pa_cons (pv 2) pa_nil))) (pv 0) (by rfl))) (fun _ _ _ _ _ => (pv 2)))
      (pss_one (ps_ret (pe_tup (pa_cons pe_str (pa_cons (pe_ix ix_seq (pv 1) pe_int (fun _ _ => rfl)) pa_nil)))))), ?_⟩
    k_extra "r_L13i"
    refine s_lc ?_
    k_extra "r_L13i"
    refine ⟨alphaS, rfl, fun D nD => lc_str (z := alphaS) (fun i H' => Same H H' ∧ H' D = some (.lst (((alpha.take i).filter fun c => !decide (qPl c ∈ ps)).map fun c => .str ⟨#[c]⟩))) ⟨Same.new nD, upd_same⟩ ?_ ?_⟩
    · rintro j c H1 hj ⟨S1, h1⟩
      rw [alphaS_cps] at hj
      have mc := List.mem_of_getElem? hj
      k_extra "r_L13i"
      refine ⟨rfl, ?_⟩
      k_extra "r_L13i"
      refine q_newT (by show 2 ≤ sizeLine; decide) fun t H2 n2 S2 h2 => ?_
      have S02 := S1.trans S2
      k_extra "r_L13i"
      refine q_ninPl (p := qPl c) ⟨t, rfl, h2⟩ (qPl_nm mc) (S02 _ _ hl) (pl.mono S02) nm ?_
      rw [List.take_add_one, hj, List.filter_append]
      by_cases e : qPl c ∈ ps
      · rw [decide_eq_true e]
        refine ⟨_, rfl, ?_⟩
        refine ⟨S02, ?_⟩
        rw [show List.filter (fun c => !decide (qPl c ∈ ps)) (some c).toList = [] by simp [e], List.append_nil]
        exact S2 _ _ h1
      · rw [decide_eq_false e]
        refine ⟨_, rfl, s_if1 rfl ?_⟩
        k_extra "r_L13i"
        refine ⟨_, S2 _ _ h1, szlt (Nat.lt_of_le_of_lt (by rw [List.length_map]; exact List.length_filter_le _ _) (by rw [List.length_take, show alpha.length = 26 by decide +kernel]; omega)), same_mut S02 nD, ?_⟩
        rw [upd_same, show List.filter (fun c => !decide (qPl c ∈ ps)) (some c).toList = [c] by simp [e], List.map_append]
        rfl
    · rintro H1 ⟨S1, h1⟩
      obtain ⟨c, us, ef, mc, nc⟩ := fresh_ex lps
      rw [show alphaS.cps.size = alpha.length by decide +kernel, List.take_length, ef, List.map_cons] at h1
      k_extra "r_L13i"
      refine q_ixL (SqL.of h1) (at_of (j := 0) rfl rfl) ?_
      k_extra "r_L13i"
      refine q_newT (by show 2 ≤ sizeLine; decide) fun t H2 n2 S2 h2 => ?_
      exact k t H2 (qPl c) (S1.free n2) (S1.trans S2) ⟨t, rfl, h2⟩ (qPl_nm mc) nc
end
end Bt
namespace Bt
open PySem PySem.Spec PyProof.Rows L2 LamX NdefX
open PySem.W (dataLt dataLe alike AllAlike Sortable)
theorem words136_ : True := by
  k_with "s_L13j" => first
    | ((with_reducible refine' s_var ?hv ?_); (case hv => exact rfl))
    | with_reducible first
      | refine' s_c ?_ | refine' s_op ?_ | refine' s_asg ?_ | refine' s_gname ?_ | refine' s_seq ?_ | refine' s_next ?_ | refine' s_ret ?_ | refine' s_ifS ?_ | refine' s_drop ?_ | refine' s_retN ?_ | refine' s_test ?_ | refine' s_B ?_ | refine' q_test ?_ | refine' s_int ?_ | refine' s_cons ?_ | refine' s_nil ?_ | refine' s_call ?_ | refine' s_CB ?_ | refine' s_andT ?_ | refine' s_orT ?_ | refine' s_notT ?_ | refine' s_andV ?_ | refine' s_orV ?_ | refine' s_notV ?_ | refine' s_ifV ?_ | refine' s_chain ?_ | refine' s_sl ?_ | refine' s_noPart ?_ | refine' s_part ?_ | refine' s_gsub ?_ | refine' s_BM ?_ | refine' s_tup ?_ | refine' s_lst ?_ | refine' q_add ?_ | refine' q_sub ?_ | refine' q_lt ?_ | refine' q_le ?_ | refine' q_gt ?_ | refine' q_ge ?_ | refine' s_ifT ?_ | refine' s_ifF ?_ | refine' s_yes ?_ | refine' s_iStr ?_ | refine' s_M0 ?_ | refine' s_for ?_ | refine' s_rng1 ?_ | refine' s_par ?_ | refine' s_gcons ?_ | refine' s_gnil ?_ | refine' s_iList ?_ | refine' s_iEnum ?_ | refine' s_raise1 ?_
      | (refine' q_mod ?hm ?_; (case hm => first | omega | decide))
    | dsimp only
  k_with "r_L13j" => repeat (k_extra "s_L13j")
  trivial
/-! ### bad changes -/
def wo (D : Addr) (H : Hp) : Hp := fun b => if b = D then none else H b
theorem wo_get {D b : Addr} {H : Hp} (n : b ≠ D) : wo D H b = H b := if_neg n
theorem wo_sub {D : Addr} {H : Hp} : Same (wo D H) H := fun b o e => by
  unfold wo at e
  split at e
  · cases e
  · exact e
theorem wo_same {D : Addr} {H H' : Hp} (n : H D = none) (S : Same H H') : Same H (wo D H') := fun b o e => by
  rw [wo_get (ne_of_none e n)]
  exact S b o e
theorem wo_step {D : Addr} {H H' : Hp} (S : Same H H') : Same (wo D H) (wo D H') := fun b o e => by
  by_cases z : b = D
  · rw [z] at e
    exact absurd e (by unfold wo; rw [if_pos rfl]; intro h; cases h)
  · rw [wo_get z] at e ⊢
    exact S b o e
theorem wo_upd {D : Addr} {H : Hp} {o : HO} : wo D (upd H D o) = wo D H := by
  funext b
  by_cases z : b = D
  · unfold wo
    rw [if_pos z, if_pos z]
  · rw [wo_get z, wo_get z, upd_ne z]
theorem wo_but {D : Addr} {H H' : Hp} (B : But D H H') : Same (wo D H) (wo D H') := fun b o e => by
  by_cases z : b = D
  · rw [z] at e
    exact absurd e (by unfold wo; rw [if_pos rfl]; intro h; cases h)
  · rw [wo_get z] at e ⊢
    exact B b o z e

theorem s_dnew {σ : L2.St} {Q : VK} {H : Hp} (h : ∀ p H', H p = none → Same H H' → H' p = some (.dK []) → Q (.ref p) H') : tDNewK σ H Q := fun p n => h p _ n (Same.new n) upd_same
theorem Pl.dct {K : PySem.W.Frag} {H : Hp} {a : Addr} {kvs : List (Key × V)} (h : H a = some (.dK kvs)) : Pl K H (.ref a) "dict" := ⟨.base (.dK h), .dct⟩
theorem noTup_dct {H : Hp} {a : Addr} {kvs : List (Key × V)} (h : H a = some (.dK kvs)) : NoTup H (.ref a) := fun b e => by
  injection e with e
  subst e
  exact ⟨_, h, fun _ z => by cases z⟩
section
variable {K : PySem.W.Frag} {H : Hp}
theorem noTup_flat {v : V} (h : ∀ a, v ≠ .ref a) : NoTup H v := fun a e => absurd e (h a)
theorem noTup_lst {a : Addr} {xs : List V} (h : H a = some (.lst xs)) : NoTup H (.ref a) := fun b e => by
  injection e with e
  subst e
  exact ⟨_, h, fun _ z => nomatch z⟩
theorem plk_flat {T : String} {u : V} (h : Pl K H u T) (n : T ≠ "tuple") (f : ∀ a, u ≠ .ref a) : PlK K H u false := .no h n (noTup_flat f)
theorem plk_len {a : Addr} {ys : List V} (h : H a = some (.tup ys)) (hy : ∀ y ∈ ys, NameArg K H y) (n : ys.length ≠ 2) : PlK K H (.ref a) false :=
  .tup rfl (Pl.tup h) h hy ⟨(fun z => by cases z), fun ⟨b, u, v, e, h', _⟩ => by
    injection e with e
    subst e
    rw [h] at h'
    cases h'
    exact absurd rfl n⟩
theorem plk_bad {a : Addr} {x y : Str} (h : H a = some (.tup [.str x, .str y])) (l1 : x.length < 64) (l2 : y.length < 64) (n : ¬ (Nm x ∧ Nm y)) : PlK K H (.ref a) false :=
  .tup rfl (Pl.tup h) h (fun u hu => by
    rcases List.mem_cons.mp hu with rfl | hu
    · exact ⟨"str", Pl.str, fun z e => by cases e; exact l1⟩
    · rw [List.mem_singleton.mp hu]
      exact ⟨"str", Pl.str, fun z e => by cases e; exact l2⟩) ⟨(fun z => by cases z), fun ⟨b, u, v, e, h', ⟨z1, e1, n1⟩, ⟨z2, e2, n2⟩⟩ => by
    injection e with e
    subst e
    rw [h] at h'
    cases h'
    cases e1
    cases e2
    exact absurd ⟨n1, n2⟩ n⟩
end
theorem nn_empty : ¬ Nm "" := fun h => absurd h.1 (by decide)
theorem wo_move {D D2 : Addr} {H H' : Hp} (n : H D2 = none) (S : Same H H') : Same (wo D H) (wo D2 H') := wo_sub.trans (wo_same n S)
theorem all_nil {p : V → Prop} : ∀ y ∈ ([] : List V), p y := fun _ h => by cases h
theorem all_cons {p : V → Prop} {x : V} {xs : List V} (h : p x) (g : ∀ y ∈ xs, p y) : ∀ y ∈ x :: xs, p y := fun y m => by
  rcases List.mem_cons.mp m with rfl | m
  · exact h
  · exact g y m
/-- a list at D that grows, of things of the kind B -/
def BL (B : Hp → V → Prop) (n : Nat) (H0 H : Hp) (D : Addr) : Prop := H0 D = none ∧ Same H0 (wo D H) ∧ ∃ vs, H D = some (.lst vs) ∧ (∀ v ∈ vs, B (wo D H) v) ∧ vs.length ≤ n
section
variable {B : Hp → V → Prop} {n m : Nat} {H0 H H' : Hp} {D D2 : Addr}
theorem BL.same (b : BL B n H0 H D) : Same H0 H := b.2.1.trans wo_sub
theorem BL.new (n0 : H0 D = none) : BL B 0 H0 (upd H0 D (.lst [])) D := ⟨n0, wo_same n0 (Same.new n0), [], upd_same, (fun _ h => by cases h), Nat.le_refl _⟩
theorem BL.le (l : n ≤ m) (b : BL B n H0 H D) : BL B m H0 H D := ⟨b.1, b.2.1, let ⟨vs, h, k, z⟩ := b.2.2; ⟨vs, h, k, Nat.le_trans z l⟩⟩
theorem BL.step0 (mB : ∀ {H H' : Hp} {v : V}, Same H H' → B H v → B H' v) (S : Same H H') (b : BL B n H0 H D) : BL B n H0 H' D := ⟨b.1, b.2.1.trans (wo_step S), let ⟨vs, h, k, l⟩ := b.2.2; ⟨vs, S _ _ h, fun v m => mB (wo_step S) (k v m), l⟩⟩
theorem BL.put (b : BL B n H0 H D) {vs : List V} {v : V} (h : H D = some (.lst vs)) (hv : B (wo D H) v) : BL B (n + 1) H0 (upd H D (.lst (vs ++ [v]))) D := by
  obtain ⟨n0, S0, us, h', k, l⟩ := b
  rw [h] at h'
  cases h'
  refine ⟨n0, by rw [wo_upd]; exact S0, _, upd_same, fun u m => ?_, by rw [List.length_append, List.length_singleton]; omega⟩
  rw [wo_upd]
  rcases List.mem_append.mp m with m | m
  · exact k u m
  · rw [List.mem_singleton.mp m]; exact hv
theorem BL.but (mB : ∀ {H H' : Hp} {v : V}, Same H H' → B H v → B H' v) (b : BL B n H0 H D) {vs : List V} {v : V} (h : H D = some (.lst vs)) (hv : B (wo D H) v) (bt : But D H H') (h2 : H' D = some (.lst (vs ++ [v]))) : BL B (n + 1) H0 H' D := by
  obtain ⟨n0, S0, us, h', k, l⟩ := b
  rw [h] at h'
  cases h'
  refine ⟨n0, S0.trans (wo_but bt), _, h2, fun u m => ?_, by rw [List.length_append, List.length_singleton]; omega⟩
  rcases List.mem_append.mp m with m | m
  · exact mB (wo_but bt) (k u m)
  · rw [List.mem_singleton.mp m]; exact mB (wo_but bt) hv
theorem BL.cat (mB : ∀ {H H' : Hp} {v : V}, Same H H' → B H v → B H' v) (b : BL B n H0 H D) {vs ws : List V} (h : H D = some (.lst vs)) (n2 : H D2 = none) (S2 : Same H H') (h2 : H' D2 = some (.lst (vs ++ ws))) (hw : ∀ w ∈ ws, B H w) (lw : ws.length ≤ m) : BL B (n + m) H0 H' D2 := by
  obtain ⟨n0, S0, us, h', k, l⟩ := b
  rw [h] at h'
  cases h'
  refine ⟨(S0.trans wo_sub).free n2, S0.trans (wo_move n2 S2), _, h2, fun u m => ?_, by rw [List.length_append]; omega⟩
  rcases List.mem_append.mp m with m | m
  · exact mB (wo_move n2 S2) (k u m)
  · exact mB (wo_same n2 S2) (hw u m)
end
def Bad1 (K : PySem.W.Frag) (CS : Addr) (g : Int) (st : List Plc) (H : Hp) (v : V) : Prop := MayK K CS H v g st false ∧ SelfV K H v
section
variable {K : PySem.W.Frag} {CS : Addr} {g : Int} {st : List Plc} {H H' : Hp} {v : V} {t : Addr}
theorem Bad1.mono (S : Same H H') (h : Bad1 K CS g st H v) : Bad1 K CS g st H' v := ⟨h.1.mono S, h.2.mono S⟩
theorem BL.step {n : Nat} {H0 : Hp} {D : Addr} (b : BL (Bad1 K CS g st) n H0 H D) (S : Same H H') : BL (Bad1 K CS g st) n H0 H' D := b.step0 Bad1.mono S
theorem BL.catB {n m : Nat} {H0 : Hp} {D D2 : Addr} (b : BL (Bad1 K CS g st) n H0 H D) {vs ws : List V} (h : H D = some (.lst vs)) (n2 : H D2 = none) (S2 : Same H H') (h2 : H' D2 = some (.lst (vs ++ ws))) (hw : ∀ w ∈ ws, Bad1 K CS g st H w) (lw : ws.length ≤ m) : BL (Bad1 K CS g st) (n + m) H0 H' D2 :=
  BL.cat (B := Bad1 K CS g st) Bad1.mono b h n2 S2 h2 hw lw
theorem BL.butB {n : Nat} {H0 : Hp} {D : Addr} (b : BL (Bad1 K CS g st) n H0 H D) {vs : List V} {v : V} (h : H D = some (.lst vs)) (hv : Bad1 K CS g st (wo D H) v) (bt : But D H H') (h2 : H' D = some (.lst (vs ++ [v]))) : BL (Bad1 K CS g st) (n + 1) H0 H' D :=
  BL.but (B := Bad1 K CS g st) Bad1.mono b h hv bt h2
theorem ChAt.isRef {z : GC} (h : ChAt H v z) : ∃ t, v = .ref t := let ⟨t, _, e, _⟩ := h; ⟨t, e⟩
theorem self_ch {z : GC} (h : ChAt H v z) : SelfV K H v := by
  obtain ⟨t, rfl⟩ := h.isRef
  exact .ref t
theorem bad_poss {z : GC} (h : ChAt H v z) (g0 : 0 ≤ z.1) (n : ∀ p ∈ z.2.pcs, NmP p) (c : ¬ Can st z.2) : Bad1 K CS g st H v := by
  refine ⟨?_, self_ch h⟩
  have := MayK.yes (K := K) (CS := CS) (g := g) (st := st) h g0 n
  rw [show canB st z.2 = false from Bool.eq_false_iff.mpr fun e => c (canB_iff.mp e), Bool.and_false] at this
  exact this
theorem bad_gap {z : GC} (h : ChAt H v z) (n : ∀ p ∈ z.2.pcs, NmP p) (c : z.1 < g) : Bad1 K CS g st H v := by
  refine ⟨?_, self_ch h⟩
  by_cases g0 : 0 ≤ z.1
  · have := MayK.yes (K := K) (CS := CS) (g := g) (st := st) h g0 n
    rw [decide_eq_false (by omega), Bool.false_and] at this
    exact this
  · obtain ⟨t, ys, rfl, ht, hy⟩ := h
    have l1 : 1 ≤ ys.length := by rw [hy.len]; cases z.2 <;> simp [Ch.pcs]
    exact .no (.num rfl ht (by simp; omega) Pl.int fun i e => by cases e; omega)
theorem bad_num {y0 : V} {ys : List V} {T : String} (h : H t = some (.tup (y0 :: ys))) (l : 2 ≤ ys.length) (p : Pl K H y0 T) (n : ∀ i, y0 = .int i → i < 0) : Bad1 K CS g st H (.ref t) := ⟨.no (.num rfl h l p n), .ref t⟩
theorem bad_word {i : Int} {y1 : V} {ys : List V} (h : H t = some (.tup (.int i :: y1 :: ys))) (l : 1 ≤ ys.length) (g0 : 0 ≤ i) (w : WdN CS H y1) : Bad1 K CS g st H (.ref t) := ⟨.no (.word rfl h l g0 w), .ref t⟩
theorem bad_len {ys : List V} (h : H t = some (.tup ys)) (l : ys.length < 3) : Bad1 K CS g st H (.ref t) := ⟨.no (.len rfl h l), .ref t⟩
theorem bad_kind {T : String} (p : Pl K H v T) (n : T ≠ "tuple") (s : SelfV K H v) : Bad1 K CS g st H v := ⟨.no (.no p n), s⟩
theorem bad_ins {dx : Addr} {fs : List (Str × V)} (h : H t = some (.ins CS dx fs)) : Bad1 K CS g st H (.ref t) := ⟨.no (.ins rfl h), .ref t⟩
theorem plk_false {y : V} {b : Bool} (h : PlK K H y b) : PlK K H y b := h
/-- too many parts, or too few -/
theorem bad_many {i : Int} {wd : Str} {ys : List V} (h : H t = some (.tup (.int i :: .str wd :: ys))) (l : 1 ≤ ys.length ∧ ys.length < 60) (g0 : 0 ≤ i) (w : Wd wd) (k : ∀ y ∈ ys, ∃ b, PlK K H y b) (n : ys.length ≠ manyC wd) : Bad1 K CS g st H (.ref t) := by
  refine ⟨.no ?_, .ref t⟩
  classical
  have := ChK.parts (K := K) (CS := CS) (x := .ref t) (fun y => if m : y ∈ ys then (k y m).choose else true) rfl h l.1 l.2 g0 w fun y m => by
    rw [dif_pos m]
    exact (k y m).choose_spec
  rw [decide_eq_false n, Bool.false_and] at this
  exact this
/-- one part that is no place -/
theorem bad_part {i : Int} {wd : Str} {ys : List V} {u : V} (h : H t = some (.tup (.int i :: .str wd :: ys))) (l : 1 ≤ ys.length ∧ ys.length < 60) (g0 : 0 ≤ i) (w : Wd wd) (mu : u ∈ ys) (hu : PlK K H u false) (k : ∀ y ∈ ys, ∃ b, PlK K H y b) : Bad1 K CS g st H (.ref t) := by
  refine ⟨.no ?_, .ref t⟩
  classical
  have := ChK.parts (K := K) (CS := CS) (x := .ref t) (fun y => if y = u then false else if m : y ∈ ys then (k y m).choose else true) rfl h l.1 l.2 g0 w fun y m => by
    by_cases e : y = u
    · subst e
      rw [if_pos rfl]; exact hu
    · rw [if_neg e, dif_pos m]
      exact (k y m).choose_spec
  have e : (ys.all fun y => if y = u then false else if m : y ∈ ys then (k y m).choose else true) = false := by
    rw [Bool.eq_false_iff]
    intro z
    have := List.all_eq_true.mp z u mu
    rw [if_pos rfl] at this
    cases this
  rw [e, Bool.and_false] at this
  exact this
theorem one_plk {y : V} {b : Bool} (h : PlK K H y b) : ∀ u ∈ [y], ∃ b, PlK K H u b := fun u m => by rw [List.mem_singleton.mp m]; exact ⟨b, h⟩
theorem two_plk {y u : V} {b c : Bool} (h : PlK K H y b) (h' : PlK K H u c) : ∀ z ∈ [y, u], ∃ b, PlK K H z b := fun z m => by
  rcases List.mem_cons.mp m with rfl | m
  · exact ⟨b, h⟩
  · rw [List.mem_singleton.mp m]; exact ⟨c, h'⟩
end
theorem sby_nil {H : Hp} {l : Addr} (h : H l = some (.lst [])) : SbY H (.ref l) .non [] [] := ⟨⟨l, [], rfl, h, .nil, by decide⟩, (fun _ m => by cases m), .nil, ⟨[], .inl ⟨rfl, rfl⟩, .nil⟩, trivial⟩
section
variable {P : Program} {w : World} {K : PySem.W.Frag} {mg : Str → Option Value} {base : Heap} {CS CI CC CN : Addr}
def spBad (K : PySem.W.Frag) (CS : Addr) : Sp := fun vs H Q _ => ∃ q us st lp xs ps g, vs = [.ref q, .ref lp, .int g] ∧ H q = some (.lst us) ∧ Pls H us st ∧ (∀ p ∈ st, NmP p) ∧ us.length ≤ 40 ∧ H lp = some (.lst xs) ∧ Pls H xs ps ∧ (∀ p ∈ ps, NmP p) ∧ xs.length ≤ 20 ∧ 0 ≤ g ∧
  ∀ D H' n, n ≤ 200 → BL (Bad1 K CS g st) n H H' D → Q (.ref D) H'
theorem ok__law_bad_changes (T : Txt K mg) (N : TxtN K mg) (L : TxtL13 K mg) : Cal P w K mg base 1 "_law_bad_changes" (spBad K CS) := by
  refine L.d_bad.cal sc__law_bad_changes (fun vs H Q E h => ?_) (fun f cdv A outer s H vs Q E hr h => ?_)
  · obtain ⟨q, us, st, lp, xs, ps, g, rfl, _⟩ := h
    rfl
  · obtain ⟨q, us, st, lp, xs, ps, g, rfl, hq, pu, nu, lu, hl, pl, nm, lx, g0, k⟩ := h
    refine ⟨_, (pss_cons (ps_set (i := 4) sc__law_bad_changes.nd rfl (.inl rfl) (pe_op op_addU (pe_lc (own := [("_law_place", 3)]) (g := gName 3) (tt := tYes) (te := (tTup (tCons (tVar 2) (tCons (tC (.str "add")) (tCons (tVar 3) tNil))))) rfl sc__law_bad_changes.nd (pi_list (pv 0)) (blkOk_by (own := [("_law_place", 3)]) (N := ["_law_there", "_law_places", "_law_gap", "_law_place", "_law_bad", "_law_free", "_law_other"]) (sc := defScope s__law_bad_changes) (by decide +kernel)) (fun _ _ _ _ _ => pg_name (i := 3) sc__law_bad_changes.nd rfl (Or.inl rfl)) (fun _ _ _ _ _ => by exact pts_nil) (fun _ _ _ _ _ => by exact (pe_tup (pa_cons (pv 2) (pa_cons pe_str (pa_cons (pv 3) pa_nil)))))) (pe_lc (own := [("_law_place", 3)]) (g := gName 3) (tt := (tTest (tOp (rNotInD K) (tVar 3) (tVar 0)))) (te := (tTup (tCons (tVar 2) (tCons (tC (.str "take")) (tCons (tVar 3) tNil))))) rfl sc__law_bad_changes.nd (pi_list (pv 1)) (blkOk_by (own := [("_law_place", 3)]) (N := ["_law_there", "_law_places", "_law_gap", "_law_place", "_law_bad", "_law_free", "_law_other"]) (sc := defScope s__law_bad_changes) (by decide +kernel)) (fun _ _ _ _ _ => pg_name (i := 3) sc__law_bad_changes.nd rfl (Or.inl rfl)) (fun _ _ _ _ _ => by exact (pts_one (pt_cmpR (op_notInD (room65 hr)) (pv 3) (pv 0) (by rfl)))) (fun _ _ _ _ _ => by exact (pe_tup (pa_cons (pv 2) (pa_cons pe_str (pa_cons (pv 3) pa_nil))))))))
      (C8.pss_cut (ps_for PassesOwn.never rfl (pi_list (pv 1)) (pg_name (i := 3) sc__law_bad_changes.nd rfl (.inr rfl))
        (pss_cons (ps_expr (pe_bm PySem.F.plainAttrs_list PySem.F.slot_list_append PySem.F.type_list_append mt_append (pv 4) (pa_cons (pe_tup (pa_cons (pv 2) (pa_cons pe_str (pa_cons (pv 3) (pa_cons (pv 3) pa_nil))))) pa_nil)))
          (pss_cons (ps_set (i := 4) sc__law_bad_changes.nd rfl (.inl rfl) (pe_op op_addU (pv 4) (pe_lc (own := [("_law_other", 6)]) (g := gName 6) (tt := tYes) (te := (tTup (tCons (tVar 2) (tCons (tC (.str "rename")) (tCons (tVar 3) (tCons (tVar 6) tNil)))))) rfl sc__law_bad_changes.nd (pi_list (pe_slice sl_list (pv 0) po_none (po_some pe_int))) (blkOk_by (own := [("_law_other", 6)]) (N := ["_law_there", "_law_places", "_law_gap", "_law_place", "_law_bad", "_law_free", "_law_other"]) (sc := defScope s__law_bad_changes) (by decide +kernel)) (fun _ _ _ _ _ => pg_name (i := 6) sc__law_bad_changes.nd rfl (Or.inl rfl)) (fun _ _ _ _ _ => by exact pts_nil) (fun _ _ _ _ _ => by exact (pe_tup (pa_cons (pv 2) (pa_cons pe_str (pa_cons (pv 3) (pa_cons (pv 6) pa_nil)))))))))
          (pss_one (ps_set (i := 4) sc__law_bad_changes.nd rfl (.inl rfl) (pe_op op_addU (pv 4) (pe_lc (own := [("_law_other", 6)]) (g := gName 6) (tt := (tTest (tOp (rNotInD K) (tVar 6) (tVar 0)))) (te := (tTup (tCons (tVar 2) (tCons (tC (.str "rename")) (tCons (tVar 6) (tCons (tVar 3) tNil)))))) rfl sc__law_bad_changes.nd (pi_list (pe_slice sl_list (pv 1) po_none (po_some pe_int))) (blkOk_by (own := [("_law_other", 6)]) (N := ["_law_there", "_law_places", "_law_gap", "_law_place", "_law_bad", "_law_free", "_law_other"]) (sc := defScope s__law_bad_changes) (by decide +kernel)) (fun _ _ _ _ _ => pg_name (i := 6) sc__law_bad_changes.nd rfl (Or.inl rfl)) (fun _ _ _ _ _ => by exact (pts_one (pt_cmpR (op_notInD (room65 hr)) (pv 6) (pv 0) (by rfl)))) (fun _ _ _ _ _ => by exact (pe_tup (pa_cons (pv 2) (pa_cons pe_str (pa_cons (pv 6) (pa_cons (pv 3) pa_nil)))))))))))))
      (pss_cons (ps_setLc (i := 5) (own := [("_law_place", 3)]) (g := gName 3) (tt := (tTest (tOp (rNotInD K) (tVar 3) (tVar 0)))) (te := tVar 3) rfl sc__law_bad_changes.nd rfl rfl (sw_true rfl rfl rfl (by decide +kernel)) (pi_list (pv 1)) (blkOk_by (own := [("_law_place", 3)]) (N := ["_law_there", "_law_places", "_law_gap", "_law_place", "_law_bad", "_law_free", "_law_other"]) (sc := defScope s__law_bad_changes) (by decide +kernel)) (fun _ _ _ _ _ => pg_name (i := 3) sc__law_bad_changes.nd rfl (Or.inl rfl)) (fun _ _ _ _ _ => by exact (pts_one (pt_cmpR (op_notInD (room65 hr)) (pv 3) (pv 0) (by rfl)))) (fun _ _ _ _ _ => (pv 3)))
      (pss_cons (ps_for PassesOwn.never rfl (pi_list (pe_slice sl_list (pv 5) po_none (po_some pe_int))) (pg_name (i := 3) sc__law_bad_changes.nd rfl (.inr rfl))
        (pss_cons (ps_set (i := 4) sc__law_bad_changes.nd rfl (.inl rfl) (pe_op op_addU (pv 4) (pe_lst (pa_cons (pe_tup (pa_cons (pe_op op_subU (pv 2) pe_int) (pa_cons pe_str (pa_cons (pv 3) pa_nil)))) (pa_cons (pe_tup (pa_cons (pe_op op_subU (pe_op op_subU pe_int pe_int) (pv 2)) (pa_cons pe_str (pa_cons (pv 3) pa_nil)))) (pa_cons (pe_tup (pa_cons pe_non (pa_cons pe_str (pa_cons (pv 3) pa_nil)))) (pa_cons (pe_tup (pa_cons pe_str (pa_cons pe_str (pa_cons (pv 3) pa_nil)))) pa_nil)))))))
          (pss_cons (ps_set (i := 4) sc__law_bad_changes.nd rfl (.inl rfl) (pe_op op_addU (pv 4) (pe_lst (pa_cons (pe_tup (pa_cons (pv 2) (pa_cons pe_str (pa_cons (pv 3) pa_nil)))) (pa_cons (pe_tup (pa_cons (pv 2) (pa_cons pe_str (pa_cons (pv 3) pa_nil)))) (pa_cons (pe_tup (pa_cons (pv 2) (pa_cons pe_non (pa_cons (pv 3) pa_nil)))) (pa_cons (pe_lst (pa_cons (pv 2) (pa_cons pe_str (pa_cons (pv 3) pa_nil)))) (pa_cons (pe_tup (pa_cons (pv 2) (pa_cons pe_str pa_nil))) pa_nil))))))))
          (pss_cons (ps_set (i := 4) sc__law_bad_changes.nd rfl (.inl rfl) (pe_op op_addU (pv 4) (pe_lst (pa_cons (pe_tup (pa_cons (pv 2) (pa_cons pe_str (pa_cons (pv 3) (pa_cons (pv 3) pa_nil))))) (pa_cons (pe_tup (pa_cons (pv 2) (pa_cons pe_str (pa_cons (pe_ix ix_seq (pv 3) pe_int (fun _ _ => rfl)) pa_nil)))) (pa_cons (pe_tup (pa_cons (pv 2) (pa_cons pe_str (pa_cons (pe_lst (pa_cons (pe_ix ix_seq (pv 3) pe_int (fun _ _ => rfl)) (pa_cons (pe_ix ix_seq (pv 3) pe_int (fun _ _ => rfl)) pa_nil))) pa_nil)))) (pa_cons (pv 3) pa_nil)))))))
          (pss_one (ps_set (i := 4) sc__law_bad_changes.nd rfl (.inl rfl) (pe_op op_addU (pv 4) (pe_lst (pa_cons (pe_tup (pa_cons pe_str (pa_cons (pv 3) pa_nil))) (pa_cons (pe_tup (pa_cons (pv 2) (pa_cons pe_str (pa_cons (pe_tup (pa_cons (pe_ix ix_seq (pv 3) pe_int (fun _ _ => rfl)) (pa_cons pe_str pa_nil))) pa_nil)))) (pa_cons (pe_tup (pa_cons (pv 2) (pa_cons pe_str (pa_cons (pv 3) pa_nil)))) (pa_cons (pe_tup (pa_cons pe_bl (pa_cons pe_str (pa_cons (pv 3) pa_nil)))) (pa_cons pe_non pa_nil)))))))))))))
      (pss_one (ps_ret (pv 4))))))), ?_⟩
    k_extra "r_L13j"
    have one : ∀ {p : Plc}, NmP p → ∀ r ∈ [p], NmP r := fun h r m => by rw [List.mem_singleton.mp m]; exact h
    have twoN : ∀ {p r : Plc}, NmP p → NmP r → ∀ u ∈ [p, r], NmP u := fun h h' u m => by
      rcases List.mem_cons.mp m with rfl | m
      · exact h
      · rw [List.mem_singleton.mp m]; exact h'
    refine s_lc ?_
    k_extra "r_L13j"
    refine ⟨q, rfl, ⟨_, SqL.of hq⟩, fun D nD => lc_list (K := K) (a := q) (xs := us) (fun i H' => BL (Bad1 K CS g st) i H H' D) (BL.new nD) (fun i H' _ b => SqL.of (b.same _ _ hq)) ?_ ?_⟩
    · rintro i x H1 hx b1
      obtain ⟨p, ep, hp⟩ := pu.get2 hx
      have mp := List.mem_of_getElem? ep
      have lt := (List.getElem?_eq_some_iff.mp hx).1
      k_extra "r_L13j"
      refine ⟨rfl, ?_⟩
      k_extra "r_L13j"
      refine q_newT (by show 3 ≤ sizeLine; decide) fun t H2 n2 S2 h2 => ?_
      have b2 := b1.step S2
      obtain ⟨_, W2, vs, hv, _, lv⟩ := id b2
      have td : t ≠ D := fun z => by obtain ⟨_, _, _, h, _⟩ := b1; rw [← z, n2] at h; cases h
      refine ⟨_, hv, szlt (by omega), b2.put hv ?_⟩
      exact bad_poss (z := (g, .add p)) ⟨t, _, rfl, (by rw [wo_get td]; exact h2), .cons (hp.mono W2) .nil⟩ g0 (one (nu p mp)) fun c => c.2 p rfl mp
    intro H1 b1
    k_extra "r_L13j"
    refine s_lc ?_
    k_extra "r_L13j"
    refine ⟨lp, rfl, ⟨_, SqL.of (b1.same _ _ hl)⟩, fun D' nD' => lc_list (K := K) (a := lp) (xs := xs) (fun i H' => BL (Bad1 K CS g st) i H1 H' D') (BL.new nD') (fun i H' _ b => SqL.of (b.same _ _ (b1.same _ _ hl))) ?_ ?_⟩
    · rintro i x H2 hx b2
      obtain ⟨p, ep, hp⟩ := pl.get2 hx
      have mp := List.mem_of_getElem? ep
      have lt := (List.getElem?_eq_some_iff.mp hx).1
      have S2 := b1.same.trans b2.same
      k_extra "r_L13j"
      refine ⟨rfl, ?_⟩
      k_extra "r_L13j"
      refine q_ninPl (hp.mono S2) (nm p mp) (S2 _ _ hq) (pu.mono S2) nu ?_
      by_cases e : p ∈ st
      · rw [decide_eq_true e]
        refine ⟨_, rfl, ?_⟩
        exact b2.le (Nat.le_succ _)
      · rw [decide_eq_false e]
        refine ⟨_, rfl, s_if1 rfl ?_⟩
        k_extra "r_L13j"
        refine q_newT (by show 3 ≤ sizeLine; decide) fun t H3 n3 S3 h3 => ?_
        have b3 := b2.step S3
        obtain ⟨_, W3, vs, hv, _, lv⟩ := id b3
        have td : t ≠ D' := fun z => by obtain ⟨_, _, _, h, _⟩ := b2; rw [← z, n3] at h; cases h
        refine ⟨_, hv, szlt (by omega), b3.put hv ?_⟩
        exact bad_poss (z := (g, .take p)) ⟨t, _, rfl, (by rw [wo_get td]; exact h3), .cons (hp.mono (b1.same.trans W3)) .nil⟩ g0 (one (nm p mp)) fun c => e (c.1 p rfl)
    intro H2 b2
    have b12 := b1.step b2.same
    obtain ⟨_, _, vs1, hv1, _, lv1⟩ := id b12
    obtain ⟨_, _, vs2, hv2, kv2, lv2⟩ := id b2
    refine q_cat hv1 hv2 (sz (by omega)) fun D3 H3 n3 S3 h3 => ?_
    have kw : ∀ w ∈ vs2, Bad1 K CS g st H2 w := fun w m => by
      exact Bad1.mono wo_sub (kv2 w m)
    have b3 := b12.catB hv1 n3 S3 h3 kw lv2
    k_extra "r_L13j"
    clear hv1 hv2 kv2 b12 b2 b1
    refine q_cut8 (M := fun σ H' => ∃ D v3, σ = [some (.ref q), some (.ref lp), some (.int g), v3, some (.ref D), none, none] ∧ BL (Bad1 K CS g st) (us.length + xs.length + 5 * xs.length) H H' D) ?_ ?_
    · k_extra "r_L13j"
      refine ⟨lp, rfl, ⟨_, SqL.of (b3.same _ _ hl)⟩, q_forL (K := K) (a := lp) (xs := xs) (fun i σ H' => ∃ D v3, σ = [some (.ref q), some (.ref lp), some (.int g), v3, some (.ref D), none, none] ∧ BL (Bad1 K CS g st) (us.length + xs.length + 5 * i) H H' D) ⟨_, _, rfl, b3⟩ (fun i σ H' _ ⟨_, _, _, b⟩ => SqL.of (b.same _ _ hl)) ?_ ?_⟩
      · rintro i x σ H4 hx ⟨D, v3, rfl, b⟩
        obtain ⟨p, ep, hp0⟩ := pl.get2 hx
        have mp := List.mem_of_getElem? ep
        have lt := (List.getElem?_eq_some_iff.mp hx).1
        have np := nm p mp
        k_extra "r_L13j"
        obtain ⟨_, _, vs, hv, _, lv⟩ := id b
        refine ⟨.inl ⟨rfl, _, SqL.of hv⟩, ?_⟩
        k_extra "r_L13j"
        refine q_newT (by show 4 ≤ sizeLine; decide) fun t H5 n5 S5 h5 => ?_
        k_extra "r_L13j"
        refine q_append (S5 _ _ hv) (szlt (by omega)) fun H6 b6 h6 => ?_
        have b5 := b.step S5
        have td : t ≠ D := fun z => by rw [← z, n5] at hv; cases hv
        have c6 := b5.butB (S5 _ _ hv) (bad_poss (z := (g, .ren p p)) ⟨t, _, rfl, (by rw [wo_get td]; exact h5), .cons (hp0.mono b5.2.1) (.cons (hp0.mono b5.2.1) .nil)⟩ g0 (twoN np np) fun c => c.2 p rfl (c.1 p rfl)) b6 h6
        k_extra "r_L13j"
        refine s_lc ?_
        k_extra "r_L13j"
        refine q_slL (SqL.of (c6.same _ _ hq)) fun l7 H7 n7 S7 h7 => ?_
        have T7 := c6.same.trans S7
        refine ⟨l7, rfl, ⟨_, SqL.of h7⟩, fun D8 nD8 => lc_list (K := K) (a := l7) (fun j H' => BL (Bad1 K CS g st) j H7 H' D8) (BL.new nD8) (fun i H' _ b => SqL.of (b.same _ _ h7)) ?_ ?_⟩
        · rintro j y H8 hy b8
          have my : y ∈ us := by
            have := List.mem_of_getElem? hy
            rw [show (2 : Int) = ((2 : Nat) : Int) from rfl, cutV_take] at this
            exact List.mem_of_mem_take this
          have lj := (List.getElem?_eq_some_iff.mp hy).1
          rw [show (2 : Int) = ((2 : Nat) : Int) from rfl, cutV_take, List.length_take] at lj
          obtain ⟨r, mr, hr0⟩ := pu.mem my
          k_extra "r_L13j"
          refine ⟨rfl, ?_⟩
          k_extra "r_L13j"
          refine q_newT (by show 4 ≤ sizeLine; decide) fun t H9 n9 S9 h9 => ?_
          have b9 := b8.step S9
          obtain ⟨_, W9, vs, hv, _, lv⟩ := id b9
          have td : t ≠ D8 := fun z => by obtain ⟨_, _, _, h, _⟩ := b8; rw [← z, n9] at h; cases h
          refine ⟨_, hv, szlt (by omega), b9.put hv ?_⟩
          exact bad_poss (z := (g, .ren p r)) ⟨t, _, rfl, (by rw [wo_get td]; exact h9), .cons (hp0.mono (T7.trans W9)) (.cons (hr0.mono (T7.trans W9)) .nil)⟩ g0 (twoN np (nu r mr)) fun c => c.2 r rfl mr
        intro H8 b8
        have T8 := S7.trans b8.same
        have b68 := c6.step T8
        obtain ⟨_, _, vs1, hv1, _, lv1⟩ := id b68
        obtain ⟨_, _, vs2, hv2, kv2, lv2⟩ := id b8
        rw [show (2 : Int) = ((2 : Nat) : Int) from rfl, cutV_take, List.length_take] at lv2
        refine q_cat hv1 hv2 (sz (by omega)) fun D9 H9 n9 S9 h9 => ?_
        have kw : ∀ w ∈ vs2, Bad1 K CS g st H8 w := fun w m => by
          exact Bad1.mono wo_sub (kv2 w m)
        have c9 := b68.catB (m := 2) hv1 n9 S9 h9 kw (by omega)
        clear hv1 hv2 kv2 b68 b8 kw h9 S9 n9 T8
        k_extra "r_L13j"
        refine s_lc ?_
        k_extra "r_L13j"
        refine q_slL (SqL.of (c9.same _ _ hl)) fun l10 H10 n10 S10 h10 => ?_
        have T10 := c9.same.trans S10
        refine ⟨l10, rfl, ⟨_, SqL.of h10⟩, fun D11 nD11 => lc_list (K := K) (a := l10) (fun j H' => BL (Bad1 K CS g st) j H10 H' D11) (BL.new nD11) (fun i H' _ b => SqL.of (b.same _ _ h10)) ?_ ?_⟩
        · rintro j y H11 hy b11
          have my : y ∈ xs := by
            have := List.mem_of_getElem? hy
            rw [show (2 : Int) = ((2 : Nat) : Int) from rfl, cutV_take] at this
            exact List.mem_of_mem_take this
          have lj := (List.getElem?_eq_some_iff.mp hy).1
          rw [show (2 : Int) = ((2 : Nat) : Int) from rfl, cutV_take, List.length_take] at lj
          obtain ⟨r, mr, hr0⟩ := pl.mem my
          have T11 := T10.trans b11.same
          k_extra "r_L13j"
          refine ⟨rfl, ?_⟩
          k_extra "r_L13j"
          refine q_ninPl (hr0.mono T11) (nm r mr) (T11 _ _ hq) (pu.mono T11) nu ?_
          by_cases e : r ∈ st
          · rw [decide_eq_true e]
            refine ⟨_, rfl, ?_⟩
            exact b11.le (Nat.le_succ _)
          · rw [decide_eq_false e]
            refine ⟨_, rfl, s_if1 rfl ?_⟩
            k_extra "r_L13j"
            refine q_newT (by show 4 ≤ sizeLine; decide) fun t H12 n12 S12 h12 => ?_
            have b12 := b11.step S12
            obtain ⟨_, W12, vs, hv, _, lv⟩ := id b12
            have td : t ≠ D11 := fun z => by obtain ⟨_, _, _, h, _⟩ := b11; rw [← z, n12] at h; cases h
            refine ⟨_, hv, szlt (by omega), b12.put hv ?_⟩
            exact bad_poss (z := (g, .ren r p)) ⟨t, _, rfl, (by rw [wo_get td]; exact h12), .cons (hr0.mono (T10.trans W12)) (.cons (hp0.mono (T10.trans W12)) .nil)⟩ g0 (twoN (nm r mr) np) fun c => e (c.1 r rfl)
        intro H11 b11
        have T11 := S10.trans b11.same
        have b911 := c9.step T11
        obtain ⟨_, _, vs1, hv1, _, lv1⟩ := id b911
        obtain ⟨_, _, vs2, hv2, kv2, lv2⟩ := id b11
        rw [show (2 : Int) = ((2 : Nat) : Int) from rfl, cutV_take, List.length_take] at lv2
        refine q_cat hv1 hv2 (sz (by omega)) fun D12 H12 n12 S12 h12 => ?_
        have kw : ∀ w ∈ vs2, Bad1 K CS g st H11 w := fun w m => by
          exact Bad1.mono wo_sub (kv2 w m)
        have c12 := b911.catB (m := 2) hv1 n12 S12 h12 kw (by omega)
        k_extra "r_L13j"
        exact ⟨_, _, rfl, c12.le (by omega)⟩
      · rintro σ H4 ⟨D, v3, rfl, b⟩
        k_extra "r_L13j"
        exact ⟨_, _, rfl, b⟩
    rintro σ H4 ⟨D, v3, rfl, b⟩
    clear b3 h3 n3 S3
    k_extra "r_L13j"
    refine s_lc ?_
    k_extra "r_L13j"
    refine ⟨lp, rfl, ⟨_, SqL.of (b.same _ _ hl)⟩, fun D5 nD5 => lc_list (K := K) (a := lp) (xs := xs) (fun i H' => Same H4 H' ∧ ∃ ys, H' D5 = some (.lst ys) ∧ (∀ y ∈ ys, ∃ p ∈ ps, PlAt H y p) ∧ ys.length ≤ i) ⟨Same.new nD5, [], upd_same, (fun _ m => by cases m), Nat.le_refl _⟩ (fun i H' _ h => SqL.of (h.1 _ _ (b.same _ _ hl))) ?_ ?_⟩
    · rintro i x H5 hx ⟨S5, ys, h5, k5, l5⟩
      obtain ⟨p, ep, hp⟩ := pl.get2 hx
      have mp := List.mem_of_getElem? ep
      have lt := (List.getElem?_eq_some_iff.mp hx).1
      have T5 := b.same.trans S5
      k_extra "r_L13j"
      refine ⟨rfl, ?_⟩
      k_extra "r_L13j"
      refine q_ninPl (hp.mono T5) (nm p mp) (T5 _ _ hq) (pu.mono T5) nu ?_
      by_cases e : p ∈ st
      · rw [decide_eq_true e]
        refine ⟨_, rfl, ?_⟩
        exact ⟨S5, ys, h5, k5, by omega⟩
      · rw [decide_eq_false e]
        refine ⟨_, rfl, s_if1 rfl ?_⟩
        k_extra "r_L13j"
        refine ⟨_, h5, szlt (by omega), same_mut S5 nD5, _, upd_same, fun y m => ?_, by rw [List.length_append, List.length_singleton]; omega⟩
        rcases List.mem_append.mp m with m | m
        · exact k5 y m
        · rw [List.mem_singleton.mp m]; exact ⟨p, mp, hp⟩
    rintro H5 ⟨S5, ys, h5, k5, l5⟩
    replace b := b.step S5
    k_extra "r_L13j"
    refine q_slL (SqL.of h5) fun l6 H6 n6 S6 h6 => ?_
    replace b := b.step S6
    refine ⟨l6, rfl, ⟨_, SqL.of h6⟩, q_forL (K := K) (a := l6) (fun i σ H' => ∃ D v3 v5, σ = [some (.ref q), some (.ref lp), some (.int g), v3, some (.ref D), v5, none] ∧ Same H6 H' ∧ BL (Bad1 K CS g st) (us.length + xs.length + 5 * xs.length + 18 * i) H H' D) ⟨_, _, _, rfl, Same.refl _, b⟩ (fun i σ H' _ ⟨_, _, _, _, S, _⟩ => SqL.of (S _ _ h6)) ?_ ?_⟩
    · rintro i x σ G0 hx ⟨D, v3, v5, rfl, T, b⟩
      have mx : x ∈ ys := by
        have := List.mem_of_getElem? hx
        rw [show (1 : Int) = ((1 : Nat) : Int) from rfl, cutV_take] at this
        exact List.mem_of_mem_take this
      have lj := (List.getElem?_eq_some_iff.mp hx).1
      rw [show (1 : Int) = ((1 : Nat) : Int) from rfl, cutV_take, List.length_take] at lj
      obtain ⟨p, mp, hp⟩ := k5 x mx
      have np := nm p mp
      have nip := one np
      replace hp := hp.mono b.same
      obtain ⟨a, rfl, hpl⟩ := id hp
      k_extra "r_L13j"
      refine q_newT (by show 3 ≤ sizeLine; decide) fun t1 G1 n1 S1 h1 => ?_
      replace hpl := S1 _ _ hpl
      replace hp := hp.mono S1
      replace b := b.step S1
      replace T := T.trans S1
      k_extra "r_L13j"
      refine q_newT (by show 3 ≤ sizeLine; decide) fun t2 G2 n2 S2 h2 => ?_
      replace hpl := S2 _ _ hpl
      replace h1 := S2 _ _ h1
      replace hp := hp.mono S2
      replace b := b.step S2
      replace T := T.trans S2
      k_extra "r_L13j"
      refine q_newT (by show 3 ≤ sizeLine; decide) fun t3 G3 n3 S3 h3 => ?_
      replace hpl := S3 _ _ hpl
      replace h1 := S3 _ _ h1
      replace h2 := S3 _ _ h2
      replace hp := hp.mono S3
      replace b := b.step S3
      replace T := T.trans S3
      k_extra "r_L13j"
      refine q_newT (by show 3 ≤ sizeLine; decide) fun t4 G4 n4 S4 h4 => ?_
      replace hpl := S4 _ _ hpl
      replace h1 := S4 _ _ h1
      replace h2 := S4 _ _ h2
      replace h3 := S4 _ _ h3
      replace hp := hp.mono S4
      replace b := b.step S4
      replace T := T.trans S4
      k_extra "r_L13j"
      refine q_newL (by show 4 ≤ sizeLine; decide) fun t5 G5 n5 S5 h5 => ?_
      replace hpl := S5 _ _ hpl
      replace h1 := S5 _ _ h1
      replace h2 := S5 _ _ h2
      replace h3 := S5 _ _ h3
      replace h4 := S5 _ _ h4
      replace hp := hp.mono S5
      replace b := b.step S5
      replace T := T.trans S5
      obtain ⟨_, _, vs6, hD6, _, lv6⟩ := id b
      refine q_cat hD6 h5 (sz (by simp; omega)) fun E6 G6 n6 S6 h6 => ?_
      have b6 := b.catB hD6 n6 S6 h6 (m := 4) (all_cons (bad_gap (z := (g - 1, .add p)) ⟨t1, _, rfl, h1, .cons hp .nil⟩ nip (by show g - 1 < g; omega)) (all_cons (bad_num h2 (by simp) Pl.int (fun i e => by cases e; omega)) (all_cons (bad_num h3 (by simp) Pl.non (fun i e => by cases e)) (all_cons (bad_num h4 (by simp) Pl.str (fun i e => by cases e)) (all_nil))))) (by simp)
      replace hpl := S6 _ _ hpl
      replace h1 := S6 _ _ h1
      replace h2 := S6 _ _ h2
      replace h3 := S6 _ _ h3
      replace h4 := S6 _ _ h4
      replace h5 := S6 _ _ h5
      replace hp := hp.mono S6
      replace T := T.trans S6
      replace b := b6
      k_extra "r_L13j"
      refine q_newT (by show 3 ≤ sizeLine; decide) fun t7 G7 n7 S7 h7 => ?_
      replace hpl := S7 _ _ hpl
      replace h1 := S7 _ _ h1
      replace h2 := S7 _ _ h2
      replace h3 := S7 _ _ h3
      replace h4 := S7 _ _ h4
      replace h5 := S7 _ _ h5
      replace hp := hp.mono S7
      replace b := b.step S7
      replace T := T.trans S7
      k_extra "r_L13j"
      refine q_newT (by show 3 ≤ sizeLine; decide) fun t8 G8 n8 S8 h8 => ?_
      replace hpl := S8 _ _ hpl
      replace h1 := S8 _ _ h1
      replace h2 := S8 _ _ h2
      replace h3 := S8 _ _ h3
      replace h4 := S8 _ _ h4
      replace h5 := S8 _ _ h5
      replace h7 := S8 _ _ h7
      replace hp := hp.mono S8
      replace b := b.step S8
      replace T := T.trans S8
      k_extra "r_L13j"
      refine q_newT (by show 3 ≤ sizeLine; decide) fun t9 G9 n9 S9 h9 => ?_
      replace hpl := S9 _ _ hpl
      replace h1 := S9 _ _ h1
      replace h2 := S9 _ _ h2
      replace h3 := S9 _ _ h3
      replace h4 := S9 _ _ h4
      replace h5 := S9 _ _ h5
      replace h7 := S9 _ _ h7
      replace h8 := S9 _ _ h8
      replace hp := hp.mono S9
      replace b := b.step S9
      replace T := T.trans S9
      k_extra "r_L13j"
      refine q_newL (by show 3 ≤ sizeLine; decide) fun t10 G10 n10 S10 h10 => ?_
      replace hpl := S10 _ _ hpl
      replace h1 := S10 _ _ h1
      replace h2 := S10 _ _ h2
      replace h3 := S10 _ _ h3
      replace h4 := S10 _ _ h4
      replace h5 := S10 _ _ h5
      replace h7 := S10 _ _ h7
      replace h8 := S10 _ _ h8
      replace h9 := S10 _ _ h9
      replace hp := hp.mono S10
      replace b := b.step S10
      replace T := T.trans S10
      k_extra "r_L13j"
      refine q_newT (by show 2 ≤ sizeLine; decide) fun t11 G11 n11 S11 h11 => ?_
      replace hpl := S11 _ _ hpl
      replace h1 := S11 _ _ h1
      replace h2 := S11 _ _ h2
      replace h3 := S11 _ _ h3
      replace h4 := S11 _ _ h4
      replace h5 := S11 _ _ h5
      replace h7 := S11 _ _ h7
      replace h8 := S11 _ _ h8
      replace h9 := S11 _ _ h9
      replace h10 := S11 _ _ h10
      replace hp := hp.mono S11
      replace b := b.step S11
      replace T := T.trans S11
      k_extra "r_L13j"
      refine q_newL (by show 5 ≤ sizeLine; decide) fun t12 G12 n12 S12 h12 => ?_
      replace hpl := S12 _ _ hpl
      replace h1 := S12 _ _ h1
      replace h2 := S12 _ _ h2
      replace h3 := S12 _ _ h3
      replace h4 := S12 _ _ h4
      replace h5 := S12 _ _ h5
      replace h7 := S12 _ _ h7
      replace h8 := S12 _ _ h8
      replace h9 := S12 _ _ h9
      replace h10 := S12 _ _ h10
      replace h11 := S12 _ _ h11
      replace hp := hp.mono S12
      replace b := b.step S12
      replace T := T.trans S12
      obtain ⟨_, _, vs13, hD13, _, lv13⟩ := id b
      refine q_cat hD13 h12 (sz (by simp; omega)) fun E13 G13 n13 S13 h13 => ?_
      have b13 := b.catB hD13 n13 S13 h13 (m := 5) (all_cons (bad_word h7 (by simp) g0 (.str rfl (by decide) (by decide) (by decide))) (all_cons (bad_word h8 (by simp) g0 (.str rfl (by decide) (by decide) (by decide))) (all_cons (bad_word h9 (by simp) g0 (.non rfl)) (all_cons (bad_kind (Pl.lst h10) (by decide) (.ref _)) (all_cons (bad_len h11 (by simp)) (all_nil)))))) (by simp)
      replace hpl := S13 _ _ hpl
      replace h1 := S13 _ _ h1
      replace h2 := S13 _ _ h2
      replace h3 := S13 _ _ h3
      replace h4 := S13 _ _ h4
      replace h5 := S13 _ _ h5
      replace h7 := S13 _ _ h7
      replace h8 := S13 _ _ h8
      replace h9 := S13 _ _ h9
      replace h10 := S13 _ _ h10
      replace h11 := S13 _ _ h11
      replace h12 := S13 _ _ h12
      replace hp := hp.mono S13
      replace T := T.trans S13
      replace b := b13
      k_extra "r_L13j"
      refine q_newT (by show 4 ≤ sizeLine; decide) fun t14 G14 n14 S14 h14 => ?_
      replace hpl := S14 _ _ hpl
      replace h1 := S14 _ _ h1
      replace h2 := S14 _ _ h2
      replace h3 := S14 _ _ h3
      replace h4 := S14 _ _ h4
      replace h5 := S14 _ _ h5
      replace h7 := S14 _ _ h7
      replace h8 := S14 _ _ h8
      replace h9 := S14 _ _ h9
      replace h10 := S14 _ _ h10
      replace h11 := S14 _ _ h11
      replace h12 := S14 _ _ h12
      replace hp := hp.mono S14
      replace b := b.step S14
      replace T := T.trans S14
      k_extra "r_L13j"
      refine q_ixT (SqT.of hpl) (at_of (j := 1) rfl rfl) ?_
      k_extra "r_L13j"
      refine q_newT (by show 3 ≤ sizeLine; decide) fun t15 G15 n15 S15 h15 => ?_
      replace hpl := S15 _ _ hpl
      replace h1 := S15 _ _ h1
      replace h2 := S15 _ _ h2
      replace h3 := S15 _ _ h3
      replace h4 := S15 _ _ h4
      replace h5 := S15 _ _ h5
      replace h7 := S15 _ _ h7
      replace h8 := S15 _ _ h8
      replace h9 := S15 _ _ h9
      replace h10 := S15 _ _ h10
      replace h11 := S15 _ _ h11
      replace h12 := S15 _ _ h12
      replace h14 := S15 _ _ h14
      replace hp := hp.mono S15
      replace b := b.step S15
      replace T := T.trans S15
      k_extra "r_L13j"
      refine q_ixT (SqT.of hpl) (at_of (j := 0) rfl rfl) ?_
      k_extra "r_L13j"
      refine q_ixT (SqT.of hpl) (at_of (j := 1) rfl rfl) ?_
      k_extra "r_L13j"
      refine q_newL (by show 2 ≤ sizeLine; decide) fun t16 G16 n16 S16 h16 => ?_
      replace hpl := S16 _ _ hpl
      replace h1 := S16 _ _ h1
      replace h2 := S16 _ _ h2
      replace h3 := S16 _ _ h3
      replace h4 := S16 _ _ h4
      replace h5 := S16 _ _ h5
      replace h7 := S16 _ _ h7
      replace h8 := S16 _ _ h8
      replace h9 := S16 _ _ h9
      replace h10 := S16 _ _ h10
      replace h11 := S16 _ _ h11
      replace h12 := S16 _ _ h12
      replace h14 := S16 _ _ h14
      replace h15 := S16 _ _ h15
      replace hp := hp.mono S16
      replace b := b.step S16
      replace T := T.trans S16
      k_extra "r_L13j"
      refine q_newT (by show 3 ≤ sizeLine; decide) fun t17 G17 n17 S17 h17 => ?_
      replace hpl := S17 _ _ hpl
      replace h1 := S17 _ _ h1
      replace h2 := S17 _ _ h2
      replace h3 := S17 _ _ h3
      replace h4 := S17 _ _ h4
      replace h5 := S17 _ _ h5
      replace h7 := S17 _ _ h7
      replace h8 := S17 _ _ h8
      replace h9 := S17 _ _ h9
      replace h10 := S17 _ _ h10
      replace h11 := S17 _ _ h11
      replace h12 := S17 _ _ h12
      replace h14 := S17 _ _ h14
      replace h15 := S17 _ _ h15
      replace h16 := S17 _ _ h16
      replace hp := hp.mono S17
      replace b := b.step S17
      replace T := T.trans S17
      k_extra "r_L13j"
      refine q_newL (by show 4 ≤ sizeLine; decide) fun t18 G18 n18 S18 h18 => ?_
      replace hpl := S18 _ _ hpl
      replace h1 := S18 _ _ h1
      replace h2 := S18 _ _ h2
      replace h3 := S18 _ _ h3
      replace h4 := S18 _ _ h4
      replace h5 := S18 _ _ h5
      replace h7 := S18 _ _ h7
      replace h8 := S18 _ _ h8
      replace h9 := S18 _ _ h9
      replace h10 := S18 _ _ h10
      replace h11 := S18 _ _ h11
      replace h12 := S18 _ _ h12
      replace h14 := S18 _ _ h14
      replace h15 := S18 _ _ h15
      replace h16 := S18 _ _ h16
      replace h17 := S18 _ _ h17
      replace hp := hp.mono S18
      replace b := b.step S18
      replace T := T.trans S18
      obtain ⟨_, _, vs19, hD19, _, lv19⟩ := id b
      refine q_cat hD19 h18 (sz (by simp; omega)) fun E19 G19 n19 S19 h19 => ?_
      have b19 := b.catB hD19 n19 S19 h19 (m := 4) (all_cons (bad_many h14 (by simp) g0 (.inl rfl) (two_plk (hp.plk np) (hp.plk np)) (by show 2 ≠ manyC "add"; decide)) (all_cons (bad_part h15 (by simp) g0 (.inl rfl) (.head _) (plk_flat Pl.str (by decide) (fun a z => by cases z)) (one_plk (plk_flat Pl.str (by decide) (fun a z => by cases z)))) (all_cons (bad_part h17 (by simp) g0 (.inl rfl) (.head _) (.no (Pl.lst h16) (by decide) (noTup_lst h16)) (one_plk (.no (Pl.lst h16) (by decide) (noTup_lst h16)))) (all_cons (bad_len hpl (by simp)) (all_nil))))) (by simp)
      replace hpl := S19 _ _ hpl
      replace h1 := S19 _ _ h1
      replace h2 := S19 _ _ h2
      replace h3 := S19 _ _ h3
      replace h4 := S19 _ _ h4
      replace h5 := S19 _ _ h5
      replace h7 := S19 _ _ h7
      replace h8 := S19 _ _ h8
      replace h9 := S19 _ _ h9
      replace h10 := S19 _ _ h10
      replace h11 := S19 _ _ h11
      replace h12 := S19 _ _ h12
      replace h14 := S19 _ _ h14
      replace h15 := S19 _ _ h15
      replace h16 := S19 _ _ h16
      replace h17 := S19 _ _ h17
      replace h18 := S19 _ _ h18
      replace hp := hp.mono S19
      replace T := T.trans S19
      replace b := b19
      k_extra "r_L13j"
      refine q_newT (by show 2 ≤ sizeLine; decide) fun t20 G20 n20 S20 h20 => ?_
      replace hpl := S20 _ _ hpl
      replace h1 := S20 _ _ h1
      replace h2 := S20 _ _ h2
      replace h3 := S20 _ _ h3
      replace h4 := S20 _ _ h4
      replace h5 := S20 _ _ h5
      replace h7 := S20 _ _ h7
      replace h8 := S20 _ _ h8
      replace h9 := S20 _ _ h9
      replace h10 := S20 _ _ h10
      replace h11 := S20 _ _ h11
      replace h12 := S20 _ _ h12
      replace h14 := S20 _ _ h14
      replace h15 := S20 _ _ h15
      replace h16 := S20 _ _ h16
      replace h17 := S20 _ _ h17
      replace h18 := S20 _ _ h18
      replace hp := hp.mono S20
      replace b := b.step S20
      replace T := T.trans S20
      k_extra "r_L13j"
      refine q_ixT (SqT.of hpl) (at_of (j := 0) rfl rfl) ?_
      k_extra "r_L13j"
      refine q_newT (by show 2 ≤ sizeLine; decide) fun t21 G21 n21 S21 h21 => ?_
      replace hpl := S21 _ _ hpl
      replace h1 := S21 _ _ h1
      replace h2 := S21 _ _ h2
      replace h3 := S21 _ _ h3
      replace h4 := S21 _ _ h4
      replace h5 := S21 _ _ h5
      replace h7 := S21 _ _ h7
      replace h8 := S21 _ _ h8
      replace h9 := S21 _ _ h9
      replace h10 := S21 _ _ h10
      replace h11 := S21 _ _ h11
      replace h12 := S21 _ _ h12
      replace h14 := S21 _ _ h14
      replace h15 := S21 _ _ h15
      replace h16 := S21 _ _ h16
      replace h17 := S21 _ _ h17
      replace h18 := S21 _ _ h18
      replace h20 := S21 _ _ h20
      replace hp := hp.mono S21
      replace b := b.step S21
      replace T := T.trans S21
      k_extra "r_L13j"
      refine q_newT (by show 3 ≤ sizeLine; decide) fun t22 G22 n22 S22 h22 => ?_
      replace hpl := S22 _ _ hpl
      replace h1 := S22 _ _ h1
      replace h2 := S22 _ _ h2
      replace h3 := S22 _ _ h3
      replace h4 := S22 _ _ h4
      replace h5 := S22 _ _ h5
      replace h7 := S22 _ _ h7
      replace h8 := S22 _ _ h8
      replace h9 := S22 _ _ h9
      replace h10 := S22 _ _ h10
      replace h11 := S22 _ _ h11
      replace h12 := S22 _ _ h12
      replace h14 := S22 _ _ h14
      replace h15 := S22 _ _ h15
      replace h16 := S22 _ _ h16
      replace h17 := S22 _ _ h17
      replace h18 := S22 _ _ h18
      replace h20 := S22 _ _ h20
      replace h21 := S22 _ _ h21
      replace hp := hp.mono S22
      replace b := b.step S22
      replace T := T.trans S22
      k_extra "r_L13j"
      refine q_newT (by show 3 ≤ sizeLine; decide) fun t23 G23 n23 S23 h23 => ?_
      replace hpl := S23 _ _ hpl
      replace h1 := S23 _ _ h1
      replace h2 := S23 _ _ h2
      replace h3 := S23 _ _ h3
      replace h4 := S23 _ _ h4
      replace h5 := S23 _ _ h5
      replace h7 := S23 _ _ h7
      replace h8 := S23 _ _ h8
      replace h9 := S23 _ _ h9
      replace h10 := S23 _ _ h10
      replace h11 := S23 _ _ h11
      replace h12 := S23 _ _ h12
      replace h14 := S23 _ _ h14
      replace h15 := S23 _ _ h15
      replace h16 := S23 _ _ h16
      replace h17 := S23 _ _ h17
      replace h18 := S23 _ _ h18
      replace h20 := S23 _ _ h20
      replace h21 := S23 _ _ h21
      replace h22 := S23 _ _ h22
      replace hp := hp.mono S23
      replace b := b.step S23
      replace T := T.trans S23
      k_extra "r_L13j"
      refine q_newT (by show 3 ≤ sizeLine; decide) fun t24 G24 n24 S24 h24 => ?_
      replace hpl := S24 _ _ hpl
      replace h1 := S24 _ _ h1
      replace h2 := S24 _ _ h2
      replace h3 := S24 _ _ h3
      replace h4 := S24 _ _ h4
      replace h5 := S24 _ _ h5
      replace h7 := S24 _ _ h7
      replace h8 := S24 _ _ h8
      replace h9 := S24 _ _ h9
      replace h10 := S24 _ _ h10
      replace h11 := S24 _ _ h11
      replace h12 := S24 _ _ h12
      replace h14 := S24 _ _ h14
      replace h15 := S24 _ _ h15
      replace h16 := S24 _ _ h16
      replace h17 := S24 _ _ h17
      replace h18 := S24 _ _ h18
      replace h20 := S24 _ _ h20
      replace h21 := S24 _ _ h21
      replace h22 := S24 _ _ h22
      replace h23 := S24 _ _ h23
      replace hp := hp.mono S24
      replace b := b.step S24
      replace T := T.trans S24
      k_extra "r_L13j"
      refine q_newL (by show 5 ≤ sizeLine; decide) fun t25 G25 n25 S25 h25 => ?_
      replace hpl := S25 _ _ hpl
      replace h1 := S25 _ _ h1
      replace h2 := S25 _ _ h2
      replace h3 := S25 _ _ h3
      replace h4 := S25 _ _ h4
      replace h5 := S25 _ _ h5
      replace h7 := S25 _ _ h7
      replace h8 := S25 _ _ h8
      replace h9 := S25 _ _ h9
      replace h10 := S25 _ _ h10
      replace h11 := S25 _ _ h11
      replace h12 := S25 _ _ h12
      replace h14 := S25 _ _ h14
      replace h15 := S25 _ _ h15
      replace h16 := S25 _ _ h16
      replace h17 := S25 _ _ h17
      replace h18 := S25 _ _ h18
      replace h20 := S25 _ _ h20
      replace h21 := S25 _ _ h21
      replace h22 := S25 _ _ h22
      replace h23 := S25 _ _ h23
      replace h24 := S25 _ _ h24
      replace hp := hp.mono S25
      replace b := b.step S25
      replace T := T.trans S25
      obtain ⟨_, _, vs26, hD26, _, lv26⟩ := id b
      refine q_cat hD26 h25 (sz (by simp; omega)) fun E26 G26 n26 S26 h26 => ?_
      have b26 := b.catB hD26 n26 S26 h26 (m := 5) (all_cons (bad_len h20 (by simp)) (all_cons (bad_part h22 (by simp) g0 (.inl rfl) (.head _) (plk_bad h21 (by have := np.1.2.1; omega) (by decide) (fun z => nn_empty z.2)) (one_plk (plk_bad h21 (by have := np.1.2.1; omega) (by decide) (fun z => nn_empty z.2)))) (all_cons (bad_many h23 (by simp) g0 (.inr (.inr rfl)) (one_plk (hp.plk np)) (by show 1 ≠ manyC "rename"; decide)) (all_cons (bad_num h24 (by simp) Pl.bl (fun i e => by cases e)) (all_cons (bad_kind Pl.non (by decide) .non) (all_nil)))))) (by simp)
      replace hpl := S26 _ _ hpl
      replace h1 := S26 _ _ h1
      replace h2 := S26 _ _ h2
      replace h3 := S26 _ _ h3
      replace h4 := S26 _ _ h4
      replace h5 := S26 _ _ h5
      replace h7 := S26 _ _ h7
      replace h8 := S26 _ _ h8
      replace h9 := S26 _ _ h9
      replace h10 := S26 _ _ h10
      replace h11 := S26 _ _ h11
      replace h12 := S26 _ _ h12
      replace h14 := S26 _ _ h14
      replace h15 := S26 _ _ h15
      replace h16 := S26 _ _ h16
      replace h17 := S26 _ _ h17
      replace h18 := S26 _ _ h18
      replace h20 := S26 _ _ h20
      replace h21 := S26 _ _ h21
      replace h22 := S26 _ _ h22
      replace h23 := S26 _ _ h23
      replace h24 := S26 _ _ h24
      replace h25 := S26 _ _ h25
      replace hp := hp.mono S26
      replace T := T.trans S26
      replace b := b26

      k_extra "r_L13j"
      exact ⟨_, _, _, rfl, T, b.le (by omega)⟩
    · rintro σ H7 ⟨D, v3, v5, rfl, S7, b⟩
      k_extra "r_L13j"
      refine k D H7 _ ?_ b
      rw [show (1 : Int) = ((1 : Nat) : Int) from rfl, cutV_take, List.length_take]
      omega
end
end Bt
namespace Bt
open PySem PySem.Spec PyProof.Rows L2 LamX NdefX
open PySem.W (dataLt dataLe alike AllAlike Sortable)
theorem words137_ : True := by
  k_with "s_L13k" => first
    | ((with_reducible refine' s_var ?hv ?_); (case hv => exact rfl))
    | with_reducible first
      | refine' s_c ?_ | refine' s_op ?_ | refine' s_asg ?_ | refine' s_gname ?_ | refine' s_seq ?_ | refine' s_next ?_ | refine' s_ret ?_ | refine' s_ifS ?_ | refine' s_drop ?_ | refine' s_retN ?_ | refine' s_test ?_ | refine' s_B ?_ | refine' q_test ?_ | refine' s_int ?_ | refine' s_cons ?_ | refine' s_nil ?_ | refine' s_call ?_ | refine' s_CB ?_ | refine' s_andT ?_ | refine' s_orT ?_ | refine' s_notT ?_ | refine' s_andV ?_ | refine' s_orV ?_ | refine' s_notV ?_ | refine' s_ifV ?_ | refine' s_chain ?_ | refine' s_sl ?_ | refine' s_noPart ?_ | refine' s_part ?_ | refine' s_gsub ?_ | refine' s_BM ?_ | refine' s_tup ?_ | refine' s_lst ?_ | refine' q_add ?_ | refine' q_sub ?_ | refine' q_lt ?_ | refine' q_le ?_ | refine' q_gt ?_ | refine' q_ge ?_ | refine' s_ifT ?_ | refine' s_ifF ?_ | refine' s_yes ?_ | refine' s_iStr ?_ | refine' s_M0 ?_ | refine' s_for ?_ | refine' s_rng1 ?_ | refine' s_par ?_ | refine' s_gcons ?_ | refine' s_gnil ?_ | refine' s_iList ?_ | refine' s_iEnum ?_ | refine' s_raise1 ?_
      | (refine' q_mod ?hm ?_; (case hm => first | omega | decide))
    | dsimp only
  k_with "r_L13k" => repeat (k_extra "s_L13k")
  trivial
/-! ### odd changes -/
theorem nma : Nm "a" := ⟨by decide +kernel, by decide +kernel, by decide +kernel⟩
theorem nmb : Nm "b" := ⟨by decide +kernel, by decide +kernel, by decide +kernel⟩
theorem nmc : Nm "c" := ⟨by decide +kernel, by decide +kernel, by decide +kernel⟩
theorem nmd : Nm "d" := ⟨by decide +kernel, by decide +kernel, by decide +kernel⟩
theorem nmr : Nm "r" := ⟨by decide +kernel, by decide +kernel, by decide +kernel⟩
theorem nn_A : ¬ Nm "A" := fun h => absurd (h.2.2 65 (by decide +kernel)) (by decide +kernel)
theorem BL.mkB {K : PySem.W.Frag} {CS : Addr} {g : Int} {st : List Plc} {n : Nat} {H0 H H' : Hp} {D : Addr} {ws : List V} (S : Same H0 H) (n0 : H D = none) (S2 : Same H H') (h : H' D = some (.lst ws)) (k : ∀ w ∈ ws, Bad1 K CS g st H w) (l : ws.length ≤ n) : BL (Bad1 K CS g st) n H0 H' D :=
  ⟨S.free n0, S.trans (wo_same n0 S2), ws, h, fun v m => Bad1.mono (wo_same n0 S2) (k v m), l⟩
section
variable {P : Program} {w : World} {K : PySem.W.Frag} {mg : Str → Option Value} {base : Heap} {CS CI CC CN : Addr}
def spOdd (K : PySem.W.Frag) (CS : Addr) : Sp := fun vs H Q _ => ∃ q us st g, vs = [.ref q, .int g] ∧ H q = some (.lst us) ∧ Pls H us st ∧ (∀ p ∈ st, NmP p) ∧ us.length ≤ 40 ∧ 0 ≤ g ∧
  ∀ D H' n, n ≤ 40 → BL (Bad1 K CS g st) n H H' D → Q (.ref D) H'
theorem ok__law_odd_changes (T : Txt K mg) (N : TxtN K mg) (I : TxtI K mg) (C : TxtC13 K mg) (S : TxtS13 K mg) (SC : StoryC K mg CS) (SM : StoryM K CS) (XS : ExcF K mg "InvalidStory" "value" CI) (L : TxtL13 K mg) : Cal P w K mg base 8 "_law_odd_changes" (spOdd K CS) := by
  refine L.d_odd.cal sc__law_odd_changes (fun vs H Q E h => ?_) (fun f cdv A outer s H vs Q E hr h => ?_)
  · obtain ⟨q, us, st, g, rfl, _⟩ := h
    rfl
  · obtain ⟨q, us, st, g, rfl, hq, pu, nu, lu, g0, k⟩ := h
    refine ⟨_, (pss_cons (ps_set (i := 2) sc__law_odd_changes.nd rfl (.inl rfl) (pe_lst (pa_cons (pe_tup pa_nil) (pa_cons (pe_tup (pa_cons (pv 1) pa_nil)) (pa_cons (pe_tup (pa_cons (pv 1) (pa_cons pe_str pa_nil))) (pa_cons pe_dnewK (pa_cons pe_str (pa_cons (pe_story1 T N I C S SC SM XS hr (by decide) (pe_lst pa_nil)) (pa_cons (pe_tup (pa_cons (pv 1) (pa_cons pe_str (pa_cons (pe_tup (pa_cons pe_str (pa_cons pe_str pa_nil))) (pa_cons (pe_tup (pa_cons pe_str (pa_cons pe_str pa_nil))) (pa_cons (pe_tup (pa_cons pe_str (pa_cons pe_str pa_nil))) pa_nil)))))) pa_nil)))))))))
      (pss_cons (ps_for PassesOwn.never rfl (pi_list (pe_slice sl_list (pv 0) po_none (po_some pe_int))) (pg_name (i := 3) sc__law_odd_changes.nd rfl (.inl rfl))
        (C8.pss_cut (ps_for PassesOwn.never rfl (pi_list (pe_lst (pa_cons (pe_ix ix_seq (pv 3) pe_int (fun _ _ => rfl)) (pa_cons (pe_lst (pa_cons (pe_ix ix_seq (pv 3) pe_int (fun _ _ => rfl)) (pa_cons (pe_ix ix_seq (pv 3) pe_int (fun _ _ => rfl)) pa_nil))) (pa_cons (pe_tup (pa_cons (pe_ix ix_seq (pv 3) pe_int (fun _ _ => rfl)) (pa_cons pe_str pa_nil))) (pa_cons (pe_tup (pa_cons (pe_ix ix_seq (pv 3) pe_int (fun _ _ => rfl)) (pa_cons pe_str pa_nil))) (pa_cons pe_non (pa_cons (pe_tup (pa_cons (pe_ix ix_seq (pv 3) pe_int (fun _ _ => rfl)) pa_nil)) pa_nil)))))))) (pg_name (i := 4) sc__law_odd_changes.nd rfl (.inl rfl))
            (pss_one (ps_expr (pe_bm PySem.F.plainAttrs_list PySem.F.slot_list_append PySem.F.type_list_append mt_append (pv 2) (pa_cons (pe_tup (pa_cons (pv 1) (pa_cons pe_str (pa_cons (pv 3) (pa_cons (pv 4) pa_nil))))) pa_nil)))))
          (pss_cons (ps_set (i := 2) sc__law_odd_changes.nd rfl (.inl rfl) (pe_op op_addU (pv 2) (pe_lst (pa_cons (pe_tup (pa_cons (pv 1) (pa_cons (pe_lst (pa_cons pe_str pa_nil)) (pa_cons (pv 3) pa_nil)))) (pa_cons (pe_tup (pa_cons (pv 1) (pa_cons pe_dnewK (pa_cons (pv 3) pa_nil)))) (pa_cons (pe_tup (pa_cons (pv 1) (pa_cons (pe_tup (pa_cons pe_str pa_nil)) (pa_cons (pv 3) pa_nil)))) (pa_cons (pe_tup (pa_cons (pv 1) (pa_cons (pe_story1 T N I C S SC SM XS hr (by decide) (pe_lst pa_nil)) (pa_cons (pv 3) pa_nil)))) pa_nil)))))))
          (pss_cons (ps_set (i := 2) sc__law_odd_changes.nd rfl (.inl rfl) (pe_op op_addU (pv 2) (pe_lst (pa_cons (pe_tup (pa_cons (pe_lst (pa_cons (pv 1) pa_nil)) (pa_cons pe_str (pa_cons (pv 3) pa_nil)))) (pa_cons (pe_tup (pa_cons pe_dnewK (pa_cons pe_str (pa_cons (pv 3) pa_nil)))) (pa_cons (pe_tup (pa_cons (pv 1) (pa_cons pe_str (pa_cons (pe_lst (pa_cons (pe_ix ix_seq (pv 3) pe_int (fun _ _ => rfl)) (pa_cons (pe_ix ix_seq (pv 3) pe_int (fun _ _ => rfl)) pa_nil))) pa_nil)))) pa_nil))))))
          (pss_one (ps_set (i := 2) sc__law_odd_changes.nd rfl (.inl rfl) (pe_op op_addU (pv 2) (pe_lst (pa_cons (pe_tup (pa_cons (pv 1) (pa_cons pe_str (pa_cons (pv 3) (pa_cons (pe_tup (pa_cons pe_str (pa_cons pe_str pa_nil))) (pa_cons (pe_tup (pa_cons pe_str (pa_cons pe_str pa_nil))) pa_nil)))))) (pa_cons (pe_tup (pa_cons (pv 1) (pa_cons pe_str (pa_cons (pv 3) (pa_cons pe_int pa_nil))))) (pa_cons (pe_tup (pa_cons (pv 1) (pa_cons pe_int (pa_cons (pv 3) pa_nil)))) pa_nil)))))))))))
      (pss_one (ps_ret (pv 2))))), ?_⟩
    clear T
    have T : Same H H := Same.refl H
    k_extra "r_L13k"
    refine q_newT (by show 0 ≤ sizeLine; decide) fun t1 G1 n1 S1 h1 => ?_
    replace hq := S1 _ _ hq
    replace T := T.trans S1
    k_extra "r_L13k"
    refine q_newT (by show 1 ≤ sizeLine; decide) fun t2 G2 n2 S2 h2 => ?_
    replace hq := S2 _ _ hq
    replace h1 := S2 _ _ h1
    replace T := T.trans S2
    k_extra "r_L13k"
    refine q_newT (by show 2 ≤ sizeLine; decide) fun t3 G3 n3 S3 h3 => ?_
    replace hq := S3 _ _ hq
    replace h1 := S3 _ _ h1
    replace h2 := S3 _ _ h2
    replace T := T.trans S3
    k_extra "r_L13k"
    refine s_dnew fun t4 G4 n4 S4 h4 => ?_
    replace hq := S4 _ _ hq
    replace h1 := S4 _ _ h1
    replace h2 := S4 _ _ h2
    replace h3 := S4 _ _ h3
    replace T := T.trans S4
    k_extra "r_L13k"
    refine s_make ?_
    k_extra "r_L13k"
    refine q_newL (by show 0 ≤ sizeLine; decide) fun t5 G5 n5 S5 h5 => ?_
    replace hq := S5 _ _ hq
    replace h1 := S5 _ _ h1
    replace h2 := S5 _ _ h2
    replace h3 := S5 _ _ h3
    replace h4 := S5 _ _ h4
    replace T := T.trans S5
    k_extra "r_L13k"
    refine q_story2 (sby_nil h5) fun t6 G6 f6 c6 d6 n6 m1_6 m2_6 m3_6 S6 h6 => ?_
    replace hq := S6 _ _ hq
    replace h1 := S6 _ _ h1
    replace h2 := S6 _ _ h2
    replace h3 := S6 _ _ h3
    replace h4 := S6 _ _ h4
    replace h5 := S6 _ _ h5
    replace T := T.trans S6
    obtain ⟨dx6, h6⟩ := h6.hx
    k_extra "r_L13k"
    refine q_newT (by show 2 ≤ sizeLine; decide) fun t7 G7 n7 S7 h7 => ?_
    replace hq := S7 _ _ hq
    replace h1 := S7 _ _ h1
    replace h2 := S7 _ _ h2
    replace h3 := S7 _ _ h3
    replace h4 := S7 _ _ h4
    replace h5 := S7 _ _ h5
    replace h6 := S7 _ _ h6
    replace T := T.trans S7
    k_extra "r_L13k"
    refine q_newT (by show 2 ≤ sizeLine; decide) fun t8 G8 n8 S8 h8 => ?_
    replace hq := S8 _ _ hq
    replace h1 := S8 _ _ h1
    replace h2 := S8 _ _ h2
    replace h3 := S8 _ _ h3
    replace h4 := S8 _ _ h4
    replace h5 := S8 _ _ h5
    replace h6 := S8 _ _ h6
    replace h7 := S8 _ _ h7
    replace T := T.trans S8
    k_extra "r_L13k"
    refine q_newT (by show 2 ≤ sizeLine; decide) fun t9 G9 n9 S9 h9 => ?_
    replace hq := S9 _ _ hq
    replace h1 := S9 _ _ h1
    replace h2 := S9 _ _ h2
    replace h3 := S9 _ _ h3
    replace h4 := S9 _ _ h4
    replace h5 := S9 _ _ h5
    replace h6 := S9 _ _ h6
    replace h7 := S9 _ _ h7
    replace h8 := S9 _ _ h8
    replace T := T.trans S9
    k_extra "r_L13k"
    refine q_newT (by show 5 ≤ sizeLine; decide) fun t10 G10 n10 S10 h10 => ?_
    replace hq := S10 _ _ hq
    replace h1 := S10 _ _ h1
    replace h2 := S10 _ _ h2
    replace h3 := S10 _ _ h3
    replace h4 := S10 _ _ h4
    replace h5 := S10 _ _ h5
    replace h6 := S10 _ _ h6
    replace h7 := S10 _ _ h7
    replace h8 := S10 _ _ h8
    replace h9 := S10 _ _ h9
    replace T := T.trans S10
    have w0 : ∀ w ∈ [V.ref t1, .ref t2, .ref t3, .ref t4, .str "add", .ref t6, .ref t10], Bad1 K CS g st _ w := all_cons (bad_len h1 (by decide)) (all_cons (bad_len h2 (by simp)) (all_cons (bad_len h3 (by simp)) (all_cons (bad_kind (Pl.dct h4) (by decide) (.ref _)) (all_cons (bad_kind Pl.str (by decide) (.str (by decide +kernel))) (all_cons (bad_ins h6) (all_cons (bad_many h10 (by simp) g0 (.inl rfl) (all_cons (⟨_, PlAt.plk (q := ("a", "b")) ⟨_, rfl, h7⟩ ⟨nma, nmb⟩⟩) (all_cons (⟨_, PlAt.plk (q := ("a", "c")) ⟨_, rfl, h8⟩ ⟨nma, nmc⟩⟩) (all_cons (⟨_, PlAt.plk (q := ("a", "d")) ⟨_, rfl, h9⟩ ⟨nma, nmd⟩⟩) (all_nil)))) (by show 3 ≠ manyC "add"; decide)) (all_nil)))))))
    have T0 := T
    k_extra "r_L13k"
    refine q_newL (by show 7 ≤ sizeLine; decide) fun t11 G11 n11 S11 h11 => ?_
    replace hq := S11 _ _ hq
    replace h1 := S11 _ _ h1
    replace h2 := S11 _ _ h2
    replace h3 := S11 _ _ h3
    replace h4 := S11 _ _ h4
    replace h5 := S11 _ _ h5
    replace h6 := S11 _ _ h6
    replace h7 := S11 _ _ h7
    replace h8 := S11 _ _ h8
    replace h9 := S11 _ _ h9
    replace h10 := S11 _ _ h10
    replace T := T.trans S11
    have b : BL (Bad1 K CS g st) 7 H _ t11 := BL.mkB T0 n11 S11 h11 w0 (by simp)
    k_extra "r_L13k"
    refine q_slL (SqL.of hq) fun l6 H6 n6 S6 h6 => ?_
    have bq6 := b
    replace b := b.step S6
    replace T := T.trans S6
    refine ⟨l6, rfl, ⟨_, SqL.of h6⟩, q_forL (K := K) (a := l6) (fun i σ H' => ∃ D v3 v4, σ = [some (.ref q), some (.int g), some (.ref D), v3, v4] ∧ H' l6 = some (.lst (cutV us none (some 1))) ∧ D ≠ l6 ∧ BL (Bad1 K CS g st) (7 + 16 * i) H H' D) ⟨_, _, _, rfl, h6, (fun z => by obtain ⟨_, _, _, h, _⟩ := bq6; rw [z, n6] at h; cases h), b⟩ (fun i σ H' _ ⟨_, _, _, _, h, _⟩ => SqL.of h) ?_ ?_⟩
    · rintro i x σ G0 hx ⟨D, v3, v4, rfl, hl6, nl6, b⟩
      clear T
      have T := Same.refl G0
      have mx : x ∈ us := by
        have := List.mem_of_getElem? hx
        rw [show (1 : Int) = ((1 : Nat) : Int) from rfl, cutV_take] at this
        exact List.mem_of_mem_take this
      have lj := (List.getElem?_eq_some_iff.mp hx).1
      rw [show (1 : Int) = ((1 : Nat) : Int) from rfl, cutV_take, List.length_take] at lj
      obtain ⟨p, mp, hp⟩ := pu.mem mx
      have np := nu p mp
      replace hp := hp.mono b.same
      obtain ⟨a, rfl, hpl⟩ := id hp
      refine q_cut8 (M := fun σ H' => ∃ v4, σ = [some (.ref q), some (.int g), some (.ref D), some (.ref a), v4] ∧ H' l6 = some (.lst (cutV us none (some 1))) ∧ PlAt H' (.ref a) p ∧ BL (Bad1 K CS g st) (7 + 16 * i + 6) H H' D) ?_ ?_
      · k_extra "r_L13k"
        refine q_ixT (SqT.of hpl) (at_of (j := 1) rfl rfl) ?_
        k_extra "r_L13k"
        refine q_ixT (SqT.of hpl) (at_of (j := 0) rfl rfl) ?_
        k_extra "r_L13k"
        refine q_ixT (SqT.of hpl) (at_of (j := 1) rfl rfl) ?_
        k_extra "r_L13k"
        have bq := b
        refine q_newL (by show 2 ≤ sizeLine; decide) fun t12 G12 n12 S12 h12 => ?_
        have e12 : t12 ≠ D := fun z => by obtain ⟨_, _, _, h, _⟩ := bq; rw [← z, n12] at h; cases h
        clear bq
        replace hpl := S12 _ _ hpl
        replace hp := hp.mono S12
        replace b := b.step S12
        replace T := T.trans S12
        k_extra "r_L13k"
        refine q_ixT (SqT.of hpl) (at_of (j := 0) rfl rfl) ?_
        k_extra "r_L13k"
        have bq := b
        refine q_newT (by show 2 ≤ sizeLine; decide) fun t13 G13 n13 S13 h13 => ?_
        have e13 : t13 ≠ D := fun z => by obtain ⟨_, _, _, h, _⟩ := bq; rw [← z, n13] at h; cases h
        clear bq
        replace hpl := S13 _ _ hpl
        replace h12 := S13 _ _ h12
        replace hp := hp.mono S13
        replace b := b.step S13
        replace T := T.trans S13
        k_extra "r_L13k"
        refine q_ixT (SqT.of hpl) (at_of (j := 0) rfl rfl) ?_
        k_extra "r_L13k"
        have bq := b
        refine q_newT (by show 2 ≤ sizeLine; decide) fun t14 G14 n14 S14 h14 => ?_
        have e14 : t14 ≠ D := fun z => by obtain ⟨_, _, _, h, _⟩ := bq; rw [← z, n14] at h; cases h
        clear bq
        replace hpl := S14 _ _ hpl
        replace h12 := S14 _ _ h12
        replace h13 := S14 _ _ h13
        replace hp := hp.mono S14
        replace b := b.step S14
        replace T := T.trans S14
        k_extra "r_L13k"
        refine q_ixT (SqT.of hpl) (at_of (j := 0) rfl rfl) ?_
        k_extra "r_L13k"
        have bq := b
        refine q_newT (by show 1 ≤ sizeLine; decide) fun t15 G15 n15 S15 h15 => ?_
        have e15 : t15 ≠ D := fun z => by obtain ⟨_, _, _, h, _⟩ := bq; rw [← z, n15] at h; cases h
        clear bq
        replace hpl := S15 _ _ hpl
        replace h12 := S15 _ _ h12
        replace h13 := S15 _ _ h13
        replace h14 := S15 _ _ h14
        replace hp := hp.mono S15
        replace b := b.step S15
        replace T := T.trans S15
        have w0 : ∀ w ∈ [V.str p.2, .ref t12, .ref t13, .ref t14, .non, .ref t15], PlK K (wo D G15) w false := all_cons (plk_flat Pl.str (by decide) (fun a z => by cases z)) (all_cons (.no (Pl.lst ((wo_get e12).trans h12)) (by decide) (noTup_lst ((wo_get e12).trans h12))) (all_cons (plk_bad ((wo_get e13).trans h13) (by have := np.1.2.1; omega) (by decide) (fun z => nn_empty z.2)) (all_cons (plk_bad ((wo_get e14).trans h14) (by have := np.1.2.1; omega) (by decide) (fun z => nn_A z.2)) (all_cons (plk_flat Pl.non (by decide) (fun a z => by cases z)) (all_cons (plk_len ((wo_get e15).trans h15) (fun y my => by rw [List.mem_singleton.mp my]; exact nm_arg np.1) (by simp)) (all_nil))))))
        k_extra "r_L13k"
        have bq := b
        refine q_newL (by show 6 ≤ sizeLine; decide) fun t16 G16 n16 S16 h16 => ?_
        have e16 : t16 ≠ D := fun z => by obtain ⟨_, _, _, h, _⟩ := bq; rw [← z, n16] at h; cases h
        clear bq
        replace hpl := S16 _ _ hpl
        replace h12 := S16 _ _ h12
        replace h13 := S16 _ _ h13
        replace h14 := S16 _ _ h14
        replace h15 := S16 _ _ h15
        replace hp := hp.mono S16
        replace b := b.step S16
        replace T := T.trans S16
        replace w0 := fun w m => (w0 w m).mono (wo_step (D := D) S16)
        have aD : a ≠ D := fun z => by obtain ⟨_, _, _, h, _⟩ := b; rw [← z, hpl] at h; cases h
        have hpw : PlAt (wo D G16) (.ref a) p := ⟨a, rfl, (wo_get aD).trans hpl⟩
        refine ⟨t16, rfl, ⟨_, SqL.of h16⟩, q_forL (K := K) (a := t16) (xs := [V.str p.2, .ref t12, .ref t13, .ref t14, .non, .ref t15]) (fun j σ H' => ∃ v4, σ = [some (.ref q), some (.int g), some (.ref D), some (.ref a), v4] ∧ H' l6 = some (.lst (cutV us none (some 1))) ∧ PlAt (wo D H') (.ref a) p ∧ H' t16 = some (.lst [V.str p.2, .ref t12, .ref t13, .ref t14, .non, .ref t15]) ∧ (∀ w ∈ [V.str p.2, .ref t12, .ref t13, .ref t14, .non, .ref t15], PlK K (wo D H') w false) ∧ BL (Bad1 K CS g st) (7 + 16 * i + j) H H' D) ⟨_, rfl, T _ _ hl6, hpw, h16, w0, b⟩ (fun i σ H' _ ⟨_, _, _, _, h, _⟩ => SqL.of h) ?_ ?_⟩
        · rintro j y σ K0 hy ⟨v4, rfl, U, hpU, hlU, wU, bU⟩
          have my := List.mem_of_getElem? hy
          have lj2 : j < 6 := (List.getElem?_eq_some_iff.mp hy).1
          k_extra "r_L13k"
          obtain ⟨nD0, _, vs, hv, _, lv⟩ := id bU
          refine ⟨.inl ⟨rfl, _, SqL.of hv⟩, ?_⟩
          k_extra "r_L13k"
          refine q_newT (by show 4 ≤ sizeLine; decide) fun t K1 m1 Z1 z1 => ?_
          k_extra "r_L13k"
          refine q_append (Z1 _ _ hv) (szlt (by omega)) fun K2 B2 z2 => ?_
          k_extra "r_L13k"
          have td : t ≠ D := fun z => by rw [← z, m1] at hv; cases hv
          have b1 := bU.step Z1
          have hp1 := hpU.mono (wo_step (D := D) Z1)
          have w1 : ∀ w ∈ [V.str p.2, .ref t12, .ref t13, .ref t14, .non, .ref t15], PlK K (wo D K1) w false := fun w m => (wU w m).mono (wo_step Z1)
          have bd : Bad1 K CS g st (wo D K1) (.ref t) := bad_part ((wo_get td).trans z1) (by simp) g0 (.inr (.inr rfl)) (u := y) (.tail _ (.head _)) (w1 y my) (two_plk (hp1.plk np) (w1 y my))
          have U2 := B2 _ _ nl6.symm (Z1 _ _ U)
          exact ⟨_, rfl, U2, hp1.mono (wo_but B2), B2 _ _ e16 (Z1 _ _ hlU), fun w m => (w1 w m).mono (wo_but B2), b1.butB (Z1 _ _ hv) bd B2 z2⟩
        · rintro σ K0 ⟨v4, rfl, U, hpU, _, _, bU⟩
          k_extra "r_L13k"
          exact ⟨_, rfl, U, hpU.mono wo_sub, bU⟩
      clear T
      rintro σ G1 ⟨v4, rfl, hl6, hp, b⟩
      have T := Same.refl G1
      obtain ⟨a', e, hpl⟩ := id hp
      cases e
      k_extra "r_L13k"
      refine q_newL (by show 1 ≤ sizeLine; decide) fun t22 G22 n22 S22 h22 => ?_
      replace hpl := S22 _ _ hpl
      replace hp := hp.mono S22
      replace b := b.step S22
      replace T := T.trans S22
      k_extra "r_L13k"
      refine q_newT (by show 3 ≤ sizeLine; decide) fun t23 G23 n23 S23 h23 => ?_
      replace hpl := S23 _ _ hpl
      replace h22 := S23 _ _ h22
      replace hp := hp.mono S23
      replace b := b.step S23
      replace T := T.trans S23
      k_extra "r_L13k"
      refine s_dnew fun t24 G24 n24 S24 h24 => ?_
      replace hpl := S24 _ _ hpl
      replace h22 := S24 _ _ h22
      replace h23 := S24 _ _ h23
      replace hp := hp.mono S24
      replace b := b.step S24
      replace T := T.trans S24
      k_extra "r_L13k"
      refine q_newT (by show 3 ≤ sizeLine; decide) fun t25 G25 n25 S25 h25 => ?_
      replace hpl := S25 _ _ hpl
      replace h22 := S25 _ _ h22
      replace h23 := S25 _ _ h23
      replace h24 := S25 _ _ h24
      replace hp := hp.mono S25
      replace b := b.step S25
      replace T := T.trans S25
      k_extra "r_L13k"
      refine q_newT (by show 1 ≤ sizeLine; decide) fun t26 G26 n26 S26 h26 => ?_
      replace hpl := S26 _ _ hpl
      replace h22 := S26 _ _ h22
      replace h23 := S26 _ _ h23
      replace h24 := S26 _ _ h24
      replace h25 := S26 _ _ h25
      replace hp := hp.mono S26
      replace b := b.step S26
      replace T := T.trans S26
      k_extra "r_L13k"
      refine q_newT (by show 3 ≤ sizeLine; decide) fun t27 G27 n27 S27 h27 => ?_
      replace hpl := S27 _ _ hpl
      replace h22 := S27 _ _ h22
      replace h23 := S27 _ _ h23
      replace h24 := S27 _ _ h24
      replace h25 := S27 _ _ h25
      replace h26 := S27 _ _ h26
      replace hp := hp.mono S27
      replace b := b.step S27
      replace T := T.trans S27
      k_extra "r_L13k"
      refine s_make ?_
      k_extra "r_L13k"
      refine q_newL (by show 0 ≤ sizeLine; decide) fun t28 G28 n28 S28 h28 => ?_
      replace hpl := S28 _ _ hpl
      replace h22 := S28 _ _ h22
      replace h23 := S28 _ _ h23
      replace h24 := S28 _ _ h24
      replace h25 := S28 _ _ h25
      replace h26 := S28 _ _ h26
      replace h27 := S28 _ _ h27
      replace hp := hp.mono S28
      replace b := b.step S28
      replace T := T.trans S28
      k_extra "r_L13k"
      refine q_story2 (sby_nil h28) fun t29 G29 f29 c29 d29 n29 m1_29 m2_29 m3_29 S29 h29 => ?_
      replace hpl := S29 _ _ hpl
      replace h22 := S29 _ _ h22
      replace h23 := S29 _ _ h23
      replace h24 := S29 _ _ h24
      replace h25 := S29 _ _ h25
      replace h26 := S29 _ _ h26
      replace h27 := S29 _ _ h27
      replace h28 := S29 _ _ h28
      replace hp := hp.mono S29
      replace b := b.step S29
      replace T := T.trans S29
      obtain ⟨dx29, h29⟩ := h29.hx
      k_extra "r_L13k"
      refine q_newT (by show 3 ≤ sizeLine; decide) fun t30 G30 n30 S30 h30 => ?_
      replace hpl := S30 _ _ hpl
      replace h22 := S30 _ _ h22
      replace h23 := S30 _ _ h23
      replace h24 := S30 _ _ h24
      replace h25 := S30 _ _ h25
      replace h26 := S30 _ _ h26
      replace h27 := S30 _ _ h27
      replace h28 := S30 _ _ h28
      replace h29 := S30 _ _ h29
      replace hp := hp.mono S30
      replace b := b.step S30
      replace T := T.trans S30
      k_extra "r_L13k"
      refine q_newL (by show 4 ≤ sizeLine; decide) fun t31 G31 n31 S31 h31 => ?_
      replace hpl := S31 _ _ hpl
      replace h22 := S31 _ _ h22
      replace h23 := S31 _ _ h23
      replace h24 := S31 _ _ h24
      replace h25 := S31 _ _ h25
      replace h26 := S31 _ _ h26
      replace h27 := S31 _ _ h27
      replace h28 := S31 _ _ h28
      replace h29 := S31 _ _ h29
      replace h30 := S31 _ _ h30
      replace hp := hp.mono S31
      replace b := b.step S31
      replace T := T.trans S31
      obtain ⟨_, _, vs32, hD32, _, lv32⟩ := id b
      refine q_cat hD32 h31 (sz (by simp; omega)) fun E32 G32 n32 S32 h32 => ?_
      have b32 := b.catB hD32 n32 S32 h32 (m := 4) (all_cons (bad_word h23 (by simp) g0 (.odd rfl (.inl ⟨_, h22⟩))) (all_cons (bad_word h25 (by simp) g0 (.odd rfl (.inr (.inr ⟨_, h24⟩)))) (all_cons (bad_word h27 (by simp) g0 (.odd rfl (.inr (.inl ⟨_, h26⟩)))) (all_cons (bad_word h30 (by simp) g0 (.ins rfl h29)) (all_nil))))) (by simp)
      replace hpl := S32 _ _ hpl
      replace h22 := S32 _ _ h22
      replace h23 := S32 _ _ h23
      replace h24 := S32 _ _ h24
      replace h25 := S32 _ _ h25
      replace h26 := S32 _ _ h26
      replace h27 := S32 _ _ h27
      replace h28 := S32 _ _ h28
      replace h29 := S32 _ _ h29
      replace h30 := S32 _ _ h30
      replace h31 := S32 _ _ h31
      replace hp := hp.mono S32
      replace T := T.trans S32
      replace b := b32
      k_extra "r_L13k"
      refine q_newL (by show 1 ≤ sizeLine; decide) fun t33 G33 n33 S33 h33 => ?_
      replace hpl := S33 _ _ hpl
      replace h22 := S33 _ _ h22
      replace h23 := S33 _ _ h23
      replace h24 := S33 _ _ h24
      replace h25 := S33 _ _ h25
      replace h26 := S33 _ _ h26
      replace h27 := S33 _ _ h27
      replace h28 := S33 _ _ h28
      replace h29 := S33 _ _ h29
      replace h30 := S33 _ _ h30
      replace h31 := S33 _ _ h31
      replace hp := hp.mono S33
      replace b := b.step S33
      replace T := T.trans S33
      k_extra "r_L13k"
      refine q_newT (by show 3 ≤ sizeLine; decide) fun t34 G34 n34 S34 h34 => ?_
      replace hpl := S34 _ _ hpl
      replace h22 := S34 _ _ h22
      replace h23 := S34 _ _ h23
      replace h24 := S34 _ _ h24
      replace h25 := S34 _ _ h25
      replace h26 := S34 _ _ h26
      replace h27 := S34 _ _ h27
      replace h28 := S34 _ _ h28
      replace h29 := S34 _ _ h29
      replace h30 := S34 _ _ h30
      replace h31 := S34 _ _ h31
      replace h33 := S34 _ _ h33
      replace hp := hp.mono S34
      replace b := b.step S34
      replace T := T.trans S34
      k_extra "r_L13k"
      refine s_dnew fun t35 G35 n35 S35 h35 => ?_
      replace hpl := S35 _ _ hpl
      replace h22 := S35 _ _ h22
      replace h23 := S35 _ _ h23
      replace h24 := S35 _ _ h24
      replace h25 := S35 _ _ h25
      replace h26 := S35 _ _ h26
      replace h27 := S35 _ _ h27
      replace h28 := S35 _ _ h28
      replace h29 := S35 _ _ h29
      replace h30 := S35 _ _ h30
      replace h31 := S35 _ _ h31
      replace h33 := S35 _ _ h33
      replace h34 := S35 _ _ h34
      replace hp := hp.mono S35
      replace b := b.step S35
      replace T := T.trans S35
      k_extra "r_L13k"
      refine q_newT (by show 3 ≤ sizeLine; decide) fun t36 G36 n36 S36 h36 => ?_
      replace hpl := S36 _ _ hpl
      replace h22 := S36 _ _ h22
      replace h23 := S36 _ _ h23
      replace h24 := S36 _ _ h24
      replace h25 := S36 _ _ h25
      replace h26 := S36 _ _ h26
      replace h27 := S36 _ _ h27
      replace h28 := S36 _ _ h28
      replace h29 := S36 _ _ h29
      replace h30 := S36 _ _ h30
      replace h31 := S36 _ _ h31
      replace h33 := S36 _ _ h33
      replace h34 := S36 _ _ h34
      replace h35 := S36 _ _ h35
      replace hp := hp.mono S36
      replace b := b.step S36
      replace T := T.trans S36
      k_extra "r_L13k"
      refine q_ixT (SqT.of hpl) (at_of (j := 0) rfl rfl) ?_
      k_extra "r_L13k"
      refine q_ixT (SqT.of hpl) (at_of (j := 1) rfl rfl) ?_
      k_extra "r_L13k"
      refine q_newL (by show 2 ≤ sizeLine; decide) fun t37 G37 n37 S37 h37 => ?_
      replace hpl := S37 _ _ hpl
      replace h22 := S37 _ _ h22
      replace h23 := S37 _ _ h23
      replace h24 := S37 _ _ h24
      replace h25 := S37 _ _ h25
      replace h26 := S37 _ _ h26
      replace h27 := S37 _ _ h27
      replace h28 := S37 _ _ h28
      replace h29 := S37 _ _ h29
      replace h30 := S37 _ _ h30
      replace h31 := S37 _ _ h31
      replace h33 := S37 _ _ h33
      replace h34 := S37 _ _ h34
      replace h35 := S37 _ _ h35
      replace h36 := S37 _ _ h36
      replace hp := hp.mono S37
      replace b := b.step S37
      replace T := T.trans S37
      k_extra "r_L13k"
      refine q_newT (by show 3 ≤ sizeLine; decide) fun t38 G38 n38 S38 h38 => ?_
      replace hpl := S38 _ _ hpl
      replace h22 := S38 _ _ h22
      replace h23 := S38 _ _ h23
      replace h24 := S38 _ _ h24
      replace h25 := S38 _ _ h25
      replace h26 := S38 _ _ h26
      replace h27 := S38 _ _ h27
      replace h28 := S38 _ _ h28
      replace h29 := S38 _ _ h29
      replace h30 := S38 _ _ h30
      replace h31 := S38 _ _ h31
      replace h33 := S38 _ _ h33
      replace h34 := S38 _ _ h34
      replace h35 := S38 _ _ h35
      replace h36 := S38 _ _ h36
      replace h37 := S38 _ _ h37
      replace hp := hp.mono S38
      replace b := b.step S38
      replace T := T.trans S38
      k_extra "r_L13k"
      refine q_newL (by show 3 ≤ sizeLine; decide) fun t39 G39 n39 S39 h39 => ?_
      replace hpl := S39 _ _ hpl
      replace h22 := S39 _ _ h22
      replace h23 := S39 _ _ h23
      replace h24 := S39 _ _ h24
      replace h25 := S39 _ _ h25
      replace h26 := S39 _ _ h26
      replace h27 := S39 _ _ h27
      replace h28 := S39 _ _ h28
      replace h29 := S39 _ _ h29
      replace h30 := S39 _ _ h30
      replace h31 := S39 _ _ h31
      replace h33 := S39 _ _ h33
      replace h34 := S39 _ _ h34
      replace h35 := S39 _ _ h35
      replace h36 := S39 _ _ h36
      replace h37 := S39 _ _ h37
      replace h38 := S39 _ _ h38
      replace hp := hp.mono S39
      replace b := b.step S39
      replace T := T.trans S39
      obtain ⟨_, _, vs40, hD40, _, lv40⟩ := id b
      refine q_cat hD40 h39 (sz (by simp; omega)) fun E40 G40 n40 S40 h40 => ?_
      have b40 := b.catB hD40 n40 S40 h40 (m := 3) (all_cons (bad_num h34 (by simp) (Pl.lst h33) (fun i e => by cases e)) (all_cons (bad_num h36 (by simp) (Pl.dct h35) (fun i e => by cases e)) (all_cons (bad_part h38 (by simp) g0 (.inr (.inl rfl)) (.head _) (.no (Pl.lst h37) (by decide) (noTup_lst h37)) (one_plk (.no (Pl.lst h37) (by decide) (noTup_lst h37)))) (all_nil)))) (by simp)
      replace hpl := S40 _ _ hpl
      replace h22 := S40 _ _ h22
      replace h23 := S40 _ _ h23
      replace h24 := S40 _ _ h24
      replace h25 := S40 _ _ h25
      replace h26 := S40 _ _ h26
      replace h27 := S40 _ _ h27
      replace h28 := S40 _ _ h28
      replace h29 := S40 _ _ h29
      replace h30 := S40 _ _ h30
      replace h31 := S40 _ _ h31
      replace h33 := S40 _ _ h33
      replace h34 := S40 _ _ h34
      replace h35 := S40 _ _ h35
      replace h36 := S40 _ _ h36
      replace h37 := S40 _ _ h37
      replace h38 := S40 _ _ h38
      replace h39 := S40 _ _ h39
      replace hp := hp.mono S40
      replace T := T.trans S40
      replace b := b40
      k_extra "r_L13k"
      refine q_newT (by show 2 ≤ sizeLine; decide) fun t41 G41 n41 S41 h41 => ?_
      replace hpl := S41 _ _ hpl
      replace h22 := S41 _ _ h22
      replace h23 := S41 _ _ h23
      replace h24 := S41 _ _ h24
      replace h25 := S41 _ _ h25
      replace h26 := S41 _ _ h26
      replace h27 := S41 _ _ h27
      replace h28 := S41 _ _ h28
      replace h29 := S41 _ _ h29
      replace h30 := S41 _ _ h30
      replace h31 := S41 _ _ h31
      replace h33 := S41 _ _ h33
      replace h34 := S41 _ _ h34
      replace h35 := S41 _ _ h35
      replace h36 := S41 _ _ h36
      replace h37 := S41 _ _ h37
      replace h38 := S41 _ _ h38
      replace h39 := S41 _ _ h39
      replace hp := hp.mono S41
      replace b := b.step S41
      replace T := T.trans S41
      k_extra "r_L13k"
      refine q_newT (by show 2 ≤ sizeLine; decide) fun t42 G42 n42 S42 h42 => ?_
      replace hpl := S42 _ _ hpl
      replace h22 := S42 _ _ h22
      replace h23 := S42 _ _ h23
      replace h24 := S42 _ _ h24
      replace h25 := S42 _ _ h25
      replace h26 := S42 _ _ h26
      replace h27 := S42 _ _ h27
      replace h28 := S42 _ _ h28
      replace h29 := S42 _ _ h29
      replace h30 := S42 _ _ h30
      replace h31 := S42 _ _ h31
      replace h33 := S42 _ _ h33
      replace h34 := S42 _ _ h34
      replace h35 := S42 _ _ h35
      replace h36 := S42 _ _ h36
      replace h37 := S42 _ _ h37
      replace h38 := S42 _ _ h38
      replace h39 := S42 _ _ h39
      replace h41 := S42 _ _ h41
      replace hp := hp.mono S42
      replace b := b.step S42
      replace T := T.trans S42
      k_extra "r_L13k"
      refine q_newT (by show 5 ≤ sizeLine; decide) fun t43 G43 n43 S43 h43 => ?_
      replace hpl := S43 _ _ hpl
      replace h22 := S43 _ _ h22
      replace h23 := S43 _ _ h23
      replace h24 := S43 _ _ h24
      replace h25 := S43 _ _ h25
      replace h26 := S43 _ _ h26
      replace h27 := S43 _ _ h27
      replace h28 := S43 _ _ h28
      replace h29 := S43 _ _ h29
      replace h30 := S43 _ _ h30
      replace h31 := S43 _ _ h31
      replace h33 := S43 _ _ h33
      replace h34 := S43 _ _ h34
      replace h35 := S43 _ _ h35
      replace h36 := S43 _ _ h36
      replace h37 := S43 _ _ h37
      replace h38 := S43 _ _ h38
      replace h39 := S43 _ _ h39
      replace h41 := S43 _ _ h41
      replace h42 := S43 _ _ h42
      replace hp := hp.mono S43
      replace b := b.step S43
      replace T := T.trans S43
      k_extra "r_L13k"
      refine q_newT (by show 4 ≤ sizeLine; decide) fun t44 G44 n44 S44 h44 => ?_
      replace hpl := S44 _ _ hpl
      replace h22 := S44 _ _ h22
      replace h23 := S44 _ _ h23
      replace h24 := S44 _ _ h24
      replace h25 := S44 _ _ h25
      replace h26 := S44 _ _ h26
      replace h27 := S44 _ _ h27
      replace h28 := S44 _ _ h28
      replace h29 := S44 _ _ h29
      replace h30 := S44 _ _ h30
      replace h31 := S44 _ _ h31
      replace h33 := S44 _ _ h33
      replace h34 := S44 _ _ h34
      replace h35 := S44 _ _ h35
      replace h36 := S44 _ _ h36
      replace h37 := S44 _ _ h37
      replace h38 := S44 _ _ h38
      replace h39 := S44 _ _ h39
      replace h41 := S44 _ _ h41
      replace h42 := S44 _ _ h42
      replace h43 := S44 _ _ h43
      replace hp := hp.mono S44
      replace b := b.step S44
      replace T := T.trans S44
      k_extra "r_L13k"
      refine q_newT (by show 3 ≤ sizeLine; decide) fun t45 G45 n45 S45 h45 => ?_
      replace hpl := S45 _ _ hpl
      replace h22 := S45 _ _ h22
      replace h23 := S45 _ _ h23
      replace h24 := S45 _ _ h24
      replace h25 := S45 _ _ h25
      replace h26 := S45 _ _ h26
      replace h27 := S45 _ _ h27
      replace h28 := S45 _ _ h28
      replace h29 := S45 _ _ h29
      replace h30 := S45 _ _ h30
      replace h31 := S45 _ _ h31
      replace h33 := S45 _ _ h33
      replace h34 := S45 _ _ h34
      replace h35 := S45 _ _ h35
      replace h36 := S45 _ _ h36
      replace h37 := S45 _ _ h37
      replace h38 := S45 _ _ h38
      replace h39 := S45 _ _ h39
      replace h41 := S45 _ _ h41
      replace h42 := S45 _ _ h42
      replace h43 := S45 _ _ h43
      replace h44 := S45 _ _ h44
      replace hp := hp.mono S45
      replace b := b.step S45
      replace T := T.trans S45
      k_extra "r_L13k"
      refine q_newL (by show 3 ≤ sizeLine; decide) fun t46 G46 n46 S46 h46 => ?_
      replace hpl := S46 _ _ hpl
      replace h22 := S46 _ _ h22
      replace h23 := S46 _ _ h23
      replace h24 := S46 _ _ h24
      replace h25 := S46 _ _ h25
      replace h26 := S46 _ _ h26
      replace h27 := S46 _ _ h27
      replace h28 := S46 _ _ h28
      replace h29 := S46 _ _ h29
      replace h30 := S46 _ _ h30
      replace h31 := S46 _ _ h31
      replace h33 := S46 _ _ h33
      replace h34 := S46 _ _ h34
      replace h35 := S46 _ _ h35
      replace h36 := S46 _ _ h36
      replace h37 := S46 _ _ h37
      replace h38 := S46 _ _ h38
      replace h39 := S46 _ _ h39
      replace h41 := S46 _ _ h41
      replace h42 := S46 _ _ h42
      replace h43 := S46 _ _ h43
      replace h44 := S46 _ _ h44
      replace h45 := S46 _ _ h45
      replace hp := hp.mono S46
      replace b := b.step S46
      replace T := T.trans S46
      replace hl6 := T _ _ hl6
      have hl6q := hl6
      obtain ⟨_, _, vs47, hD47, _, lv47⟩ := id b
      refine q_cat hD47 h46 (sz (by simp; omega)) fun E47 G47 n47 S47 h47 => ?_
      have b47 := b.catB hD47 n47 S47 h47 (m := 3) (all_cons (bad_many h43 (by simp) g0 (.inr (.inr rfl)) (all_cons (⟨_, hp.plk np⟩) (all_cons (⟨_, PlAt.plk (q := ("q", "q")) ⟨_, rfl, h41⟩ ⟨nmq, nmq⟩⟩) (all_cons (⟨_, PlAt.plk (q := ("q", "r")) ⟨_, rfl, h42⟩ ⟨nmq, nmr⟩⟩) (all_nil)))) (by show 3 ≠ manyC "rename"; decide)) (all_cons (bad_many h44 (by simp) g0 (.inr (.inl rfl)) (two_plk (hp.plk np) (plk_flat Pl.int (by decide) (fun a z => by cases z))) (by show 2 ≠ manyC "take"; decide)) (all_cons (bad_word h45 (by simp) g0 (.nul rfl)) (all_nil)))) (by simp)
      replace hpl := S47 _ _ hpl
      replace h22 := S47 _ _ h22
      replace h23 := S47 _ _ h23
      replace h24 := S47 _ _ h24
      replace h25 := S47 _ _ h25
      replace h26 := S47 _ _ h26
      replace h27 := S47 _ _ h27
      replace h28 := S47 _ _ h28
      replace h29 := S47 _ _ h29
      replace h30 := S47 _ _ h30
      replace h31 := S47 _ _ h31
      replace h33 := S47 _ _ h33
      replace h34 := S47 _ _ h34
      replace h35 := S47 _ _ h35
      replace h36 := S47 _ _ h36
      replace h37 := S47 _ _ h37
      replace h38 := S47 _ _ h38
      replace h39 := S47 _ _ h39
      replace h41 := S47 _ _ h41
      replace h42 := S47 _ _ h42
      replace h43 := S47 _ _ h43
      replace h44 := S47 _ _ h44
      replace h45 := S47 _ _ h45
      replace h46 := S47 _ _ h46
      replace hp := hp.mono S47
      replace T := T.trans S47
      replace b := b47
      k_extra "r_L13k"
      exact ⟨_, _, _, rfl, S47 _ _ hl6q, (fun z => by rw [z, hl6q] at n47; cases n47), b.le (by omega)⟩
    · rintro σ H7 ⟨D, v3, v4, rfl, _, _, b⟩
      k_extra "r_L13k"
      refine k D H7 _ ?_ b
      rw [show (1 : Int) = ((1 : Nat) : Int) from rfl, cutV_take, List.length_take]
      omega
end
end Bt
namespace Bt
open PySem PySem.Spec PyProof.Rows L2 LamX NdefX
open PySem.W (dataLt dataLe alike AllAlike Sortable)
theorem words138_ : True := by
  k_with "s_L13l" => first
    | ((with_reducible refine' s_var ?hv ?_); (case hv => exact rfl))
    | with_reducible first
      | refine' s_c ?_ | refine' s_op ?_ | refine' s_asg ?_ | refine' s_gname ?_ | refine' s_seq ?_ | refine' s_next ?_ | refine' s_ret ?_ | refine' s_ifS ?_ | refine' s_drop ?_ | refine' s_retN ?_ | refine' s_test ?_ | refine' s_B ?_ | refine' q_test ?_ | refine' s_int ?_ | refine' s_cons ?_ | refine' s_nil ?_ | refine' s_call ?_ | refine' s_CB ?_ | refine' s_andT ?_ | refine' s_orT ?_ | refine' s_notT ?_ | refine' s_andV ?_ | refine' s_orV ?_ | refine' s_notV ?_ | refine' s_ifV ?_ | refine' s_chain ?_ | refine' s_sl ?_ | refine' s_noPart ?_ | refine' s_part ?_ | refine' s_gsub ?_ | refine' s_BM ?_ | refine' s_tup ?_ | refine' s_lst ?_ | refine' q_add ?_ | refine' q_sub ?_ | refine' q_lt ?_ | refine' q_le ?_ | refine' q_gt ?_ | refine' q_ge ?_ | refine' s_ifT ?_ | refine' s_ifF ?_ | refine' s_yes ?_ | refine' s_iStr ?_ | refine' s_M0 ?_ | refine' s_for ?_ | refine' s_rng1 ?_ | refine' s_par ?_ | refine' s_gcons ?_ | refine' s_gnil ?_ | refine' s_iList ?_ | refine' s_iEnum ?_ | refine' s_raise1 ?_
      | (refine' q_mod ?hm ?_; (case hm => first | omega | decide))
    | dsimp only
  k_with "r_L13l" => repeat (k_extra "s_L13l")
  trivial
/-! ### place in story; _law_same -/
def dOp : Option Plc → PyData
  | none => .none
  | some p => dPl p
theorem OpAt.dp {K : PySem.W.Frag} {H : Hp} {y : V} : ∀ {o : Option Plc}, OpAt H y o → Dp K H y (dOp o)
  | none, e => by
    obtain rfl : y = .non := e
    exact .non
  | some p, h => PlAt.dp h
def NmO (o : Option Plc) : Prop := ∀ p, o = some p → NmP p
theorem eqv_op (o : Option Plc) (p : Plc) : PyData.eqv (dOp o) (dPl p) = decide (o = some p) := by
  cases o with
  | none => simp [dOp, dPl, PyData.eqv]
  | some q =>
    show PyData.eqv (dPl q) (dPl p) = _
    rw [eqv_pl]
    exact decide_eq_decide.mpr ⟨fun e => by rw [e], fun e => Option.some.inj e⟩
theorem canLay_ops : ∀ {os : List (Option Plc)}, (∀ o ∈ os, NmO o) → PyData.canLayAll0 (os.map dOp) = true
  | [], _ => by simp [PyData.canLayAll0]
  | o :: os, h => by
    have h1 : PyData.canLay0 (dOp o) = true := by
      cases o with
      | none => rfl
      | some p =>
        have := canLay_pls (ps := [p]) fun q m => by rw [List.mem_singleton.mp m]; exact h (some p) List.mem_cons_self p rfl
        simpa [PyData.canLayAll0, dOp] using this
    simp only [List.map_cons, PyData.canLayAll0, h1, canLay_ops fun z hz => h z (List.mem_cons_of_mem _ hz), Bool.and_true]
theorem depth_ops : ∀ (os : List (Option Plc)), PyData.depthAll (os.map dOp) ≤ 5
  | [] => by simp [PyData.depthAll]
  | o :: os => by
    have h1 := depth_ops os
    cases o with
    | none =>
      simp only [List.map_cons, PyData.depthAll, dOp, PyData.depth]
      omega
    | some p =>
      simp only [List.map_cons, PyData.depthAll, dOp, dPl, PyData.depth]
      omega
theorem sh_ops {os : List (Option Plc)} (h : ∀ o ∈ os, NmO o) : SeqAt.shaped (.list (os.map dOp)) = true := by
  unfold SeqAt.shaped
  rw [Bool.and_eq_true, decide_eq_true_eq]
  have := depth_ops os
  refine ⟨by simp only [PyData.canLay0]; exact canLay_ops h, ?_⟩
  simp only [PyData.depth]
  omega
theorem any_op (os : List (Option Plc)) (p : Plc) : (os.map dOp).any (fun z => PyData.eqv z (dPl p)) = decide (some p ∈ os) := by
  rw [List.any_map, Bool.eq_iff_iff, List.any_eq_true, decide_eq_true_iff]
  constructor
  · rintro ⟨y, hy, e⟩
    have e2 : PyData.eqv (dOp y) (dPl p) = true := e
    rw [eqv_op, decide_eq_true_iff] at e2
    exact e2 ▸ hy
  · intro h
    refine ⟨some p, h, ?_⟩
    show PyData.eqv (dOp (some p)) (dPl p) = true
    rw [eqv_op]
    exact decide_eq_true rfl
abbrev OpsAt (H : Hp) : List V → List (Option Plc) → Prop := Paired (OpAt H)
theorem OpsAt.mono {H H' : Hp} {xs : List V} {os : List (Option Plc)} (S : Same H H') (h : OpsAt H xs os) : OpsAt H' xs os := Paired.mapP h fun _ _ z => z.mono S
theorem OpsAt.dps {K : PySem.W.Frag} {H : Hp} {xs : List V} {os : List (Option Plc)} (h : OpsAt H xs os) : DpAll K H xs (os.map dOp) := by
  induction h with
  | nil => exact .nil
  | cons h _ ih => exact .cons h.dp ih
theorem OpAt.tk {H H' : Hp} {y : V} {o : Option Plc} (N : TupK H H') (h : OpAt H y o) : OpAt H' y o := by
  cases o with
  | none => exact h
  | some p => exact PlAt.tk N h
theorem OpsAt.tk {H H' : Hp} {xs : List V} {os : List (Option Plc)} (N : TupK H H') (h : OpsAt H xs os) : OpsAt H' xs os := Paired.mapP h fun _ _ z => z.tk N
theorem q_inOp {K : PySem.W.Frag} {H : Hp} {Q : VK} {x : V} {p : Plc} {l : Addr} {xs : List V} {os : List (Option Plc)} (hx : PlAt H x p) (np : NmP p) (hl : H l = some (.lst xs)) (pl : OpsAt H xs os) (nm : ∀ o ∈ os, NmO o) (q : Q (.bl (decide (some p ∈ os))) H) : rInD K x (.ref l) H Q :=
  ⟨dPl p, os.map dOp, hx.dp, .lst (SqL.of hl) pl.dps, sh_pl np.1 np.2, sh_ops nm, by rw [any_op]; exact q⟩
theorem gs_pcs {c : Ch} {p : Plc} (h : c.cs = some p) : p ∈ c.pcs := by
  cases c with
  | add q => cases h; exact List.mem_cons_self
  | take q => cases h
  | ren q r => cases h; exact List.mem_cons_of_mem _ List.mem_cons_self
section
variable {P : Program} {w : World} {K : PySem.W.Frag} {mg : Str → Option Value} {base : Heap} {CS CI CC CN : Addr}
def spCon (K : PySem.W.Frag) (CS : Addr) : Sp := fun vs H Q _ => ∃ x f c d ps zs st y, vs = [.ref x, y] ∧ StoAt CS H x f c d ps zs st ∧ (∀ p ∈ ps, NmP p) ∧ NmC zs ∧ zs.length < 1000 ∧
  ((PlK K H y false ∧ ∀ H', Same H H' → Q (.bl false) H') ∨ ∃ p, PlAt H y p ∧ NmP p ∧ ∀ H', Same H H' → Q (.bl (decide (p ∈ ps) || decide (some p ∈ zs.map (·.2.cs)))) H')
theorem ok_story_con {f : Addr} {fd : FuncData} (T : Txt K mg) (N : TxtN K mg) (I : TxtI K mg) (C : TxtC13 K mg) (SC : StoryC K mg CS) (F : Fun K "__contains__" "Story.__contains__" s_Story___contains__ f fd) : FnOk P w K mg base CX0 3 f fd ["self", "place"] (spCon K CS) := by
  refine F.ok sc_Story___contains__ (fun vs H Q E h => ?_) (fun cdv A outer s H vs Q E hr h => ?_)
  · obtain ⟨x, f, c, d, ps, zs, st, y, rfl, _⟩ := h
    rfl
  · obtain ⟨x, f, c, d, ps, zs, st, y, rfl, hs, np, nz, lz, hk⟩ := h
    refine ⟨_, (pss_cons (ps_if (pt_not (pt_val (pe_c (ok_is_place T N I) hr (by decide) rfl (pa_cons (pv 1) pa_nil)))) (pss_one (ps_ret pe_bl)) pss_nil)
      (pss_one (ps_ret (pe_or (pe_cmpR (op_inD (room65 hr)) (pv 1) (pe_fld (pv 0) rfl) (by rfl)) (pe_one (pe_cmpR (op_inD (room65 hr)) (pv 1) (pe_lc (own := [("change", 2)]) (g := gName 2) (tt := tYes) (te := tCall spComes [] E0 (tCons (tVar 2) tNil)) rfl sc_Story___contains__.nd (pi_list (pe_fld (pv 0) rfl)) (blkOk_by (own := [("change", 2)]) (N := ["self", "place", "change"]) (sc := defScope s_Story___contains__) (by decide +kernel)) (fun _ _ _ _ _ => pg_name (i := 2) sc_Story___contains__.nd rfl (Or.inl rfl)) (fun _ _ _ _ _ => by exact pts_nil) (fun _ _ _ _ _ => by exact (pe_c (ok_comes C) hr (by decide) rfl (pa_cons (pv 2) pa_nil)))) (by rfl))))))), ?_⟩
    obtain ⟨dx, hx⟩ := id hs.hx
    obtain ⟨xs, hf, pl⟩ := id hs.hf
    obtain ⟨ts, hc, cs⟩ := id hs.hc
    have lt : ts.length = zs.length := Paired.length cs
    k_extra "r_L13l"
    rcases hk with ⟨no, k⟩ | ⟨p, hy, n1, k⟩
    · refine place_asked no fun H1 S1 => ?_
      k_extra "r_L13l"
      refine s_if1 rfl ?_
      k_extra "r_L13l"
      exact k H1 S1
    · refine place_asked (hy.plk n1) fun H1 S1 => ?_
      k_extra "r_L13l"
      refine s_if0 rfl ?_
      k_extra "r_L13l"
      refine s_fld ?_
      k_extra "r_L13l"
      refine ⟨x, CS, dx, _, .ref f, rfl, S1 _ _ hx, SC.cl, SC.n1, lk_first _ _ _, ?_⟩
      refine q_inPl (hy.mono S1) n1 (S1 _ _ hf) (pl.mono S1) np ?_
      by_cases m : p ∈ ps
      · rw [decide_eq_true m] at k ⊢
        refine ⟨_, rfl, s_if1 rfl ?_⟩
        exact k H1 S1
      · rw [decide_eq_false m, Bool.false_or] at k
        rw [decide_eq_false m]
        refine ⟨_, rfl, s_if0 rfl ?_⟩
        k_extra "r_L13l"
        refine s_lc ?_
        k_extra "r_L13l"
        refine s_fld ?_
        k_extra "r_L13l"
        refine ⟨x, CS, dx, _, .ref c, rfl, S1 _ _ hx, SC.cl, SC.n2, lk_changes _ _ _, ?_⟩
        refine ⟨c, rfl, ⟨_, SqL.of (S1 _ _ hc)⟩, fun D nD => lc_list (K := K) (a := c) (xs := ts) (fun i H' => Same H1 H' ∧ ∃ us, H' D = some (.lst us) ∧ OpsAt H' us ((zs.take i).map (·.2.cs))) ⟨Same.new nD, [], upd_same, .nil⟩ (fun i H' _ h => SqL.of (h.1 _ _ (S1 _ _ hc))) ?_ ?_⟩
        · rintro i u H2 hu ⟨S2, us, h2, c2⟩
          obtain ⟨z, ez, hz⟩ := Paired.get cs hu
          have li := (List.getElem?_eq_some_iff.mp ez).1
          have lt2 : us.length = ((zs.take i).map (·.2.cs)).length := Paired.length c2
          rw [List.length_map, List.length_take] at lt2
          k_extra "r_L13l"
          refine ⟨rfl, ?_⟩
          k_extra "r_L13l"
          refine ⟨u, z, rfl, hz.mono (S1.trans S2), fun v hv => ?_⟩
          have N : TupK H2 (upd H2 D (.lst (us ++ [v]))) := TupK.but h2 (fun _ z => by cases z) But.upd
          refine ⟨us, h2, szlt (by omega), same_mut S2 nD, _, upd_same, ?_⟩
          rw [List.take_add_one, ez, List.map_append]
          exact (OpsAt.tk N c2).snoc (hv.tk N)
        · rintro H2 ⟨S2, us, h2, c2⟩
          rw [lt, List.take_of_length_le (Nat.le_refl _)] at c2
          k_extra "r_L13l"
          refine q_inOp (hy.mono (S1.trans S2)) n1 h2 c2 (fun o mo q eo => ?_) ?_
          · obtain ⟨z, mz, rfl⟩ := List.mem_map.mp mo
            exact nz z mz q (gs_pcs eo)
          · exact k H2 (S1.trans S2)
def spSame (CS : Addr) : Sp := fun vs H Q _ => ∃ x g1 g2 g3 fl ys fs cl ts zs st lp ws ps, vs = [.ref x, .ref fl, .ref cl, .ref lp] ∧ StoAt CS H x g1 g2 g3 (fs.mergeSort pLe) zs st ∧ H fl = some (.lst ys) ∧ Pls H ys fs ∧ H cl = some (.lst ts) ∧ ChsAt H ts zs ∧ (∀ p ∈ fs, NmP p) ∧ NmC zs ∧ ys.length < 60 ∧ zs.length < 60 ∧ H lp = some (.lst ws) ∧ Pls H ws ps ∧ (∀ p ∈ ps, NmP p) ∧ ws.length ≤ 20 ∧ ∀ H', Same H H' → Q (.bl true) H'
theorem ok__law_same (T : Txt K mg) (L0 : TxtL K mg) (N : TxtN K mg) (I : TxtI K mg) (C : TxtC13 K mg) (S : TxtS13 K mg) (SC : StoryC K mg CS) (SM : StoryM K CS) (L : TxtL13 K mg) : Cal P w K mg base 5 "_law_same" (spSame CS) := by
  obtain ⟨fl, fdl, l1, l2, Fl, bl⟩ := SM.len
  obtain ⟨fg, fdg, g1, g2, g3, Fg, bg⟩ := SM.get
  obtain ⟨fc, fdc, c1, c2, Fc, bc⟩ := SM.con
  refine L.d_same.cal sc__law_same (fun vs H Q E h => ?_) (fun fn cdv A outer s H vs Q E hr h => ?_)
  · obtain ⟨x, g1, g2, g3, fl, ys, fs, cl, ts, zs, st, lp, ws, ps, rfl, _⟩ := h
    rfl
  · obtain ⟨x, q1, q2, q3, fa, ys, fs, cl, ts, zs, st, lp, ws, ps, rfl, hs, hf, pf, hc, cs, nf, nz, lf, lz, hl, pl, nm, lw, k⟩ := h
    have hu := hr.units
    refine ⟨_, (pss_cons (ps_if (PW.pt (pw_or (pt_not (pt_val (pe_callB call_isi (by rfl) T.n_isinstance (by decide +kernel) (pa_cons (pv 0) (pa_cons (pe_glob (v := .ref CS) (by rfl) SC.g rfl) pa_nil))))) (pw_or (pt_cmpR (op_neU hu) (pe_first T SC SM hr (by decide) (pv 0)) (pe_callB (cr_sortD hu) (by rfl) T.n_sorted (by decide +kernel) (pa_cons (pv 1) pa_nil)) (by rfl)) (pw_or1 (pt_not (pt_val (pe_callB call_isi (by rfl) T.n_isinstance (by decide +kernel) (pa_cons (pe_first T SC SM hr (by decide) (pv 0)) (pa_cons (pe_bltn (v := .ty "list") (by rfl) T.n_list (by decide +kernel) rfl) pa_nil))))))))) (pss_one (ps_ret pe_bl)) pss_nil)
      (pss_cons (ps_if (PW.pt (pw_or (pt_cmpR (op_neU hu) (pe_callB (call_lenOwn (ok_story_len N SC Fl) (hr.mono (by decide)) l1 l2 bl L2.pass0) (by rfl) N.n_len (by decide +kernel) (pa_cons (pv 0) pa_nil)) (pe_callB call_lenQ (by rfl) N.n_len (by decide +kernel) (pa_cons (pv 2) pa_nil)) (by rfl)) (pw_or1 (pt_cmpR (op_neU hu) (pe_lc (own := [("_law_k", 5)]) (g := gName 5) (tt := tYes) (te := tIxOwn CS (spGet CS) E0 (tVar 0) (tVar 5)) rfl sc__law_same.nd (pi_range1 rfl L0.n_range (pa_cons (pe_callB call_lenQ (by rfl) N.n_len (by decide +kernel) (pa_cons (pv 2) pa_nil)) pa_nil)) (blkOk_by (own := [("_law_k", 5)]) (N := ["_law_story", "_law_first", "_law_changes", "_law_places", "_law_seen", "_law_k", "_law_change_here", "_law_place"]) (sc := defScope s__law_same) (by decide +kernel)) (fun _ _ _ _ _ => pg_name (i := 5) sc__law_same.nd rfl (Or.inl rfl)) (fun _ _ _ _ _ => by exact pts_nil) (fun _ _ _ _ _ => by exact (pe_ixOwn (pv 0) (pv 5) (ok_story_get T N S SC Fg) (hr.mono (by decide)) g1 g2 g3 bg L2.pass0))) (pv 2) (by rfl))))) (pss_one (ps_ret pe_bl)) pss_nil)
      (pss_cons (ps_set (i := 4) sc__law_same.nd rfl (.inr rfl) (pe_op op_addU (pe_callTy call_listOf (by rfl) T.n_list (by decide +kernel) (pa_cons (pv 1) pa_nil)) (pe_lc (own := [("_law_change_here", 6)]) (g := gName 6) (tt := (tTest (tOp (rNeU K) (tOp (rIx K) (tVar 6) (tC (.int 1))) (tC (.str "take"))))) (te := (tOp (rIx K) (tVar 6) (tUn (rU fun i => .int (-i)) (tC (.int 1))))) rfl sc__law_same.nd (pi_list (pv 2)) (blkOk_by (own := [("_law_change_here", 6)]) (N := ["_law_story", "_law_first", "_law_changes", "_law_places", "_law_seen", "_law_k", "_law_change_here", "_law_place"]) (sc := defScope s__law_same) (by decide +kernel)) (fun _ _ _ _ _ => pg_name (i := 6) sc__law_same.nd rfl (Or.inl rfl)) (fun _ _ _ _ _ => by exact (pts_one (pt_cmpR (op_neU hu) (pe_ix ix_seq (pv 6) pe_int (fun _ _ => rfl)) pe_str (by rfl)))) (fun _ _ _ _ _ => by exact (pe_ix ix_seq (pv 6) (pe_un un_neg pe_int) (fun _ _ => rfl))))))
      (pss_one (ps_ret (pe_cmpR (op_eqU hu) (pe_lc (own := [("_law_place", 7)]) (g := gName 7) (tt := (tTest (tOp (rNeU K) (tOp (rInOwn K CS false (spCon K CS) E0) (tVar 7) (tVar 0)) (tOp (rInD K) (tVar 7) (tVar 4))))) (te := (tVar 7)) rfl sc__law_same.nd (pi_list (pv 3)) (blkOk_by (own := [("_law_place", 7)]) (N := ["_law_story", "_law_first", "_law_changes", "_law_places", "_law_seen", "_law_k", "_law_change_here", "_law_place"]) (sc := defScope s__law_same) (by decide +kernel)) (fun _ _ _ _ _ => pg_name (i := 7) sc__law_same.nd rfl (Or.inl rfl)) (fun _ _ _ _ _ => by exact (pts_one (pt_cmpR (op_neU hu) (pe_cmpR (op_inOwn (ok_story_con T N I C SC Fc) (hr.mono (by decide)) c1 c2 bc L2.pass0) (pv 7) (pv 0) (by rfl)) (pe_cmpR (op_inD (room65 hr)) (pv 7) (pv 4) (by rfl)) (by rfl)))) (fun _ _ _ _ _ => by exact (pv 7))) (pe_lst pa_nil) (by rfl))))))), ?_⟩
    have lt : ts.length = zs.length := Paired.length cs
    obtain ⟨dx, hx⟩ := id hs.hx
    have nS : ∀ p ∈ fs.mergeSort pLe, NmP p := fun p m => nf p (List.mem_mergeSort.mp m)
    k_extra "r_L13l"
    refine ⟨.ref x, .ref CS, .ref CS, .ref CS, true, rfl, .own CS, .base (.ins hx SC.cl SC.i1 SC.i2 SC.i3 SC.i4), SM.kY, ?_⟩
    k_extra "r_L13l"
    refine s_if0 rfl ?_
    k_extra "r_L13l"
    refine s_prop ?_
    k_extra "r_L13l"
    refine ⟨x, dx, _, rfl, hx, x, q1, q2, q3, _, zs, st, rfl, hs, fun l1 H1 us1 n1 S1 h1 p1 => ?_⟩
    k_extra "r_L13l"
    refine q_sortP (SqL.of (S1 _ _ hf)) (pf.mono S1) fun l2 H2 us2 n2 S2 h2 p2 => ?_
    refine q_neD (.lst (SqL.of (S2 _ _ h1)) (p1.mono S2).dps) (.lst (SqL.of h2) p2.dps) (sh_pls nS) (sh_pls nS) ?_
    rw [show PyData.eqv (.list ((fs.mergeSort pLe).map dPl)) (.list ((fs.mergeSort pLe).map dPl)) = true from (eqv_pls _ _).trans (decide_eq_true rfl)]
    refine q_test (s_if0 rfl ?_)
    k_extra "r_L13l"
    refine s_prop ?_
    k_extra "r_L13l"
    have S12 := S1.trans S2
    refine ⟨x, dx, _, rfl, S12 _ _ hx, x, q1, q2, q3, _, zs, st, rfl, hs.mono S12, fun l3 H3 us3 n3 S3 h3 p3 => ?_⟩
    k_extra "r_L13l"
    refine q_isi (Pl.lst h3) .lst ?_
    k_extra "r_L13l"
    refine s_if0 rfl ?_
    k_extra "r_L13l"
    have S13 := S12.trans S3
    clear h1 p1 h2 p2 h3 p3
    refine q_stoLen (hs.mono S13) (by omega) ?_
    k_extra "r_L13l"
    refine q_lenL (SqL.of (S13 _ _ hc)) ?_
    refine q_ne rfl ?_
    rw [lt, decide_eq_true rfl]
    refine q_test (s_if0 rfl ?_)
    k_extra "r_L13l"
    refine s_lc (s_rng1 ?_)
    k_extra "r_L13l"
    refine q_lenL (SqL.of (S13 _ _ hc)) ?_
    k_extra "r_L13l"
    refine ⟨_, rfl, by omega, by omega, fun D nD => ?_⟩
    rw [lt]
    refine lc_range (lo := 0) (n := zs.length) (fun i H' => Same H3 H' ∧ ∃ ts', H' D = some (.lst ts') ∧ ChsAt H' ts' (zs.take i)) ⟨Same.new nD, [], upd_same, .nil⟩ ?_ ?_
    · rintro i H4 hi ⟨S4, ts', h4, c4⟩
      have ez : zs[i]? = some zs[i] := List.getElem?_eq_getElem hi
      have lt2 : ts'.length = (zs.take i).length := Paired.length c4
      rw [List.length_take] at lt2
      have hs4 := hs.mono (S13.trans S4)
      obtain ⟨dx2, hx2⟩ := id hs4.hx
      k_extra "r_L13l"
      refine ⟨rfl, ?_⟩
      k_extra "r_L13l"
      refine s_ixOwn ?_
      k_extra "r_L13l"
      refine ⟨x, dx2, _, rfl, hx2, x, q1, q2, q3, _, zs, st, _, zs[i], rfl, hs4, by omega, ?_, fun y hy => ?_⟩
      · rw [show ((0 : Int) + (i : Int)).toNat = i by omega]
        exact ez
      have N : TupK H4 (upd H4 D (.lst (ts' ++ [y]))) := TupK.but h4 (fun _ z => by cases z) But.upd
      refine ⟨ts', h4, szlt (by omega), same_mut S4 nD, _, upd_same, ?_⟩
      rw [List.take_add_one, ez]
      exact (c4.tk N).snoc (hy.tk N)
    rintro H4 ⟨S4, ts', h4, c4⟩
    rw [List.take_of_length_le (Nat.le_refl _)] at c4
    have S14 := S13.trans S4
    k_extra "r_L13l"
    refine q_neD (.lst (SqL.of h4) c4.dps) (.lst (SqL.of (S14 _ _ hc)) (cs.mono S14).dps) (sh_chs nz) (sh_chs nz) ?_
    rw [show PyData.eqv (.list (zs.map dCh)) (.list (zs.map dCh)) = true from eqv_self nz]
    refine q_test (s_if0 rfl ?_)
    k_extra "r_L13l"
    clear h4 c4
    refine q_listL (SqL.of (S14 _ _ hf)) fun l5 H5 n5 S5 h5 => ?_
    have S15 := S14.trans S5
    k_extra "r_L13l"
    refine s_lc ?_
    k_extra "r_L13l"
    refine ⟨cl, rfl, ⟨_, SqL.of (S15 _ _ hc)⟩, fun D6 nD6 => lc_list (K := K) (a := cl) (xs := ts) (fun i H' => Same H5 H' ∧ ∃ us, H' D6 = some (.lst us) ∧ Pls H' us ((zs.take i).filterMap (·.2.cs))) ⟨Same.new nD6, [], upd_same, .nil⟩ (fun i H' _ h => SqL.of (h.1 _ _ (S15 _ _ hc))) ?_ ?_⟩
    · rintro i u H6 hu6 ⟨S6, us, h6, c6⟩
      obtain ⟨z, ez, hz⟩ := Paired.get cs hu6
      have li := (List.getElem?_eq_some_iff.mp ez).1
      have mz := List.mem_of_getElem? ez
      have lu : us.length ≤ zs.length := by
        rw [c6.len]
        exact Nat.le_trans (List.length_filterMap_le _ _) (by rw [List.length_take]; omega)
      have hz6 := hz.mono (S15.trans S6)
      obtain ⟨t, vs, rfl, ht, hv⟩ := id hz6
      k_extra "r_L13l"
      refine ⟨rfl, ?_⟩
      k_extra "r_L13l"
      refine q_ixT (SqT.of ht) (at_of (j := 1) rfl rfl) ?_
      rw [List.take_add_one, ez, List.filterMap_append]
      obtain ⟨g, c⟩ := z
      cases c with
      | take p =>
        refine q_ne rfl ?_
        rw [show decide (V.str (Ch.wd (.take p)) = V.str "take") = true from decide_eq_true rfl]
        refine ⟨_, rfl, ?_⟩
        exact ⟨S6, us, h6, by simpa [Ch.cs] using c6⟩
      | add p =>
        refine q_ne rfl ?_
        rw [show decide (V.str (Ch.wd (.add p)) = V.str "take") = false from (by decide +kernel : decide (V.str "add" = V.str "take") = false)]
        refine ⟨_, rfl, s_if1 rfl ?_⟩
        k_extra "r_L13l"
        cases hv with
        | cons h hn =>
        cases hn
        refine ⟨_, rfl, q_ixT (SqT.of ht) (atI_last [V.int g, V.str "add"] _) ?_⟩
        have N : ∀ y : V, TupK H6 (upd H6 D6 (.lst (us ++ [y]))) := fun _ => TupK.but h6 (fun _ z => by cases z) But.upd
        refine ⟨us, h6, szlt (by omega), same_mut S6 nD6, _, upd_same, ?_⟩
        exact (c6.tk (N _)).snoc (PlAt.tk (N _) h)
      | ren p q =>
        refine q_ne rfl ?_
        rw [show decide (V.str (Ch.wd (.ren p q)) = V.str "take") = false from (by decide +kernel : decide (V.str "rename" = V.str "take") = false)]
        refine ⟨_, rfl, s_if1 rfl ?_⟩
        k_extra "r_L13l"
        cases hv with
        | cons h0 hn =>
        cases hn with
        | cons h hn =>
        cases hn
        refine ⟨_, rfl, q_ixT (SqT.of ht) (atI_last [V.int g, V.str "rename", _] _) ?_⟩
        have N : ∀ y : V, TupK H6 (upd H6 D6 (.lst (us ++ [y]))) := fun _ => TupK.but h6 (fun _ z => by cases z) But.upd
        refine ⟨us, h6, szlt (by omega), same_mut S6 nD6, _, upd_same, ?_⟩
        exact (c6.tk (N _)).snoc (PlAt.tk (N _) h)
    rintro H6 ⟨S6, us, h6, c6⟩
    rw [lt, List.take_of_length_le (Nat.le_refl _)] at c6
    have S16 := S15.trans S6
    have lu : us.length ≤ zs.length := by
      rw [c6.len]
      exact List.length_filterMap_le _ _
    refine q_cat (S6 _ _ h5) h6 (sz (by omega)) fun l7 H7 n7 S7 h7 => ?_
    have S17 := S16.trans S7
    have c7 : Pls H7 (ys ++ us) (fs ++ zs.filterMap (·.2.cs)) := (pf.mono S17).app (c6.mono S7)
    have n7' : ∀ p ∈ fs ++ zs.filterMap (·.2.cs), NmP p := fun p m => by
      rcases List.mem_append.mp m with m | m
      · exact nf p m
      · obtain ⟨z, mz, ez⟩ := List.mem_filterMap.mp m
        exact nz z mz p (gs_pcs ez)
    k_extra "r_L13l"
    refine s_lc ?_
    k_extra "r_L13l"
    refine ⟨lp, rfl, ⟨_, SqL.of (S17 _ _ hl)⟩, fun D8 nD8 => lc_list (K := K) (a := lp) (xs := ws) (fun i H' => Same H7 H' ∧ H' D8 = some (.lst [])) ⟨Same.new nD8, upd_same⟩ (fun i H' _ h => SqL.of (h.1 _ _ (S17 _ _ hl))) ?_ ?_⟩
    · rintro i u H8 hu8 ⟨S8, h8⟩
      obtain ⟨p, ep, hp⟩ := pl.get2 hu8
      have mp := List.mem_of_getElem? ep
      have S18 := S17.trans S8
      have hs8 := hs.mono S18
      obtain ⟨dx8, hx8⟩ := id hs8.hx
      k_extra "r_L13l"
      refine ⟨rfl, ?_⟩
      k_extra "r_L13l"
      refine ⟨x, dx8, _, rfl, hx8, x, q1, q2, q3, _, zs, st, u, rfl, hs8, nS, nz, by omega, .inr ⟨p, hp.mono S18, nm p mp, fun H9 S9 => ⟨_, rfl, ?_⟩⟩⟩
      have S19 := S18.trans S9
      k_extra "r_L13l"
      refine q_inPl (hp.mono S19) (nm p mp) ((S8.trans S9) _ _ h7) (c7.mono (S8.trans S9)) n7' ?_
      refine q_ne rfl ?_
      have e : (decide (p ∈ fs.mergeSort pLe) || decide (some p ∈ zs.map (·.2.cs))) = decide (p ∈ fs ++ zs.filterMap (·.2.cs)) := by
        rw [← Bool.decide_or]
        refine decide_eq_decide.mpr ?_
        rw [List.mem_append, List.mem_mergeSort, List.mem_filterMap, List.mem_map]
      rw [if_neg (by decide), e, decide_eq_true rfl]
      refine ⟨_, rfl, ?_⟩
      exact ⟨S8.trans S9, S9 _ _ h8⟩
    · rintro H8 ⟨S8, h8⟩
      k_extra "r_L13l"
      refine q_newL (by show 0 ≤ sizeLine; decide) fun l9 H9 n9 S9 h9 => ?_
      refine q_eqD (.lst (SqL.of (S9 _ _ h8)) .nil) (.lst (SqL.of h9) .nil) (by decide) (by decide) ?_
      rw [show PyData.eqv (.list []) (.list []) = true by decide +kernel]
      exact k H9 (S17.trans (S8.trans S9))
end
end Bt
namespace Bt
open PySem PySem.Spec PyProof.Rows L2 LamX NdefX
open PySem.W (dataLt dataLe alike AllAlike Sortable)
theorem words139_ : True := by
  k_with "s_L13m" => first
    | ((with_reducible refine' s_var ?hv ?_); (case hv => exact rfl))
    | with_reducible first
      | refine' s_c ?_ | refine' s_op ?_ | refine' s_asg ?_ | refine' s_gname ?_ | refine' s_seq ?_ | refine' s_next ?_ | refine' s_ret ?_ | refine' s_ifS ?_ | refine' s_drop ?_ | refine' s_retN ?_ | refine' s_test ?_ | refine' s_B ?_ | refine' q_test ?_ | refine' s_int ?_ | refine' s_cons ?_ | refine' s_nil ?_ | refine' s_call ?_ | refine' s_CB ?_ | refine' s_andT ?_ | refine' s_orT ?_ | refine' s_notT ?_ | refine' s_andV ?_ | refine' s_orV ?_ | refine' s_notV ?_ | refine' s_ifV ?_ | refine' s_chain ?_ | refine' s_sl ?_ | refine' s_noPart ?_ | refine' s_part ?_ | refine' s_gsub ?_ | refine' s_BM ?_ | refine' s_tup ?_ | refine' s_lst ?_ | refine' q_add ?_ | refine' q_sub ?_ | refine' q_lt ?_ | refine' q_le ?_ | refine' q_gt ?_ | refine' q_ge ?_ | refine' s_ifT ?_ | refine' s_ifF ?_ | refine' s_yes ?_ | refine' s_iStr ?_ | refine' s_M0 ?_ | refine' s_for ?_ | refine' s_rng1 ?_ | refine' s_par ?_ | refine' s_gcons ?_ | refine' s_gnil ?_ | refine' s_iList ?_ | refine' s_iEnum ?_ | refine' s_raise1 ?_
      | (refine' q_mod ?hm ?_; (case hm => first | omega | decide))
    | dsimp only
  k_with "r_L13m" => repeat (k_extra "s_L13m")
  trivial
/-! ### _law_indexes -/
theorem na_ref {K : PySem.W.Frag} {H : Hp} {a : Addr} {T : String} (h : Pl K H (.ref a) T) : NameArg K H (.ref a) := ⟨T, h, fun _ e => by cases e⟩
theorem na_str {K : PySem.W.Frag} {H : Hp} {z : Str} (h : z.length < 64) : NameArg K H (.str z) := ⟨"str", Pl.str, fun y e => by cases e; exact h⟩
theorem nn_ref {a : Addr} : ¬ NmV (.ref a) := fun ⟨_, e, _⟩ => by cases e
theorem plk_tup {K : PySem.W.Frag} {H : Hp} {a : Addr} {ys : List V} (h : H a = some (.tup ys)) (hy : ∀ y ∈ ys, NameArg K H y) (n : ∃ y ∈ ys, ¬ NmV y) : PlK K H (.ref a) false :=
  .tup rfl (Pl.tup h) h hy ⟨(fun z => by cases z), fun ⟨b, u, v, e, h', n1, n2⟩ => by
    injection e with e
    subst e
    rw [h] at h'
    cases h'
    obtain ⟨y, my, ny⟩ := n
    simp only [List.mem_cons, List.not_mem_nil, or_false] at my
    rcases my with rfl | rfl
    · exact absurd n1 ny
    · exact absurd n2 ny⟩
/-- no index of a row of m -/
def Ix (K : PySem.W.Frag) (m : Int) (H : Hp) (v : V) : Prop := ∃ T, Pl K H v T ∧ SelfV K H v ∧ ∀ i, v = .int i → ¬ (0 ≤ i ∧ i < m)
theorem Ix.mono {K : PySem.W.Frag} {m : Int} {H H' : Hp} {v : V} (S : Same H H') : Ix K m H v → Ix K m H' v := fun ⟨T, h1, h2, h3⟩ => ⟨T, h1.mono S, h2.mono S, h3⟩
section
variable {P : Program} {w : World} {K : PySem.W.Frag} {mg : Str → Option Value} {base : Heap} {CS CI CC CN : Addr}
def spIndexes (CS : Addr) : Sp := fun vs H Q _ => ∃ x f c d ps zs st far m, vs = [.ref x, .int m, .int far] ∧ m = zs.length ∧ StoAt CS H x f c d ps zs st ∧ (∀ p ∈ ps, NmP p) ∧ NmC zs ∧ zs.length < 60 ∧ 0 ≤ far ∧ ∀ H', Same H H' → Q (.bl true) H'
theorem ok__law_indexes (T : Txt K mg) (N : TxtN K mg) (I : TxtI K mg) (C : TxtC13 K mg) (S : TxtS13 K mg) (SC : StoryC K mg CS) (SM : StoryM K CS) (XN : ExcF K mg "InvalidNumber" "value" CN) (L : TxtL13 K mg) : Cal P w K mg base 7 "_law_indexes" (spIndexes CS) := by
  obtain ⟨fc, fdc, c1, c2, Fc, bc⟩ := SM.con
  refine L.d_indexes.cal sc__law_indexes (fun vs H Q E h => ?_) (fun fn cdv A outer s H vs Q E hr h => ?_)
  · obtain ⟨x, f, c, d, ps, zs, st, far, m, rfl, _⟩ := h
    rfl
  · obtain ⟨x, f, c, d, ps, zs, st, far, m, rfl, em, hs, np, nz, lz, f0, k⟩ := h
    have hu := hr.units
    refine ⟨_, (C8.pss_cut (ps_for PassesOwn.never rfl (pi_list (pe_lst (pa_cons (pv 1) (pa_cons (pe_op op_addU (pv 1) (pv 2)) (pa_cons (pe_op op_subU pe_int pe_int) (pa_cons (pe_op op_subU pe_int (pv 1)) (pa_cons pe_bl (pa_cons pe_bl (pa_cons pe_non (pa_cons pe_str (pa_cons (pe_lst (pa_cons pe_int pa_nil)) pa_nil))))))))))) (pg_name (i := 3) sc__law_indexes.nd rfl (.inl rfl))
        (pss_one (ps_if (PW.pt (pw_and (PW.pt (pw_or (pt_not (pt_val (pe_c (ok__law_whole T L) hr (by decide) rfl (pa_cons (pv 3) pa_nil)))) (pw_or1 (pt_not (pt_chain op_leI op_ltI pe_int (pv 3) (pv 1)))))) (pw_and1 (pt_cmpR (op_neI (n := 1) (room66 hr)) (pe_c (ok__law_got T N S SC SM XN L) hr (by decide) rfl (pa_cons (pv 0) (pa_cons (pv 3) pa_nil))) (pe_lst (pa_cons (pv 3) pa_nil)) (by rfl))))) (pss_one (ps_ret pe_bl)) pss_nil)))
      (pss_cons (ps_set (i := 4) sc__law_indexes.nd rfl (.inl rfl) (pe_lst (pa_cons pe_non (pa_cons pe_str (pa_cons pe_int (pa_cons (pe_lst (pa_cons pe_str (pa_cons pe_str pa_nil))) (pa_cons (pe_tup (pa_cons pe_str pa_nil)) (pa_cons pe_bl (pa_cons (pe_tup (pa_cons (pe_lst (pa_cons pe_str pa_nil)) (pa_cons pe_str pa_nil))) (pa_cons (pe_tup (pa_cons pe_str (pa_cons (pe_lst (pa_cons pe_str pa_nil)) pa_nil))) (pa_cons (pe_tup (pa_cons pe_dnewK (pa_cons pe_str pa_nil))) (pa_cons pe_dnewK (pa_cons (pe_tup pa_nil) (pa_cons (pe_tup (pa_cons pe_str (pa_cons pe_str (pa_cons pe_str pa_nil)))) pa_nil))))))))))))))
      (pss_one (ps_ret (pe_cmpR (op_eqU hu) (pe_lc (own := [("_law_value", 5)]) (g := gName 5) (tt := (tTest (tOp (rInOwn K CS false (spCon K CS) E0) (tVar 5) (tVar 0)))) (te := tVar 5) rfl sc__law_indexes.nd (pi_list (pv 4)) (blkOk_by (own := [("_law_value", 5)]) (N := ["_law_story", "_law_many", "_law_far", "_law_k", "_law_odd", "_law_value"]) (sc := defScope s__law_indexes) (by decide +kernel)) (fun _ _ _ _ _ => pg_name (i := 5) sc__law_indexes.nd rfl (Or.inl rfl)) (fun _ _ _ _ _ => by exact pts_one (pt_cmpR (op_inOwn (ok_story_con T N I C SC Fc) (hr.mono (by decide)) c1 c2 bc L2.pass0) (pv 5) (pv 0) (by rfl))) (fun _ _ _ _ _ => (pv 5))) (pe_lst pa_nil) (by rfl)))))), ?_⟩
    have m0 : 0 ≤ m := by omega
    clear T
    refine q_cut8 (M := fun σ H' => ∃ v3, σ = [some (.ref x), some (.int m), some (.int far), v3, none, none] ∧ Same H H') ?_ ?_
    · have T : Same H H := Same.refl H
      k_extra "r_L13m"
      refine q_newL (by show 1 ≤ sizeLine; decide) fun t1 G1 n1 S1 h1 => ?_
      replace hs := hs.mono S1
      replace T := T.trans S1
      have w0 : ∀ v ∈ [V.int m, .int (m + far), .int (0 - 1), .int (0 - m), .bl true, .bl false, .non, .str "0", .ref t1], Ix K m _ v := all_cons (⟨_, Pl.int, .int, fun i e => by cases e; omega⟩) (all_cons (⟨_, Pl.int, .int, fun i e => by cases e; omega⟩) (all_cons (⟨_, Pl.int, .int, fun i e => by cases e; omega⟩) (all_cons (⟨_, Pl.int, .int, fun i e => by cases e; omega⟩) (all_cons (⟨_, Pl.bl, .bl, fun i e => by cases e⟩) (all_cons (⟨_, Pl.bl, .bl, fun i e => by cases e⟩) (all_cons (⟨_, Pl.non, .non, fun i e => by cases e⟩) (all_cons (⟨_, Pl.str, .str (by decide +kernel), fun i e => by cases e⟩) (all_cons (⟨_, Pl.lst h1, .ref _, fun i e => by cases e⟩) (all_nil)))))))))
      k_extra "r_L13m"
      refine q_newL (by show 9 ≤ sizeLine; decide) fun t2 G2 n2 S2 h2 => ?_
      replace h1 := S2 _ _ h1
      replace hs := hs.mono S2
      replace T := T.trans S2
      replace w0 := fun v mv => (w0 v mv).mono S2
      refine ⟨t2, rfl, ⟨_, SqL.of h2⟩, q_forL (K := K) (a := t2) (fun i σ H' => ∃ v3, σ = [some (.ref x), some (.int m), some (.int far), v3, none, none] ∧ Same G2 H') ⟨_, rfl, Same.refl _⟩ (fun i σ H' _ ⟨_, _, S⟩ => SqL.of (S _ _ h2)) ?_ ?_⟩
      · rintro i v σ K0 hv ⟨v3, rfl, U⟩
        obtain ⟨ty, pv, sv, no⟩ := (w0 v (List.mem_of_getElem? hv)).mono U
        have hs0 := hs.mono U
        have fin : ∀ R : Bool → Hp → Prop, (∀ H', Same K0 H' → R false H') → tTest (tOp (rNeI K 1) (tCall (spGot K CS) [] E0 (tCons (tVar 0) (tCons (tVar 3) tNil))) (tLst (tCons (tVar 3) tNil))) [some (.ref x), some (.int m), some (.int far), some v, none, none] K0 R := fun R hR => by
          k_extra "r_L13m"
          refine ⟨x, f, c, d, ps, zs, st, v, ty, rfl, hs0, pv, (fun i e => em ▸ no i e), fun D K1 n1 U1 e1 => ?_⟩
          k_extra "r_L13m"
          refine q_newL (by show 1 ≤ sizeLine; decide) fun l K2 n2 U2 e2 => ?_
          refine ⟨_, _, _, _, _, rfl, rfl, .inl ⟨SqL.of (U2 _ _ e1), SqL.of e2⟩, selfs (xs := [v]) (fun y hy => by rw [List.mem_singleton.mp hy]; exact sv.mono (U1.trans U2)), ?_⟩
          exact ⟨_, rfl, hR K2 (U1.trans U2)⟩
        have done : ∀ {H' : Hp}, Same K0 H' → ∃ v3, [some (V.ref x), some (V.int m), some (V.int far), some v, none, none] = [some (V.ref x), some (V.int m), some (V.int far), v3, none, none] ∧ Same G2 H' := fun U' => ⟨_, rfl, U.trans U'⟩
        k_extra "r_L13m"
        refine ⟨v, ty, rfl, pv, ?_⟩
        refine ⟨_, rfl, ?_⟩
        by_cases e : ty = "int"
        · obtain ⟨i, rfl⟩ := pv.of_int e
          subst e
          have ni := no i rfl
          refine s_if0 rfl ?_
          k_extra "r_L13m"
          refine s_ifD (fun h0 => ?_) (fun h0 => ?_)
          · k_extra "r_L13m"
            refine s_ifND (fun h1 => absurd ⟨h0, h1⟩ ni) (fun _ => ?_)
            refine fin _ fun H' U' => ?_
            refine s_if0 rfl ?_
            exact done U'
          · k_extra "r_L13m"
            refine s_if1 rfl ?_
            refine fin _ fun H' U' => ?_
            refine s_if0 rfl ?_
            exact done U'
        · refine s_if1 (by rw [beq_eq_false_iff_ne.mpr e]; rfl) ?_
          refine s_if1 rfl ?_
          refine fin _ fun H' U' => ?_
          refine s_if0 rfl ?_
          exact done U'
      · rintro σ K0 ⟨v3, rfl, U⟩
        k_extra "r_L13m"
        exact ⟨_, rfl, T.trans U⟩
    rintro σ H0 ⟨v3, rfl, T⟩
    replace hs := hs.mono T
    k_extra "r_L13m"
    refine q_newL (by show 2 ≤ sizeLine; decide) fun t10 G10 n10 S10 h10 => ?_
    replace hs := hs.mono S10
    replace T := T.trans S10
    k_extra "r_L13m"
    refine q_newT (by show 1 ≤ sizeLine; decide) fun t11 G11 n11 S11 h11 => ?_
    replace h10 := S11 _ _ h10
    replace hs := hs.mono S11
    replace T := T.trans S11
    k_extra "r_L13m"
    refine q_newL (by show 1 ≤ sizeLine; decide) fun t12 G12 n12 S12 h12 => ?_
    replace h10 := S12 _ _ h10
    replace h11 := S12 _ _ h11
    replace hs := hs.mono S12
    replace T := T.trans S12
    k_extra "r_L13m"
    refine q_newT (by show 2 ≤ sizeLine; decide) fun t13 G13 n13 S13 h13 => ?_
    replace h10 := S13 _ _ h10
    replace h11 := S13 _ _ h11
    replace h12 := S13 _ _ h12
    replace hs := hs.mono S13
    replace T := T.trans S13
    k_extra "r_L13m"
    refine q_newL (by show 1 ≤ sizeLine; decide) fun t14 G14 n14 S14 h14 => ?_
    replace h10 := S14 _ _ h10
    replace h11 := S14 _ _ h11
    replace h12 := S14 _ _ h12
    replace h13 := S14 _ _ h13
    replace hs := hs.mono S14
    replace T := T.trans S14
    k_extra "r_L13m"
    refine q_newT (by show 2 ≤ sizeLine; decide) fun t15 G15 n15 S15 h15 => ?_
    replace h10 := S15 _ _ h10
    replace h11 := S15 _ _ h11
    replace h12 := S15 _ _ h12
    replace h13 := S15 _ _ h13
    replace h14 := S15 _ _ h14
    replace hs := hs.mono S15
    replace T := T.trans S15
    k_extra "r_L13m"
    refine s_dnew fun t16 G16 n16 S16 h16 => ?_
    replace h10 := S16 _ _ h10
    replace h11 := S16 _ _ h11
    replace h12 := S16 _ _ h12
    replace h13 := S16 _ _ h13
    replace h14 := S16 _ _ h14
    replace h15 := S16 _ _ h15
    replace hs := hs.mono S16
    replace T := T.trans S16
    k_extra "r_L13m"
    refine q_newT (by show 2 ≤ sizeLine; decide) fun t17 G17 n17 S17 h17 => ?_
    replace h10 := S17 _ _ h10
    replace h11 := S17 _ _ h11
    replace h12 := S17 _ _ h12
    replace h13 := S17 _ _ h13
    replace h14 := S17 _ _ h14
    replace h15 := S17 _ _ h15
    replace h16 := S17 _ _ h16
    replace hs := hs.mono S17
    replace T := T.trans S17
    k_extra "r_L13m"
    refine s_dnew fun t18 G18 n18 S18 h18 => ?_
    replace h10 := S18 _ _ h10
    replace h11 := S18 _ _ h11
    replace h12 := S18 _ _ h12
    replace h13 := S18 _ _ h13
    replace h14 := S18 _ _ h14
    replace h15 := S18 _ _ h15
    replace h16 := S18 _ _ h16
    replace h17 := S18 _ _ h17
    replace hs := hs.mono S18
    replace T := T.trans S18
    k_extra "r_L13m"
    refine q_newT (by show 0 ≤ sizeLine; decide) fun t19 G19 n19 S19 h19 => ?_
    replace h10 := S19 _ _ h10
    replace h11 := S19 _ _ h11
    replace h12 := S19 _ _ h12
    replace h13 := S19 _ _ h13
    replace h14 := S19 _ _ h14
    replace h15 := S19 _ _ h15
    replace h16 := S19 _ _ h16
    replace h17 := S19 _ _ h17
    replace h18 := S19 _ _ h18
    replace hs := hs.mono S19
    replace T := T.trans S19
    k_extra "r_L13m"
    refine q_newT (by show 3 ≤ sizeLine; decide) fun t20 G20 n20 S20 h20 => ?_
    replace h10 := S20 _ _ h10
    replace h11 := S20 _ _ h11
    replace h12 := S20 _ _ h12
    replace h13 := S20 _ _ h13
    replace h14 := S20 _ _ h14
    replace h15 := S20 _ _ h15
    replace h16 := S20 _ _ h16
    replace h17 := S20 _ _ h17
    replace h18 := S20 _ _ h18
    replace h19 := S20 _ _ h19
    replace hs := hs.mono S20
    replace T := T.trans S20
    have w0 : ∀ v ∈ [V.non, .str "a", .int 0, .ref t10, .ref t11, .bl true, .ref t13, .ref t15, .ref t17, .ref t18, .ref t19, .ref t20], PlK K _ v false := all_cons (plk_flat Pl.non (by decide) (fun a z => by cases z)) (all_cons (plk_flat Pl.str (by decide) (fun a z => by cases z)) (all_cons (plk_flat Pl.int (by decide) (fun a z => by cases z)) (all_cons (.no (Pl.lst h10) (by decide) (noTup_lst h10)) (all_cons (plk_len h11 (all_cons (na_str (by decide)) all_nil) (by simp)) (all_cons (plk_flat Pl.bl (by decide) (fun a z => by cases z)) (all_cons (plk_tup h13 (all_cons (na_ref (Pl.lst h12)) (all_cons (na_str (by decide)) all_nil)) ⟨_, .head _, nn_ref⟩) (all_cons (plk_tup h15 (all_cons (na_str (by decide)) (all_cons (na_ref (Pl.lst h14)) all_nil)) ⟨_, .tail _ (.head _), nn_ref⟩) (all_cons (plk_tup h17 (all_cons (na_ref (Pl.dct h16)) (all_cons (na_str (by decide)) all_nil)) ⟨_, .head _, nn_ref⟩) (all_cons (.no (Pl.dct h18) (by decide) (noTup_dct h18)) (all_cons (plk_len h19 all_nil (by simp)) (all_cons (plk_len h20 (all_cons (na_str (by decide)) (all_cons (na_str (by decide)) (all_cons (na_str (by decide)) all_nil))) (by simp)) (all_nil))))))))))))
    k_extra "r_L13m"
    refine q_newL (by show 12 ≤ sizeLine; decide) fun t21 G21 n21 S21 h21 => ?_
    replace h10 := S21 _ _ h10
    replace h11 := S21 _ _ h11
    replace h12 := S21 _ _ h12
    replace h13 := S21 _ _ h13
    replace h14 := S21 _ _ h14
    replace h15 := S21 _ _ h15
    replace h16 := S21 _ _ h16
    replace h17 := S21 _ _ h17
    replace h18 := S21 _ _ h18
    replace h19 := S21 _ _ h19
    replace h20 := S21 _ _ h20
    replace hs := hs.mono S21
    replace T := T.trans S21
    replace w0 := fun v mv => (w0 v mv).mono S21
    k_extra "r_L13m"
    refine s_lc ?_
    k_extra "r_L13m"
    refine ⟨t21, rfl, ⟨_, SqL.of h21⟩, fun D nD => lc_list (K := K) (a := t21) (fun i H' => Same G21 H' ∧ H' D = some (.lst [])) ⟨Same.new nD, upd_same⟩ (fun i H' _ h => SqL.of (h.1 _ _ h21)) ?_ ?_⟩
    · rintro i v K0 hv ⟨U, hD⟩
      have hs0 := hs.mono U
      obtain ⟨dx, hx⟩ := id hs0.hx
      k_extra "r_L13m"
      refine ⟨rfl, ?_⟩
      k_extra "r_L13m"
      refine ⟨x, dx, _, rfl, hx, x, f, c, d, ps, zs, st, v, rfl, hs0, np, nz, by omega, .inl ⟨(w0 v (List.mem_of_getElem? hv)).mono U, fun K1 U1 => ⟨_, rfl, ?_⟩⟩⟩
      rw [if_neg (by decide)]
      refine ⟨_, rfl, ?_⟩
      exact ⟨U.trans U1, U1 _ _ hD⟩
    · rintro K0 ⟨U, hD⟩
      k_extra "r_L13m"
      refine q_newL (by show 0 ≤ sizeLine; decide) fun l9 H9 n9 S9 h9 => ?_
      refine q_eqD (.lst (SqL.of (S9 _ _ hD)) .nil) (.lst (SqL.of h9) .nil) (by decide) (by decide) ?_
      rw [show PyData.eqv (.list []) (.list []) = true by decide +kernel]
      exact k H9 (T.trans (U.trans S9))
end
end Bt
namespace Bt
open PySem PySem.Spec PyProof.Rows L2 LamX NdefX
open PySem.W (dataLt dataLe alike AllAlike Sortable)
/-! ### walks, varied -/
instance chDec : DecidableEq Ch
  | .add p, .add q => if h : p = q then isTrue (by rw [h]) else isFalse (fun e => h (by injection e))
  | .take p, .take q => if h : p = q then isTrue (by rw [h]) else isFalse (fun e => h (by injection e))
  | .ren p q, .ren r s => if h : p = r ∧ q = s then isTrue (by rw [h.1, h.2]) else isFalse (fun e => h (by injection e with a b; exact ⟨a, b⟩))
  | .add _, .take _ => isFalse (fun e => by cases e)
  | .add _, .ren _ _ => isFalse (fun e => by cases e)
  | .take _, .add _ => isFalse (fun e => by cases e)
  | .take _, .ren _ _ => isFalse (fun e => by cases e)
  | .ren _ _, .add _ => isFalse (fun e => by cases e)
  | .ren _ _, .take _ => isFalse (fun e => by cases e)
theorem eqv_ints (a b : Int) : PyData.eqv (.int a) (.int b) = decide (a = b) := by
  simp only [PyData.eqv]
  by_cases h : a = b <;> simp [h]
theorem wd_ne1 : ¬ (("add" : Str) = "take") := by decide +kernel
theorem wd_ne2 : ¬ (("add" : Str) = "rename") := by decide +kernel
theorem wd_ne3 : ¬ (("take" : Str) = "rename") := by decide +kernel
theorem eqv_ch (z y : GC) : PyData.eqv (dCh z) (dCh y) = decide (z = y) := by
  obtain ⟨g, c⟩ := z
  obtain ⟨h, e⟩ := y
  unfold dCh
  cases c <;> cases e <;> simp only [Ch.wd, Ch.pcs, List.map_cons, List.map_nil, PyData.eqv, PyData.eqvAll, eqv_pl, Prod.mk.injEq, Bool.and_true, Bool.and_false]
  all_goals (rw [Bool.eq_iff_iff]; simp [wd_ne1, wd_ne2, wd_ne3, Ne.symm wd_ne1, Ne.symm wd_ne2, Ne.symm wd_ne3])
theorem eqvAll_chs : ∀ (xs ys : List GC), PyData.eqvAll (xs.map dCh) (ys.map dCh) = decide (xs = ys)
  | [], [] => by simp [PyData.eqvAll]
  | [], y :: ys => by simp [PyData.eqvAll]
  | x :: xs, [] => by simp [PyData.eqvAll]
  | x :: xs, y :: ys => by
    simp only [List.map_cons, PyData.eqvAll, eqvAll_chs xs ys, eqv_ch, List.cons.injEq]
    rw [Bool.decide_and]
theorem eqv_chs (xs ys : List GC) : PyData.eqv (dChs xs) (dChs ys) = decide (xs = ys) := by
  unfold dChs
  rw [PyData.eqv]
  exact eqvAll_chs xs ys
theorem Run.take : ∀ {zs : List GC} {st : List Plc} {g : Int} (k : Nat), Run st g zs → Run st g (zs.take k)
  | [], _, _, k, _ => by rw [List.take_nil]; trivial
  | z :: zs, st, g, 0, _ => trivial
  | z :: zs, st, g, k + 1, ⟨h1, h2, h3, h4, h5⟩ => ⟨h1, h2, h3, h4, Run.take k h5⟩
theorem Run.app : ∀ {zs ws : List GC} {st : List Plc} {g : Int}, Run st g zs → Run (runC st zs) (lastG g zs) ws → Run st g (zs ++ ws)
  | [], _, _, _, _, h => h
  | z :: zs, ws, st, g, ⟨h1, h2, h3, h4, h5⟩, h => ⟨h1, h2, h3, h4, Run.app h5 h⟩
theorem Run.drop : ∀ {zs : List GC} {st : List Plc} {g : Int} (k : Nat), Run st g zs → Run (runC st (zs.take k)) (lastG g (zs.take k)) (zs.drop k)
  | [], _, _, k, _ => by rw [List.drop_nil]; trivial
  | z :: zs, st, g, 0, h => h
  | z :: zs, st, g, k + 1, ⟨h1, h2, h3, h4, h5⟩ => Run.drop k h5
def late (z : GC) : GC := (z.1 + 1, z.2)
theorem Run.late : ∀ {zs : List GC} {st : List Plc} {g g' : Int}, Run st g zs → g' ≤ g + 1 → Run st g' (zs.map late)
  | [], _, _, _, _, _ => trivial
  | z :: zs, st, g, g', ⟨h1, h2, h3, h4, h5⟩, l => ⟨(by show g' ≤ z.1 + 1; omega), h2, h3, h4, Run.late h5 (Int.le_refl _)⟩
theorem runC_all {R : Plc → Prop} : ∀ {zs : List GC} {ps : List Plc}, (∀ p ∈ ps, R p) → (∀ z ∈ zs, ∀ p ∈ z.2.pcs, R p) → ∀ p ∈ runC ps zs, R p
  | [], _, h, _ => h
  | z :: zs, ps, h, hz => runC_all (zs := zs) (ps := mkC ps z.2) (fun p m => (mkC_mem m).elim (h p) (hz z List.mem_cons_self p)) fun y m => hz y (List.mem_cons_of_mem _ m)
theorem mkC_more {st : List Plc} {c : Ch} {r : Plc} (h : ∀ p ∈ c.pcs, p ≠ r) : (mkC (st ++ [r]) c).Perm (mkC st c ++ [r]) := by
  unfold mkC
  cases eg : c.gs with
  | none =>
    show (st ++ [r] ++ c.cs.toList).Perm (st ++ c.cs.toList ++ [r])
    rw [List.append_assoc, List.append_assoc]
    exact List.Perm.append_left _ List.perm_append_comm
  | some p =>
    have : r ≠ p := fun z => h p (by cases c with | add q => cases eg | take q => cases eg; exact List.mem_cons_self | ren q s => cases eg; exact List.mem_cons_self) z.symm
    show ((st ++ [r]).filter (fun q => decide (q ≠ p)) ++ c.cs.toList).Perm (st.filter (fun q => decide (q ≠ p)) ++ c.cs.toList ++ [r])
    rw [List.filter_append, show [r].filter (fun q => decide (q ≠ p)) = [r] by simp [this], List.append_assoc, List.append_assoc]
    exact List.Perm.append_left _ List.perm_append_comm
theorem Run.more : ∀ {zs : List GC} {st : List Plc} {g : Int} {r : Plc}, Run st g zs → (∀ z ∈ zs, ∀ p ∈ z.2.pcs, p ≠ r) → st.length + zs.length < 80 → Run (st ++ [r]) g zs
  | [], _, _, _, _, _, _ => trivial
  | z :: zs, st, g, r, ⟨h1, h2, h3, h4, h5⟩, n, l => by
    have nz := n z List.mem_cons_self
    have l2 := mkC_len st z.2
    rw [List.length_cons] at l
    refine ⟨h1, ⟨fun p e => List.mem_append_left _ (h2.1 p e), fun q e m => ?_⟩, h3, by rw [List.length_append, List.length_singleton]; omega, Run.perm (mkC_more nz).symm (Run.more h5 (fun y m => n y (List.mem_cons_of_mem _ m)) (by omega))⟩
    rcases List.mem_append.mp m with m | m
    · exact h2.2 q e m
    · exact nz q (gs_pcs e) (List.mem_singleton.mp m)
theorem ne_take {zs : List GC} {k : Nat} (h : k < zs.length) : zs ≠ zs.take k := fun e => by
  have := congrArg List.length e
  rw [List.length_take] at this
  omega
theorem ne_late {zs : List GC} {k : Nat} (h : k < zs.length) : zs ≠ zs.take k ++ (zs.drop k).map late := fun e => by
  have e2 : zs.take k ++ zs.drop k = zs.take k ++ (zs.drop k).map late := by rw [List.take_append_drop]; exact e
  have e3 := List.append_cancel_left e2
  rw [List.drop_eq_getElem_cons h, List.map_cons] at e3
  injection e3 with e4 _
  have := congrArg Prod.fst e4
  simp only [late] at this
  omega
theorem ne_new {zs : List GC} {k : Nat} {g : Int} {r : Plc} (n : ∀ z ∈ zs, ∀ p ∈ z.2.pcs, p ≠ r) : zs ≠ zs.take k ++ [(g, .add r)] := fun e => by
  have m : ((g, .add r) : GC) ∈ zs := by
    have : ((g, .add r) : GC) ∈ zs.take k ++ [(g, .add r)] := List.mem_append_right _ List.mem_cons_self
    rwa [← e] at this
  exact n _ m r List.mem_cons_self rfl
theorem sort_len (ps : List Plc) : (ps.mergeSort pLe).length = ps.length := List.length_mergeSort ps
theorem lastG_of {zs : List GC} {st : List Plc} {g : Int} (h : Run st g zs) {k : Nat} {z : GC} (e : zs[k]? = some z) : lastG g (zs.take k) ≤ z.1 := (h.get e).2.1
/-- a fresh place may come after k changes -/
theorem Run.fresh {zs : List GC} {st : List Plc} {g : Int} {r : Plc} (h : Run st g zs) (nr : r ∉ st) (n : ∀ z ∈ zs, ∀ p ∈ z.2.pcs, p ≠ r) (np : NmP r) {k : Nat} {z : GC} (e : zs[k]? = some z) : Run st g (zs.take k ++ [(z.1, .add r)]) := by
  have l := lastG_of h e
  have l9 := (h.get e).2.2.2.2
  refine (h.take k).app ⟨l, ⟨(fun p c => by cases c), fun q c m => ?_⟩, (fun p m => by rw [List.mem_singleton.mp m]; exact np), l9, trivial⟩
  cases c
  exact runC_all (R := fun p => p ≠ r) (fun p m z => nr (z ▸ m)) (fun z m => n z (List.mem_of_mem_take m)) r m rfl
end Bt
namespace Bt
open PySem PySem.Spec PyProof.Rows L2 LamX NdefX
open PySem.W (dataLt dataLe alike AllAlike Sortable)
theorem words140_ : True := by
  k_with "s_L13n" => first
    | ((with_reducible refine' s_var ?hv ?_); (case hv => exact rfl))
    | with_reducible first
      | refine' s_c ?_ | refine' s_op ?_ | refine' s_asg ?_ | refine' s_gname ?_ | refine' s_seq ?_ | refine' s_next ?_ | refine' s_ret ?_ | refine' s_ifS ?_ | refine' s_drop ?_ | refine' s_retN ?_ | refine' s_test ?_ | refine' s_B ?_ | refine' q_test ?_ | refine' s_int ?_ | refine' s_cons ?_ | refine' s_nil ?_ | refine' s_call ?_ | refine' s_CB ?_ | refine' s_andT ?_ | refine' s_orT ?_ | refine' s_notT ?_ | refine' s_andV ?_ | refine' s_orV ?_ | refine' s_notV ?_ | refine' s_ifV ?_ | refine' s_chain ?_ | refine' s_sl ?_ | refine' s_noPart ?_ | refine' s_part ?_ | refine' s_gsub ?_ | refine' s_BM ?_ | refine' s_tup ?_ | refine' s_lst ?_ | refine' q_add ?_ | refine' q_sub ?_ | refine' q_lt ?_ | refine' q_le ?_ | refine' q_gt ?_ | refine' q_ge ?_ | refine' s_ifT ?_ | refine' s_ifF ?_ | refine' s_yes ?_ | refine' s_iStr ?_ | refine' s_M0 ?_ | refine' s_for ?_ | refine' s_rng1 ?_ | refine' s_par ?_ | refine' s_gcons ?_ | refine' s_gnil ?_ | refine' s_iList ?_ | refine' s_iEnum ?_ | refine' s_raise1 ?_
      | (refine' q_mod ?hm ?_; (case hm => first | omega | decide))
    | dsimp only
  k_with "r_L13n" => repeat (k_extra "s_L13n")
  trivial
/-! ### _law_alike -/
theorem q_slT1 {K : PySem.W.Frag} {H : Hp} {Q : VK} {a : Addr} {x : V} {ys : List V} (h : SqT K H a (x :: ys)) (q : ∀ p H', H p = none → Same H H' → H' p = some (.tup ys) → Q (.ref p) H') : rSlT K (.ref a) (some 1) none H Q := by
  refine ⟨a, _, rfl, h, fun ⟨e, _⟩ => ?_, fun p n => ?_⟩
  · rw [show (1 : Int) = ((1 : Nat) : Int) from rfl, HT.sIx_nat, List.length_cons] at e
    omega
  · rw [show (some 1 : Option Int) = some ((1 : Nat) : Int) from rfl, cutV_drop]
    exact q p _ n (Same.new n) upd_same
theorem q_catT {K : PySem.W.Frag} {H : Hp} {Q : VK} {a b : Addr} {xs ys : List V} (ha : SqT K H a xs) (hb : SqT K H b ys) (nx : xs ≠ []) (ny : ys ≠ []) (hz : xs.length + ys.length ≤ sizeLine) (q : ∀ p H', H p = none → Same H H' → H' p = some (.tup (xs ++ ys)) → Q (.ref p) H') : rCatT K (.ref a) (.ref b) H Q :=
  ⟨a, b, xs, ys, rfl, rfl, ha, hb, nx, hz, fun e => absurd e ny, fun _ p n => q p _ n (Same.new n) upd_same⟩
theorem Paired.takeP {α β : Type} {R : α → β → Prop} {xs : List α} {zs : List β} (h : Paired R xs zs) : ∀ n : Nat, Paired R (xs.take n) (zs.take n) := by
  induction h with
  | nil => intro n; rw [List.take_nil, List.take_nil]; exact .nil
  | cons h _ ih =>
    intro n
    cases n with
    | zero => exact .nil
    | succ n => exact .cons h (ih n)
theorem ChsAt.app {H : Hp} {xs us : List V} {zs ws : List GC} (h : ChsAt H xs zs) (g : ChsAt H us ws) : ChsAt H (xs ++ us) (zs ++ ws) := by
  induction h with
  | nil => exact g
  | cons h _ ih => exact .cons h ih
/-- a story that is not equal to that of fs and zs -/
def Oth (CS : Addr) (fs : List Plc) (zs : List GC) (H : Hp) (v : V) : Prop := ∃ x f c d ps' zs' st, v = .ref x ∧ StoAt CS H x f c d ps' zs' st ∧ (∀ p ∈ ps', NmP p) ∧ NmC zs' ∧ (fs ≠ ps' ∨ zs ≠ zs')
theorem Oth.mono {CS : Addr} {fs : List Plc} {zs : List GC} {H H' : Hp} {v : V} (S : Same H H') : Oth CS fs zs H v → Oth CS fs zs H' v := fun ⟨x, f, c, d, p, z, s, e, h, r⟩ => ⟨x, f, c, d, p, z, s, e, h.mono S, r⟩
/-- a story in the heap without the list D -/
theorem StoAt.wo {CS : Addr} {H : Hp} {x f c d D : Addr} {ps : List Plc} {zs : List GC} {st : List Plc} {vs : List V} (hD : H D = some (.lst vs)) (hx : x ≠ D) (hf : f ≠ D) (hc : c ≠ D) (hd : d ≠ D) (h : StoAt CS H x f c d ps zs st) : StoAt CS (wo D H) x f c d ps zs st := by
  have N : TupK H (Bt.wo D H) := fun b ys e => by rw [wo_get (fun z => by rw [z, hD] at e; cases e)]; exact e
  exact ⟨let ⟨dx, e⟩ := h.hx; ⟨dx, by rw [wo_get hx]; exact e⟩, let ⟨xs, e, p⟩ := h.hf; ⟨xs, by rw [wo_get hf]; exact e, p.tk N⟩, let ⟨ts, e, p⟩ := h.hc; ⟨ts, by rw [wo_get hc]; exact e, p.tk N⟩, by rw [wo_get hd]; exact h.hd, h.ne⟩
section
variable {CS : Addr} {fs : List Plc} {zs : List GC} {H H' H0 : Hp} {D D2 : Addr} {n m : Nat}
theorem BL.mkO {ws : List V} (S : Same H0 H) (n0 : H D = none) (S2 : Same H H') (h : H' D = some (.lst ws)) (k : ∀ w ∈ ws, Oth CS fs zs H w) (l : ws.length ≤ n) : BL (Oth CS fs zs) n H0 H' D :=
  ⟨S.free n0, S.trans (wo_same n0 S2), ws, h, fun v m => Oth.mono (wo_same n0 S2) (k v m), l⟩
theorem BL.stepO (b : BL (Oth CS fs zs) n H0 H D) (S : Same H H') : BL (Oth CS fs zs) n H0 H' D := BL.step0 (B := Oth CS fs zs) Oth.mono S b
theorem BL.catO (b : BL (Oth CS fs zs) n H0 H D) {vs ws : List V} (h : H D = some (.lst vs)) (n2 : H D2 = none) (S2 : Same H H') (h2 : H' D2 = some (.lst (vs ++ ws))) (hw : ∀ w ∈ ws, Oth CS fs zs H w) (lw : ws.length ≤ m) : BL (Oth CS fs zs) (n + m) H0 H' D2 :=
  BL.cat (B := Oth CS fs zs) Oth.mono b h n2 S2 h2 hw lw
theorem BL.butO (b : BL (Oth CS fs zs) n H0 H D) {vs : List V} {v : V} (h : H D = some (.lst vs)) (hv : Oth CS fs zs (wo D H) v) (bt : But D H H') (h2 : H' D = some (.lst (vs ++ [v]))) : BL (Oth CS fs zs) (n + 1) H0 H' D :=
  BL.but (B := Oth CS fs zs) Oth.mono b h hv bt h2
end
theorem oth_no {fs ps' : List Plc} {zs zs' : List GC} (h : fs ≠ ps' ∨ zs ≠ zs') : (decide (fs = ps') && PyData.eqv (dChs zs) (dChs zs')) = false := by
  rw [eqv_chs]
  rcases h with h | h
  · rw [decide_eq_false h, Bool.false_and]
  · rw [decide_eq_false h, Bool.and_false]
theorem oth_no2 {fs ps' : List Plc} {zs zs' : List GC} (h : fs ≠ ps' ∨ zs ≠ zs') : (decide (ps' = fs) && PyData.eqv (dChs zs') (dChs zs)) = false := oth_no (h.imp Ne.symm Ne.symm)
section
variable {P : Program} {w : World} {K : PySem.W.Frag} {mg : Str → Option Value} {base : Heap} {CS CI CC CN : Addr}
def spAlike (CS : Addr) : Sp := fun vs H Q _ => ∃ x q1 q2 q3 fa ys fs cl ts zs st y r, vs = [.ref x, .ref fa, .ref cl, y] ∧ StoAt CS H x q1 q2 q3 (fs.mergeSort pLe) zs st ∧ H fa = some (.lst ys) ∧ Pls H ys fs ∧ H cl = some (.lst ts) ∧ ChsAt H ts zs ∧ (∀ p ∈ fs, NmP p) ∧ fs.Nodup ∧ Run fs 0 zs ∧ fs.length ≤ 20 ∧ zs.length ≤ 12 ∧
  PlAt H y r ∧ NmP r ∧ r ∉ fs ∧ (∀ z ∈ zs, ∀ p ∈ z.2.pcs, p ≠ r) ∧ ∀ H', Same H H' → Q (.bl true) H'
theorem ok__law_alike (T : Txt K mg) (N : TxtN K mg) (I : TxtI K mg) (C : TxtC13 K mg) (S : TxtS13 K mg) (SC : StoryC K mg CS) (SM : StoryM K CS) (XS : ExcF K mg "InvalidStory" "value" CI) (L : TxtL13 K mg) : Cal P w K mg base 8 "_law_alike" (spAlike CS) := by
  obtain ⟨fe, fde, e1, e2, Fe, be⟩ := SM.eq
  refine L.d_alike.cal sc__law_alike (fun vs H Q E h => ?_) (fun fn cdv A outer s H vs Q E hr h => ?_)
  · obtain ⟨x, q1, q2, q3, fa, ys, fs, cl, ts, zs, st, y, r, rfl, _⟩ := h
    rfl
  · obtain ⟨x, q1, q2, q3, fa, ys, fs, cl, ts, zs, st, y, r, rfl, hs, hf, pf, hc, cs, nf, nd, run, lf, lz, hy, nr, rf, rz, k⟩ := h
    have hu := hr.units
    refine ⟨_, (C8.pss_cut (ps_if (PW.pt (pw_or (pt_not (pt_cmpR (op_eqOwn (ok_story_eq T SC SM Fe) (hr.mono (by decide)) e1 e2 be L2.pass0) (pv 0) (pe_story2 T N I C S SC SM XS hr (by decide) (pe_revL (pv 1)) (pe_callTy call_listOf (by rfl) T.n_list (by decide +kernel) (pa_cons (pv 2) pa_nil))) (by rfl))) (pw_or (pt_cmpR (op_eqOwn (ok_story_eqO T SC SM Fe) (hr.mono (by decide)) e1 e2 be L2.pass0) (pv 0) (pe_tup (pa_cons (pv 1) (pa_cons (pv 2) pa_nil))) (by rfl)) (pw_or1 (pt_cmpR (op_eqOwn (ok_story_eqO T SC SM Fe) (hr.mono (by decide)) e1 e2 be L2.pass0) (pv 0) (pv 2) (by rfl)))))) (pss_one (ps_ret pe_bl)) pss_nil)
      (pss_cons (ps_set (i := 4) sc__law_alike.nd rfl (.inl rfl) (pe_lst (pa_cons (pe_story2 T N I C S SC SM XS hr (by decide) (pe_op op_addU (pv 1) (pe_lst (pa_cons (pv 3) pa_nil))) (pv 2)) pa_nil)))
      (C8.pss_cut (ps_for PassesOwn.never rfl (pi_enum rfl L.n_enumerate (pa_cons (pv 2) pa_nil)) (pg_tup (by rfl) (pgs_cons (pg_name (i := 5) sc__law_alike.nd rfl (.inl rfl)) (pgs_cons (pg_name (i := 6) sc__law_alike.nd rfl (.inl rfl)) pgs_nil)))
        (C8.pss_cut (ps_setLc (i := 7) (own := [("_law_one", 8)]) (g := gName 8) (tt := tYes) (te := tOp (rCatT K) (tTup (tCons (tOp rAddU (tOp (rIx K) (tVar 8) (tC (.int 0))) (tC (.int 1))) tNil)) (tSl (rSlT K) (tVar 8) (tPart (tC (.int 1))) tNoPart)) rfl sc__law_alike.nd rfl rfl (sw_true rfl rfl rfl (by decide +kernel)) (pi_list (pe_slice sl_list (pv 2) (po_some (pv 5)) po_none)) (blkOk_by (own := [("_law_one", 8)]) (N := ["_law_story", "_law_first", "_law_changes", "_law_fresh_here", "_law_others", "_law_k", "_law_change_here", "_law_later", "_law_one"]) (sc := defScope s__law_alike) (by decide +kernel)) (fun _ _ _ _ _ => pg_name (i := 8) sc__law_alike.nd rfl (Or.inl rfl)) (fun _ _ _ _ _ => pts_nil) (fun _ _ _ _ _ => by exact (pe_op op_catT (pe_tup (pa_cons (pe_op op_addU (pe_ix ix_seq (pv 8) pe_int (fun _ _ => rfl)) pe_int) pa_nil)) (pe_slice sl_tup (pv 8) (po_some pe_int) po_none))))
          (pss_cons (ps_set (i := 4) sc__law_alike.nd rfl (.inl rfl) (pe_op op_addU (pv 4) (pe_lst (pa_cons (pe_story2 T N I C S SC SM XS hr (by decide) (pv 1) (pe_slice sl_list (pv 2) po_none (po_some (pv 5)))) (pa_cons (pe_story2 T N I C S SC SM XS hr (by decide) (pv 1) (pe_op op_addU (pe_slice sl_list (pv 2) po_none (po_some (pv 5))) (pv 7))) pa_nil)))))
          (pss_one (ps_expr (pe_bm PySem.F.plainAttrs_list PySem.F.slot_list_append PySem.F.type_list_append mt_append (pv 4) (pa_cons (pe_story2 T N I C S SC SM XS hr (by decide) (pv 1) (pe_op op_addU (pe_slice sl_list (pv 2) po_none (po_some (pv 5))) (pe_lst (pa_cons (pe_tup (pa_cons (pe_ix ix_seq (pv 6) pe_int (fun _ _ => rfl)) (pa_cons pe_str (pa_cons (pv 3) pa_nil)))) pa_nil)))) pa_nil)))))))
      (pss_one (ps_ret (pe_cmpR (op_eqU hu) (pe_lc (own := [("_law_one", 8)]) (g := gName 8) (tt := tOr (tTest (tOp (rEqOwn K CS (spSEq CS) E0) (tVar 0) (tVar 8))) (tTest (tOp (rEqOwn K CS (spSEq CS) E0) (tVar 8) (tVar 0)))) (te := tVar 8) rfl sc__law_alike.nd (pi_list (pv 4)) (blkOk_by (own := [("_law_one", 8)]) (N := ["_law_story", "_law_first", "_law_changes", "_law_fresh_here", "_law_others", "_law_k", "_law_change_here", "_law_later", "_law_one"]) (sc := defScope s__law_alike) (by decide +kernel)) (fun _ _ _ _ _ => pg_name (i := 8) sc__law_alike.nd rfl (Or.inl rfl)) (fun _ _ _ _ _ => by exact pts_one (PW.pt (pw_or (pt_cmpR (op_eqOwn (ok_story_eq T SC SM Fe) (hr.mono (by decide)) e1 e2 be L2.pass0) (pv 0) (pv 8) (by rfl)) (pw_or1 (pt_cmpR (op_eqOwn (ok_story_eq T SC SM Fe) (hr.mono (by decide)) e1 e2 be L2.pass0) (pv 8) (pv 0) (by rfl)))))) (fun _ _ _ _ _ => (pv 8))) (pe_lst pa_nil) (by rfl))))))), ?_⟩
    have lt : ts.length = zs.length := Paired.length cs
    have ly : ys.length = fs.length := pf.len
    have nz : NmC zs := run.nm
    obtain ⟨A1, eA⟩ : ∃ A1, A1 = fs.mergeSort pLe := ⟨_, rfl⟩
    rw [← eA] at hs
    have sA : A1.Perm fs := by rw [eA]; exact List.mergeSort_perm _ _
    have nA : ∀ p ∈ A1, NmP p := fun p m => nf p (sA.mem_iff.mp m)
    have lA : A1.length = fs.length := sA.length_eq
    refine q_cut8 (M := fun σ H' => σ = [some (.ref x), some (.ref fa), some (.ref cl), some y, none, none, none, none, none] ∧ Same H H') ?_ ?_
    · k_extra "r_L13n"
      refine s_make ?_
      k_extra "r_L13n"
      refine s_revL ?_
      k_extra "r_L13n"
      refine q_revL (SqL.of hf) fun l1 H1 n1 S1 h1 => ?_
      k_extra "r_L13n"
      refine q_listL (SqL.of (S1 _ _ hc)) fun l2 H2 n2 S2 h2 => ?_
      k_extra "r_L13n"
      have S12 := S1.trans S2
      have sR : fs.reverse.Perm fs := List.reverse_perm fs
      have pr : Pls H2 ys.reverse fs.reverse := by
        obtain ⟨zz, ez1, ez2, kz⟩ := (pf.mono S12).pairs
        rw [← ez1, ← ez2, ← List.map_reverse, ← List.map_reverse]
        exact Pls.of fun z m => kz z (List.mem_reverse.mp m)
      refine q_story2 (ps := fs.reverse) (zs := zs) ⟨⟨l1, _, rfl, S2 _ _ h1, pr, by rw [List.length_reverse]; omega⟩, fun p m => nf p (List.mem_reverse.mp m), sR.nodup_iff.mpr nd, ⟨ts, .inr ⟨l2, rfl, h2⟩, cs.mono S12⟩, run.perm sR.symm⟩ fun x' H3 f' c' d' nx nf' nc' nd' S3 s3 => ?_
      have S13 := S12.trans S3
      rw [sort_perm sR, ← eA] at s3
      k_extra "r_L13n"
      refine q_stoEq SC SM (hs.mono S13) s3 nA nA nz nz ?_
      rw [decide_eq_true rfl, eqv_self nz]
      refine q_test (s_if0 rfl ?_)
      k_extra "r_L13n"
      refine q_newT (by show 2 ≤ sizeLine; decide) fun l4 H4 n4 S4 h4 => ?_
      have S14 := S13.trans S4
      obtain ⟨dx, hx⟩ := id (hs.mono S14).hx
      refine ⟨x, dx, _, _, rfl, hx, (Pl.tup h4 (K := K)).1, SM.nK _ (Pl.tup h4 (K := K)).2, x, _, _, rfl, ⟨dx, _, hx⟩, Pl.tup h4, _, rfl, ?_⟩
      refine q_test (s_if0 rfl ?_)
      k_extra "r_L13n"
      have hc4 := S14 _ _ hc
      refine ⟨x, dx, _, _, rfl, hx, (Pl.lst hc4 (K := K)).1, SM.nK _ (Pl.lst hc4 (K := K)).2, x, _, _, rfl, ⟨dx, _, hx⟩, Pl.lst hc4, _, rfl, ?_⟩
      refine q_test (s_if0 rfl ?_)
      exact ⟨rfl, S14⟩
    rintro σ H0 ⟨rfl, S0⟩
    k_extra "r_L13n"
    refine s_make ?_
    k_extra "r_L13n"
    refine q_newL (by show 1 ≤ sizeLine; decide) fun l1 H1 n1 S1 h1 => ?_
    have S01 := S0.trans S1
    refine q_cat (S01 _ _ hf) h1 (sz (by simp; omega)) fun l2 H2 n2 S2 h2 => ?_
    have S02 := S01.trans S2
    k_extra "r_L13n"
    have ndr : (fs ++ [r]).Nodup := List.nodup_append.mpr ⟨nd, List.nodup_cons.mpr ⟨(fun z => by cases z), .nil⟩, fun a m b mb e => rf (by rw [List.mem_singleton.mp mb] at e; exact e ▸ m)⟩
    have nfr : ∀ p ∈ fs ++ [r], NmP p := fun p m => (List.mem_append.mp m).elim (nf p) fun m => by rw [List.mem_singleton.mp m]; exact nr
    refine q_story2 (ps := fs ++ [r]) (zs := zs) ⟨⟨l2, _, rfl, h2, (pf.mono S02).app (.cons (hy.mono S02) .nil), by rw [List.length_append, List.length_singleton]; omega⟩, nfr, ndr, ⟨ts, .inr ⟨cl, rfl, S02 _ _ hc⟩, cs.mono S02⟩, run.more rz (by omega)⟩ fun x3 H3 f3 c3 d3 nx3 nf3 nc3 nd3 S3 s3 => ?_
    k_extra "r_L13n"
    refine q_newL (by show 1 ≤ sizeLine; decide) fun l4 H4 n4 S4 h4 => ?_
    have b4 : BL (Oth CS A1 zs) 1 H0 H4 l4 := BL.mkO (S1.trans (S2.trans S3)) n4 S4 h4 (fun w m => by
      rw [List.mem_singleton.mp m]
      refine ⟨x3, f3, c3, d3, _, _, _, rfl, s3, fun p m => nfr p (List.mem_mergeSort.mp m), nz, .inl fun e => ?_⟩
      have := congrArg List.length e
      rw [sort_len, List.length_append, List.length_singleton] at this
      omega) (by simp)
    clear h1 h2 h4 s3
    k_extra "r_L13n"
    refine q_cut8 (M := fun σ H' => ∃ D v5 v6 v7, σ = [some (.ref x), some (.ref fa), some (.ref cl), some y, some (.ref D), v5, v6, v7, none] ∧ BL (Oth CS A1 zs) (1 + 3 * ts.length) H0 H' D) ?_ ?_
    · k_extra "r_L13n"
      refine ⟨cl, ts, rfl, SqL.of ((S0.trans b4.same) _ _ hc), q_forE (K := K) (a := cl) (xs := ts) (fun i σ H' => ∃ D v5 v6 v7, σ = [some (.ref x), some (.ref fa), some (.ref cl), some y, some (.ref D), v5, v6, v7, none] ∧ BL (Oth CS A1 zs) (1 + 3 * i) H0 H' D) ⟨_, _, _, _, rfl, b4⟩ (fun i σ H' _ ⟨_, _, _, _, _, b⟩ => SqL.of ((S0.trans b.same) _ _ hc)) ?_ ?_⟩
      · rintro i x0 σ K0 Tp hx0 ⟨D, v5, v6, v7, rfl, b⟩ nT
        obtain ⟨z, ez, hz⟩ := Paired.get cs hx0
        have li : i < zs.length := (List.getElem?_eq_some_iff.mp ez).1
        have U0 : Same K0 (upd K0 Tp (.tup [.int (i : Nat), x0])) := Same.new nT
        refine q_gtup (SqT.of upd_same) rfl ?_
        replace b := b.stepO U0
        generalize (upd K0 Tp (.tup [.int (i : Nat), x0])) = K1 at b U0 ⊢
        clear nT
        k_extra "r_L13n"
        have T1 := S0.trans b.same
        refine q_cut8 (M := fun σ H' => ∃ l7, σ = [some (.ref x), some (.ref fa), some (.ref cl), some y, some (.ref D), some (.int (i : Nat)), some x0, some (.ref l7), none] ∧ Same K1 H' ∧ ∃ us, H' l7 = some (.lst us) ∧ ChsAt H' us ((zs.drop i).map late)) ?_ ?_
        · k_extra "r_L13n"
          refine s_lc ?_
          k_extra "r_L13n"
          refine q_slL (SqL.of (T1 _ _ hc)) fun l5 H5 n5 S5 h5 => ?_
          rw [cutV_drop] at h5
          have T5 := T1.trans S5
          refine ⟨l5, rfl, ⟨_, SqL.of h5⟩, fun D6 nD6 => lc_list (K := K) (a := l5) (xs := ts.drop i) (fun j H' => Same H5 H' ∧ ∃ us, H' D6 = some (.lst us) ∧ ChsAt H' us (((zs.drop i).take j).map late)) ⟨Same.new nD6, [], upd_same, .nil⟩ (fun i H' _ h => SqL.of (h.1 _ _ h5)) ?_ ?_⟩
          · rintro j u H6 hu6 ⟨S6, us, h6, c6⟩
            rw [List.getElem?_drop] at hu6
            obtain ⟨z', ez', hz'⟩ := Paired.get cs hu6
            have ed : (zs.drop i)[j]? = some z' := by rw [List.getElem?_drop]; exact ez'
            have lj := (List.getElem?_eq_some_iff.mp ez').1
            have lu : us.length ≤ zs.length := by
              rw [Paired.length c6, List.length_map, List.length_take, List.length_drop]
              omega
            have hz6 := hz'.mono (T5.trans S6)
            obtain ⟨t, vs, rfl, ht, hv⟩ := id hz6
            k_extra "r_L13n"
            refine ⟨rfl, ?_⟩
            k_extra "r_L13n"
            refine q_ixT (SqT.of ht) (at_of (j := 0) rfl rfl) ?_
            k_extra "r_L13n"
            refine q_newT (by show 1 ≤ sizeLine; decide) fun t7 H7 n7 S7 h7 => ?_
            k_extra "r_L13n"
            refine q_slT1 (SqT.of (S7 _ _ ht)) fun t8 H8 n8 S8 h8 => ?_
            have lv : vs.length ≤ 2 := by rw [hv.len]; cases z'.2 <;> simp [Ch.pcs]
            refine q_catT (SqT.of (S8 _ _ h7)) (SqT.of h8) (by simp) (by simp) (sz (by simp; omega)) fun t9 H9 n9 S9 h9 => ?_
            have S69 := S7.trans (S8.trans S9)
            have h69 := S69 _ _ h6
            have N : ∀ y : V, TupK H9 (upd H9 D6 (.lst (us ++ [y]))) := fun _ => TupK.but h69 (fun _ z => by cases z) But.upd
            refine ⟨us, h69, szlt (by omega), same_mut (S6.trans S69) nD6, _, upd_same, ?_⟩
            rw [List.take_add_one, ed, List.map_append]
            refine ((c6.mono S69).tk (N _)).snoc ?_
            exact ChAt.tk (N _) ⟨t9, vs, rfl, h9, hv.mono S69⟩
          · rintro H6 ⟨S6, us, h6, c6⟩
            rw [List.length_drop, lt, ← List.length_drop, List.take_length] at c6
            k_extra "r_L13n"
            exact ⟨D6, rfl, S5.trans S6, us, h6, c6⟩
        rintro σ K2 ⟨l7, rfl, U1, us, h7, c7⟩
        replace b := b.stepO U1
        clear U0 T1 U1
        have sb : ∀ {H' : Hp} {b' : V} {ws : List GC}, Same H H' → (∃ us c, b' = .ref c ∧ H' c = some (.lst us) ∧ ChsAt H' us ws) → Run fs 0 ws → SbY H' (.ref fa) b' fs ws := fun S ⟨us, c, e, h, hc⟩ rn => ⟨⟨fa, _, rfl, S _ _ hf, pf.mono S, by omega⟩, nf, nd, ⟨us, .inr ⟨c, e, h⟩, hc⟩, rn⟩
        have tk : ∀ {H' : Hp}, Same H H' → ChsAt H' (ts.take i) (zs.take i) := fun S => by
          have := cs.mono S
          clear hx0 ez li
          exact Paired.takeP this i
        k_extra "r_L13n"
        refine s_make ?_
        k_extra "r_L13n"
        have T2 := S0.trans b.same
        refine q_slL (SqL.of (T2 _ _ hc)) fun l8 H8 n8 S8 h8 => ?_
        rw [cutV_take] at h8
        replace b := b.stepO S8
        replace T2 := T2.trans S8
        k_extra "r_L13n"
        refine q_story2 (sb T2 ⟨_, l8, rfl, h8, tk T2⟩ (run.take i)) fun x9 H9 f9 c9 d9 nx9 nf9 nc9 nd9 S9 s9 => ?_
        rw [← eA] at s9
        have o9 : Oth CS A1 zs H9 (.ref x9) := ⟨x9, _, _, _, _, _, _, rfl, s9, nA, fun z m => nz z (List.mem_of_mem_take m), .inr (ne_take li)⟩
        replace b := b.stepO S9
        replace T2 := T2.trans S9
        replace h7 := (S8.trans S9) _ _ h7
        replace c7 := c7.mono (S8.trans S9)
        clear h8 s9
        k_extra "r_L13n"
        refine s_make ?_
        k_extra "r_L13n"
        refine q_slL (SqL.of (T2 _ _ hc)) fun l10 H10 n10 S10 h10 => ?_
        rw [cutV_take] at h10
        have lus : us.length ≤ zs.length := by
          rw [Paired.length c7, List.length_map, List.length_drop]
          omega
        k_extra "r_L13n"
        refine q_cat h10 (S10 _ _ h7) (sz (by rw [List.length_take]; omega)) fun l11 H11 n11 S11 h11 => ?_
        have S911 := S10.trans S11
        k_extra "r_L13n"
        have nlate : NmC (zs.take i ++ (zs.drop i).map late) := fun z m => by
          rcases List.mem_append.mp m with m | m
          · exact nz z (List.mem_of_mem_take m)
          · obtain ⟨z0, m0, rfl⟩ := List.mem_map.mp m
            exact nz z0 (List.mem_of_mem_drop m0)
        refine q_story2 (sb (T2.trans S911) ⟨_, l11, rfl, h11, ChsAt.app (tk (T2.trans S911)) (c7.mono S911)⟩ ((run.take i).app ((run.drop i).late (by omega)))) fun x12 H12 f12 c12 d12 nx12 nf12 nc12 nd12 S12 s12 => ?_
        rw [← eA] at s12
        have o12 : Oth CS A1 zs H12 (.ref x12) := ⟨x12, _, _, _, _, _, _, rfl, s12, nA, nlate, .inr (ne_late li)⟩
        have S912 := S911.trans S12
        replace b := b.stepO S912
        replace T2 := T2.trans S912
        replace o9 := o9.mono S912
        clear h7 c7 h10 h11 s12
        k_extra "r_L13n"
        refine q_newL (by show 2 ≤ sizeLine; decide) fun l13 H13 n13 S13 h13 => ?_
        replace b := b.stepO S13
        obtain ⟨_, _, vs, hv, _, lv⟩ := id b
        refine q_cat hv h13 (sz (by simp; omega)) fun D14 H14 n14 S14 h14 => ?_
        have b14 := b.catO (m := 2) hv n14 S14 h14 (all_cons (o9.mono S13) (all_cons (o12.mono S13) all_nil)) (by simp)
        clear hv h13 h14 b
        have T14 := S0.trans b14.same
        k_extra "r_L13n"
        obtain ⟨_, _, vs, hv, _, lv⟩ := id b14
        refine ⟨.inl ⟨rfl, _, SqL.of hv⟩, ?_⟩
        k_extra "r_L13n"
        refine s_make ?_
        k_extra "r_L13n"
        refine q_slL (SqL.of (T14 _ _ hc)) fun l15 H15 n15 S15 h15 => ?_
        rw [cutV_take] at h15
        have hz15 := hz.mono (T14.trans S15)
        obtain ⟨t, us2, rfl, ht, hus2⟩ := id hz15
        k_extra "r_L13n"
        refine q_ixT (SqT.of ht) (at_of (j := 0) rfl rfl) ?_
        k_extra "r_L13n"
        refine q_newT (by show 3 ≤ sizeLine; decide) fun t16 H16 n16 S16 h16 => ?_
        k_extra "r_L13n"
        refine q_newL (by show 1 ≤ sizeLine; decide) fun l17 H17 n17 S17 h17 => ?_
        refine q_cat ((S16.trans S17) _ _ h15) h17 (sz (by simp; omega)) fun l18 H18 n18 S18 h18 => ?_
        have S1418 := S15.trans (S16.trans (S17.trans S18))
        have T18 := T14.trans S1418
        k_extra "r_L13n"
        have c18 : ChsAt H18 (ts.take i ++ [.ref t16]) (zs.take i ++ [(z.1, .add r)]) := (tk T18).snoc ⟨t16, _, rfl, (S17.trans S18) _ _ h16, .cons (hy.mono T18) .nil⟩
        have nnew : NmC (zs.take i ++ [(z.1, .add r)]) := fun u m => by
          rcases List.mem_append.mp m with m | m
          · exact nz u (List.mem_of_mem_take m)
          · rw [List.mem_singleton.mp m]
            exact fun p mp => by rw [List.mem_singleton.mp mp]; exact nr
        refine q_story2 (sb T18 ⟨_, l18, rfl, h18, c18⟩ (run.fresh rf rz nr ez)) fun x19 H19 f19 c19 d19 nx19 nf19 nc19 nd19 S19 s19 => ?_
        rw [← eA] at s19
        have hv18 := S1418 _ _ hv
        have hv19 := S19 _ _ hv18
        have b19 := b14.stepO (S1418.trans S19)
        have ne : ∀ {b : Addr}, H18 b = none → b ≠ D14 := fun n z => by rw [z, hv18] at n; cases n
        have o19 : Oth CS A1 zs (wo D14 H19) (.ref x19) := ⟨x19, _, _, _, _, _, _, rfl, s19.wo hv19 (ne nx19) (ne nf19) (ne nc19) (ne nd19), nA, nnew, .inr (ne_new rz)⟩
        k_extra "r_L13n"
        refine q_append hv19 (szlt (by omega)) fun H20 B20 h20 => ?_
        k_extra "r_L13n"
        exact ⟨_, _, _, _, rfl, (b19.butO hv19 o19 B20 h20).le (by omega)⟩
      · rintro σ K0 ⟨D, v5, v6, v7, rfl, b⟩
        k_extra "r_L13n"
        exact ⟨_, _, _, _, rfl, b⟩
    rintro σ K0 ⟨D, v5, v6, v7, rfl, b⟩
    have T0 := S0.trans b.same
    obtain ⟨_, _, vs, hv, kv, lv⟩ := id b
    k_extra "r_L13n"
    refine s_lc ?_
    k_extra "r_L13n"
    refine ⟨D, rfl, ⟨_, SqL.of hv⟩, fun D8 nD8 => lc_list (K := K) (a := D) (xs := vs) (fun i H' => Same K0 H' ∧ H' D8 = some (.lst [])) ⟨Same.new nD8, upd_same⟩ (fun i H' _ h => SqL.of (h.1 _ _ hv)) ?_ ?_⟩
    · rintro i u K1 hu1 ⟨U1, h1⟩
      obtain ⟨x', f', c', d', ps', zs', st', rfl, s', np', nz', ne⟩ := (kv u (List.mem_of_getElem? hu1)).mono wo_sub
      have s1 := s'.mono U1
      have hs1 := hs.mono (T0.trans U1)
      k_extra "r_L13n"
      refine ⟨rfl, ?_⟩
      k_extra "r_L13n"
      refine q_stoEq SC SM hs1 s1 nA np' nz nz' ?_
      rw [oth_no ne]
      refine q_test (s_if0 rfl ?_)
      k_extra "r_L13n"
      refine q_stoEq SC SM s1 hs1 np' nA nz' nz ?_
      rw [oth_no2 ne]
      refine ⟨_, rfl, ?_⟩
      exact ⟨U1, h1⟩
    · rintro K1 ⟨U1, h1⟩
      k_extra "r_L13n"
      refine q_newL (by show 0 ≤ sizeLine; decide) fun l9 H9 n9 S9 h9 => ?_
      refine q_eqD (.lst (SqL.of (S9 _ _ h1)) .nil) (.lst (SqL.of h9) .nil) (by decide) (by decide) ?_
      rw [show PyData.eqv (.list []) (.list []) = true by decide +kernel]
      exact k H9 (T0.trans (U1.trans S9))
end
end Bt
namespace Bt
open PySem PySem.Spec PyProof.Rows L2 LamX NdefX
open PySem.W (dataLt dataLe alike AllAlike Sortable)
theorem words141_ : True := by
  k_with "s_L13o" => first
    | ((with_reducible refine' s_var ?hv ?_); (case hv => exact rfl))
    | with_reducible first
      | refine' s_c ?_ | refine' s_op ?_ | refine' s_asg ?_ | refine' s_gname ?_ | refine' s_seq ?_ | refine' s_next ?_ | refine' s_ret ?_ | refine' s_ifS ?_ | refine' s_drop ?_ | refine' s_retN ?_ | refine' s_test ?_ | refine' s_B ?_ | refine' q_test ?_ | refine' s_int ?_ | refine' s_cons ?_ | refine' s_nil ?_ | refine' s_call ?_ | refine' s_CB ?_ | refine' s_andT ?_ | refine' s_orT ?_ | refine' s_notT ?_ | refine' s_andV ?_ | refine' s_orV ?_ | refine' s_notV ?_ | refine' s_ifV ?_ | refine' s_chain ?_ | refine' s_sl ?_ | refine' s_noPart ?_ | refine' s_part ?_ | refine' s_gsub ?_ | refine' s_BM ?_ | refine' s_tup ?_ | refine' s_lst ?_ | refine' q_add ?_ | refine' q_sub ?_ | refine' q_lt ?_ | refine' q_le ?_ | refine' q_gt ?_ | refine' q_ge ?_ | refine' s_ifT ?_ | refine' s_ifF ?_ | refine' s_yes ?_ | refine' s_iStr ?_ | refine' s_M0 ?_ | refine' s_for ?_ | refine' s_rng1 ?_ | refine' s_par ?_ | refine' s_gcons ?_ | refine' s_gnil ?_ | refine' s_iList ?_ | refine' s_iEnum ?_ | refine' s_raise1 ?_
      | (refine' q_mod ?hm ?_; (case hm => first | omega | decide))
    | dsimp only
  k_with "r_L13o" => repeat (k_extra "s_L13o")
  trivial
/-! ### _law_ordered_pair -/
theorem ne_mem {a b : List Plc} {r : Plc} (h : r ∈ a) (g : r ∉ b) : a.mergeSort pLe ≠ b.mergeSort pLe := fun e => g (List.mem_mergeSort.mp (e ▸ List.mem_mergeSort.mpr h))
def twoZ (p q : Plc) : List GC := [(0, .add p), (0, .add q)]
theorem run_two {fs : List Plc} {p q : Plc} (hp : p ∉ fs) (hq : q ∉ fs) (ne : p ≠ q) (np : NmP p) (nq : NmP q) (l : fs.length ≤ 20) : Run fs 0 (twoZ p q) := by
  have e : mkC fs (.add p) = fs ++ [p] := rfl
  refine ⟨Int.le_refl _, ⟨(fun _ c => by cases c), fun _ c m => by cases c; exact hp m⟩, (fun r m => by rw [List.mem_singleton.mp m]; exact np), by omega, Int.le_refl _, ⟨(fun _ c => by cases c), fun _ c m => ?_⟩, (fun r m => by rw [List.mem_singleton.mp m]; exact nq), ?_, trivial⟩
  · cases c
    rw [e] at m
    rcases List.mem_append.mp m with m | m
    · exact hq m
    · exact ne (List.mem_singleton.mp m).symm
  · rw [e, List.length_append, List.length_singleton]
    omega
theorem runC_two (fs : List Plc) (p q : Plc) : runC fs (twoZ p q) = fs ++ [p] ++ [q] := rfl
theorem two_perm (fs : List Plc) (p q : Plc) : (runC fs (twoZ p q)).Perm (runC fs (twoZ q p)) := by
  rw [runC_two, runC_two, List.append_assoc, List.append_assoc]
  exact List.Perm.append_left _ List.perm_append_comm
theorem two_ne {p q : Plc} (h : p ≠ q) : twoZ p q ≠ twoZ q p := fun e => by
  unfold twoZ at e
  injection e with e _
  injection e with _ e
  injection e with e
  exact h e
theorem two_before (p q : Plc) : before 1 (twoZ p q) = twoZ p q := before_all fun z m => by
  rcases List.mem_cons.mp m with rfl | m
  · show (0 : Int) < 1; decide
  · rw [List.mem_singleton.mp m]; show (0 : Int) < 1; decide
theorem cutV_drop1 {xs : List V} : cutV xs (some 1) none = xs.drop 1 := cutV_drop 1
theorem nd_cons {fs : List Plc} {r : Plc} (h : r ∉ fs) (nd : fs.Nodup) : (r :: fs.drop 1).Nodup := List.nodup_cons.mpr ⟨fun m => h (List.mem_of_mem_drop m), nd.sublist (List.drop_sublist 1 fs)⟩
theorem Pls.drop {H : Hp} {xs : List V} {ps : List Plc} (h : Pls H xs ps) : ∀ n : Nat, Pls H (xs.drop n) (ps.drop n) := by
  induction h with
  | nil => intro n; rw [List.drop_nil, List.drop_nil]; exact .nil
  | cons h hs ih =>
    intro n
    cases n with
    | zero => exact .cons h hs
    | succ n => exact ih n
section
variable {P : Program} {w : World} {K : PySem.W.Frag} {mg : Str → Option Value} {base : Heap} {CS CI CC CN : Addr}
def spPair : Sp := fun vs H Q _ => ∃ fa ys fs y1 r1 y2 r2, vs = [.ref fa, y1, y2] ∧ H fa = some (.lst ys) ∧ Pls H ys fs ∧ (∀ p ∈ fs, NmP p) ∧ fs.Nodup ∧ fs.length ≤ 20 ∧ PlAt H y1 r1 ∧ NmP r1 ∧ r1 ∉ fs ∧ PlAt H y2 r2 ∧ NmP r2 ∧ r2 ∉ fs ∧ r1 ≠ r2 ∧ ∀ H', Same H H' → Q (.bl true) H'
theorem ok__law_ordered_pair (T : Txt K mg) (N : TxtN K mg) (I : TxtI K mg) (C : TxtC13 K mg) (S : TxtS13 K mg) (SC : StoryC K mg CS) (SM : StoryM K CS) (XS : ExcF K mg "InvalidStory" "value" CI) (L : TxtL13 K mg) : Cal P w K mg base 8 "_law_ordered_pair" spPair := by
  obtain ⟨fe, fde, e1, e2, Fe, be⟩ := SM.eq
  refine L.d_pair.cal sc__law_ordered_pair (fun vs H Q E h => ?_) (fun fn cdv A outer s H vs Q E hr h => ?_)
  · obtain ⟨fa, ys, fs, y1, r1, y2, r2, rfl, _⟩ := h
    rfl
  · obtain ⟨fa, ys, fs, y1, r1, y2, r2, rfl, hf, pf, nf, nd, lf, hy1, nr1, rf1, hy2, nr2, rf2, ne, k⟩ := h
    have hu := hr.units
    refine ⟨_, (pss_cons (ps_par (i := 3) (j := 4) (by rfl) sc__law_ordered_pair.nd rfl rfl (by decide) rfl rfl (pa_cons (pe_tup (pa_cons pe_int (pa_cons pe_str (pa_cons (pv 1) pa_nil)))) (pa_cons (pe_tup (pa_cons pe_int (pa_cons pe_str (pa_cons (pv 2) pa_nil)))) pa_nil)) (by rfl))
      (pss_cons (ps_par (i := 5) (j := 6) (by rfl) sc__law_ordered_pair.nd rfl rfl (by decide) rfl rfl (pa_cons (pe_story1 T N I C S SC SM XS hr (by decide) (pe_op op_addU (pe_lst (pa_cons (pv 1) pa_nil)) (pe_slice sl_list (pv 0) (po_some pe_int) po_none))) (pa_cons (pe_story1 T N I C S SC SM XS hr (by decide) (pe_op op_addU (pe_lst (pa_cons (pv 2) pa_nil)) (pe_slice sl_list (pv 0) (po_some pe_int) po_none))) pa_nil)) (by rfl))
      (C8.pss_cut (ps_if (PW.pt (pw_or (pt_cmpR (op_eqOwn (ok_story_eq T SC SM Fe) (hr.mono (by decide)) e1 e2 be L2.pass0) (pv 5) (pv 6) (by rfl)) (pw_or (pt_cmpR (op_eqOwn (ok_story_eq T SC SM Fe) (hr.mono (by decide)) e1 e2 be L2.pass0) (pv 5) (pe_story1 T N I C S SC SM XS hr (by decide) (pv 0)) (by rfl)) (pw_or1 (pt_cmpR (op_eqOwn (ok_story_eq T SC SM Fe) (hr.mono (by decide)) e1 e2 be L2.pass0) (pe_story1 T N I C S SC SM XS hr (by decide) (pv 0)) (pv 5) (by rfl)))))) (pss_one (ps_ret pe_bl)) pss_nil)
      (pss_cons (ps_par (i := 5) (j := 6) (by rfl) sc__law_ordered_pair.nd rfl rfl (by decide) rfl rfl (pa_cons (pe_story2 T N I C S SC SM XS hr (by decide) (pv 0) (pe_lst (pa_cons (pv 3) (pa_cons (pv 4) pa_nil)))) (pa_cons (pe_story2 T N I C S SC SM XS hr (by decide) (pv 0) (pe_lst (pa_cons (pv 4) (pa_cons (pv 3) pa_nil)))) pa_nil)) (by rfl))
      (pss_one (ps_ret (pe_and (pe_not (pe_cmpR (op_eqOwn (ok_story_eq T SC SM Fe) (hr.mono (by decide)) e1 e2 be L2.pass0) (pv 5) (pv 6) (by rfl))) (pe_and (pe_cmpR (op_eqU hu) (pe_at T N I C S SC SM hr (by decide) (pv 5) pe_int) (pe_at T N I C S SC SM hr (by decide) (pv 6) pe_int) (by rfl)) (pe_one (pe_cmpR (op_eqOwn (ok_story_eq T SC SM Fe) (hr.mono (by decide)) e1 e2 be L2.pass0) (pv 5) (pe_story2 T N I C S SC SM XS hr (by decide) (pv 0) (pe_lst (pa_cons (pv 3) (pa_cons (pv 4) pa_nil)))) (by rfl))))))))))), ?_⟩
    have ly : ys.length = fs.length := pf.len
    obtain ⟨A1, eA⟩ : ∃ A1, A1 = fs.mergeSort pLe := ⟨_, rfl⟩
    have sA : A1.Perm fs := by rw [eA]; exact List.mergeSort_perm _ _
    have nA : ∀ p ∈ A1, NmP p := fun p m => nf p (sA.mem_iff.mp m)
    have ndA : A1.Nodup := sA.nodup_iff.mpr nd
    have lA : A1.length = fs.length := sA.length_eq
    have nn : NmC ([] : List GC) := fun _ m => by cases m
    have nc : ∀ {r : Plc}, NmP r → ∀ p ∈ r :: fs.drop 1, NmP p := fun h p m => by
      rcases List.mem_cons.mp m with rfl | m
      · exact h
      · exact nf p (List.mem_of_mem_drop m)
    k_extra "r_L13o"
    refine q_newT (by show 3 ≤ sizeLine; decide) fun t1 H1 n1 S1 h1 => ?_
    k_extra "r_L13o"
    refine q_newT (by show 3 ≤ sizeLine; decide) fun t2 H2 n2 S2 h2 => ?_
    k_extra "r_L13o"
    refine ⟨_, _, rfl, ?_⟩
    have S12 := S1.trans S2
    have g1 : ChAt H2 (.ref t1) (0, .add r1) := ⟨t1, _, rfl, S2 _ _ h1, .cons (hy1.mono S12) .nil⟩
    have g2 : ChAt H2 (.ref t2) (0, .add r2) := ⟨t2, _, rfl, h2, .cons (hy2.mono S12) .nil⟩
    k_extra "r_L13o"
    refine s_make ?_
    k_extra "r_L13o"
    refine q_newL (by show 1 ≤ sizeLine; decide) fun l3 H3 n3 S3 h3 => ?_
    k_extra "r_L13o"
    have S13 := S12.trans S3
    refine q_slL (SqL.of (S13 _ _ hf)) fun l4 H4 n4 S4 h4 => ?_
    rw [cutV_drop1] at h4
    refine q_cat (S4 _ _ h3) h4 (sz (by simp; omega)) fun l5 H5 n5 S5 h5 => ?_
    have S15 := S13.trans (S4.trans S5)
    k_extra "r_L13o"
    refine q_story2 (ps := r1 :: fs.drop 1) (zs := []) ⟨⟨l5, _, rfl, h5, .cons (hy1.mono S15) ((pf.mono S15).drop 1), by simp; omega⟩, nc nr1, nd_cons rf1 nd, ⟨[], .inl ⟨rfl, rfl⟩, .nil⟩, trivial⟩ fun x1 H6 f1 c1 d1 nx1 nf1 nc1 nd1 S6 s1 => ?_
    have S16 := S15.trans S6
    k_extra "r_L13o"
    refine s_make ?_
    k_extra "r_L13o"
    refine q_newL (by show 1 ≤ sizeLine; decide) fun l7 H7 n7 S7 h7 => ?_
    k_extra "r_L13o"
    have S17 := S16.trans S7
    refine q_slL (SqL.of (S17 _ _ hf)) fun l8 H8 n8 S8 h8 => ?_
    rw [cutV_drop1] at h8
    refine q_cat (S8 _ _ h7) h8 (sz (by simp; omega)) fun l9 H9 n9 S9 h9 => ?_
    have S69 := S7.trans (S8.trans S9)
    have S19 := S16.trans S69
    k_extra "r_L13o"
    refine q_story2 (ps := r2 :: fs.drop 1) (zs := []) ⟨⟨l9, _, rfl, h9, .cons (hy2.mono S19) ((pf.mono S19).drop 1), by simp; omega⟩, nc nr2, nd_cons rf2 nd, ⟨[], .inl ⟨rfl, rfl⟩, .nil⟩, trivial⟩ fun x2 HA f2 c2 d2 nx2 nf2 nc2 nd2 SA s2 => ?_
    have S1A := S19.trans SA
    k_extra "r_L13o"
    refine ⟨_, _, rfl, ?_⟩
    replace s1 := s1.mono (S69.trans SA)
    have G2A : Same H2 HA := S3.trans (S4.trans (S5.trans (S6.trans (S69.trans SA))))
    replace g1 := g1.mono G2A
    replace g2 := g2.mono G2A
    clear h1 h2 h3 h4 h5 h7 h8 h9
    have nS1 : ∀ p ∈ (r1 :: fs.drop 1).mergeSort pLe, NmP p := fun p m => nc nr1 p (List.mem_mergeSort.mp m)
    have nS2 : ∀ p ∈ (r2 :: fs.drop 1).mergeSort pLe, NmP p := fun p m => nc nr2 p (List.mem_mergeSort.mp m)
    have d12 : (r1 :: fs.drop 1).mergeSort pLe ≠ (r2 :: fs.drop 1).mergeSort pLe := ne_mem List.mem_cons_self fun m => by
      rcases List.mem_cons.mp m with e | m
      · exact ne e
      · exact rf1 (List.mem_of_mem_drop m)
    have d1A : (r1 :: fs.drop 1).mergeSort pLe ≠ A1 := by rw [eA]; exact ne_mem List.mem_cons_self rf1
    have one : ∀ {H' : Hp}, Same H H' → SbY H' (.ref fa) .non fs [] := fun U => ⟨⟨fa, _, rfl, U _ _ hf, pf.mono U, by omega⟩, nf, nd, ⟨[], .inl ⟨rfl, rfl⟩, .nil⟩, trivial⟩
    refine q_cut8 (M := fun σ H' => σ = [some (.ref fa), some y1, some y2, some (.ref t1), some (.ref t2), some (.ref x1), some (.ref x2)] ∧ Same HA H') ?_ ?_
    · k_extra "r_L13o"
      refine q_stoEq SC SM s1 s2 nS1 nS2 nn nn ?_
      rw [oth_no (.inl d12)]
      refine q_test (s_if0 rfl ?_)
      k_extra "r_L13o"
      refine s_make ?_
      k_extra "r_L13o"
      refine q_story2 (one S1A) fun xB HB fB cB dB nxB nfB ncB ndB SB sB => ?_
      rw [← eA] at sB
      k_extra "r_L13o"
      refine q_stoEq SC SM (s1.mono SB) sB nS1 nA nn nn ?_
      rw [oth_no (.inl d1A)]
      refine q_test (s_if0 rfl ?_)
      k_extra "r_L13o"
      refine s_make ?_
      k_extra "r_L13o"
      refine q_story2 (one (S1A.trans SB)) fun xC HC fC cC dC nxC nfC ncC ndC SC' sC => ?_
      rw [← eA] at sC
      k_extra "r_L13o"
      refine q_stoEq SC SM sC (s1.mono (SB.trans SC')) nA nS1 nn nn ?_
      rw [oth_no2 (.inl d1A)]
      refine q_test (s_if0 rfl ?_)
      exact ⟨rfl, SB.trans SC'⟩
    rintro σ H0 ⟨rfl, U0⟩
    have V0 := S1A.trans U0
    replace g1 := g1.mono U0
    replace g2 := g2.mono U0
    clear s1 s2
    have two : ∀ {H' : Hp} {l : Addr} {a b : V} {p q : Plc}, Same H H' → H' l = some (.lst [a, b]) → ChAt H' a (0, .add p) → ChAt H' b (0, .add q) → p ∉ fs → q ∉ fs → p ≠ q → NmP p → NmP q → SbY H' (.ref fa) (.ref l) fs (twoZ p q) := fun U hl ha hb hp hq hn n1 n2 => ⟨⟨fa, _, rfl, U _ _ hf, pf.mono U, by omega⟩, nf, nd, ⟨_, .inr ⟨_, rfl, hl⟩, .cons ha (.cons hb .nil)⟩, run_two hp hq hn n1 n2 lf⟩
    have nz12 : NmC (twoZ r1 r2) := (run_two rf1 rf2 ne nr1 nr2 lf).nm
    have nz21 : NmC (twoZ r2 r1) := (run_two rf2 rf1 ne.symm nr2 nr1 lf).nm
    k_extra "r_L13o"
    refine s_make ?_
    k_extra "r_L13o"
    refine q_newL (by show 2 ≤ sizeLine; decide) fun m1 K1 k1 U1 h1 => ?_
    have V1 := V0.trans U1
    k_extra "r_L13o"
    refine q_story2 (two V1 h1 (g1.mono U1) (g2.mono U1) rf1 rf2 ne nr1 nr2) fun xD KD fD cD dD nxD nfD ncD ndD UD sD => ?_
    rw [← eA] at sD
    have V2 := V1.trans UD
    have W2 := U1.trans UD
    k_extra "r_L13o"
    refine s_make ?_
    k_extra "r_L13o"
    refine q_newL (by show 2 ≤ sizeLine; decide) fun m3 K3 k3 U3 h3 => ?_
    have V3 := V2.trans U3
    have W3 := W2.trans U3
    k_extra "r_L13o"
    refine q_story2 (two V3 h3 (g2.mono W3) (g1.mono W3) rf2 rf1 ne.symm nr2 nr1) fun xE KE' fE cE dE nxE nfE ncE ndE UE sE => ?_
    rw [← eA] at sE
    have V4 := V3.trans UE
    have W4 := W3.trans UE
    replace sD := sD.mono (U3.trans UE)
    k_extra "r_L13o"
    refine ⟨_, _, rfl, ?_⟩
    k_extra "r_L13o"
    refine q_stoEq SC SM sD sE nA nA nz12 nz21 ?_
    rw [oth_no (.inr (two_ne ne))]
    k_extra "r_L13o"
    refine s_if1 rfl ?_
    k_extra "r_L13o"
    refine s_meth ?_
    k_extra "r_L13o"
    obtain ⟨xd, hxd⟩ := id sD.hx
    refine ⟨xD, xd, _, rfl, hxd, stF_at, ?_⟩
    k_extra "r_L13o"
    refine ⟨xD, fD, cD, dD, A1, twoZ r1 r2, _, 1, rfl, sD, by decide, ndA, by omega, (run_two rf1 rf2 ne nr1 nr2 lf).perm sA.symm, fun E9 H9 us9 n9 S9 h9 p9 => ?_⟩
    rw [two_before] at p9
    replace sE := sE.mono S9
    obtain ⟨xe, hxe⟩ := id sE.hx
    k_extra "r_L13o"
    refine s_meth ?_
    k_extra "r_L13o"
    refine ⟨xE, xe, _, rfl, hxe, stF_at, ?_⟩
    k_extra "r_L13o"
    refine ⟨xE, fE, cE, dE, A1, twoZ r2 r1, _, 1, rfl, sE, by decide, ndA, by omega, (run_two rf2 rf1 ne.symm nr2 nr1 lf).perm sA.symm, fun E8 H8 us8 n8 S8 h8 p8 => ?_⟩
    rw [two_before, ← sort_perm (two_perm A1 r1 r2)] at p8
    have nmR : ∀ p ∈ (runC A1 (twoZ r1 r2)).mergeSort pLe, NmP p := fun p m => runC_nm nA nz12 p (List.mem_mergeSort.mp m)
    refine q_eqD (.lst (SqL.of (S8 _ _ h9)) (p9.mono S8).dps) (.lst (SqL.of h8) p8.dps) (sh_pls nmR) (sh_pls nmR) ?_
    rw [show PyData.eqv (.list (((runC A1 (twoZ r1 r2)).mergeSort pLe).map dPl)) (.list (((runC A1 (twoZ r1 r2)).mergeSort pLe).map dPl)) = _ from eqv_pls _ _, decide_eq_true rfl]
    refine ⟨_, rfl, s_if1 rfl ?_⟩
    have V5 := V4.trans (S9.trans S8)
    have W5 := W4.trans (S9.trans S8)
    k_extra "r_L13o"
    refine s_make ?_
    k_extra "r_L13o"
    refine q_newL (by show 2 ≤ sizeLine; decide) fun m5 K5 k5 U5 h5 => ?_
    k_extra "r_L13o"
    refine q_story2 (two (V5.trans U5) h5 (g1.mono (W5.trans U5)) (g2.mono (W5.trans U5)) rf1 rf2 ne nr1 nr2) fun xF KF fF cF dF nxF nfF ncF ndF UF sF => ?_
    rw [← eA] at sF
    k_extra "r_L13o"
    refine q_stoEq SC SM (sD.mono (S9.trans (S8.trans (U5.trans UF)))) sF nA nA nz12 nz12 ?_
    rw [decide_eq_true rfl, eqv_self nz12]
    exact k KF (V5.trans (U5.trans UF))
end
end Bt
namespace Bt
open PySem PySem.Spec PyProof.Rows L2 LamX NdefX
open PySem.W (dataLt dataLe alike AllAlike Sortable)
theorem words142_ : True := by
  k_with "s_L13p" => first
    | ((with_reducible refine' s_var ?hv ?_); (case hv => exact rfl))
    | with_reducible first
      | refine' s_c ?_ | refine' s_op ?_ | refine' s_asg ?_ | refine' s_gname ?_ | refine' s_seq ?_ | refine' s_next ?_ | refine' s_ret ?_ | refine' s_ifS ?_ | refine' s_drop ?_ | refine' s_retN ?_ | refine' s_test ?_ | refine' s_B ?_ | refine' q_test ?_ | refine' s_int ?_ | refine' s_cons ?_ | refine' s_nil ?_ | refine' s_call ?_ | refine' s_CB ?_ | refine' s_andT ?_ | refine' s_orT ?_ | refine' s_notT ?_ | refine' s_andV ?_ | refine' s_orV ?_ | refine' s_notV ?_ | refine' s_ifV ?_ | refine' s_chain ?_ | refine' s_sl ?_ | refine' s_noPart ?_ | refine' s_part ?_ | refine' s_gsub ?_ | refine' s_BM ?_ | refine' s_tup ?_ | refine' s_lst ?_ | refine' q_add ?_ | refine' q_sub ?_ | refine' q_lt ?_ | refine' q_le ?_ | refine' q_gt ?_ | refine' q_ge ?_ | refine' s_ifT ?_ | refine' s_ifF ?_ | refine' s_yes ?_ | refine' s_iStr ?_ | refine' s_M0 ?_ | refine' s_for ?_ | refine' s_rng1 ?_ | refine' s_par ?_ | refine' s_gcons ?_ | refine' s_gnil ?_ | refine' s_iList ?_ | refine' s_iEnum ?_ | refine' s_raise1 ?_
      | (refine' q_mod ?hm ?_; (case hm => first | omega | decide))
    | dsimp only
  k_with "r_L13p" => repeat (k_extra "s_L13p")
  trivial
/-! ### _law_odd_parts -/
/-- what is no first places -/
def OddP (K : PySem.W.Frag) (H : Hp) (v : V) : Prop := ∃ o, Vw K H v o ∧ SelfA K H v o ∧ SelfV K H v ∧ FsB K H o
theorem SelfA.mono {K : PySem.W.Frag} {H H' : Hp} {v : V} {o : Option (List V)} (S : Same H H') (h : SelfA K H v o) : SelfA K H' v o := by
  cases o with
  | none => exact SelfV.mono S h
  | some xs => exact ⟨h.1, fun y m => (h.2 y m).mono S⟩
theorem OddP.mono {K : PySem.W.Frag} {H H' : Hp} {v : V} (S : Same H H') : OddP K H v → OddP K H' v := fun ⟨o, h1, h2, h3, h4⟩ => ⟨o, h1.mono S, h2.mono S, h3.mono S, h4.mono S⟩
def BadC (K : PySem.W.Frag) (CS : Addr) (fs : List Plc) (H : Hp) (v : V) : Prop := ∃ o, Vw K H v o ∧ SelfA K H v o ∧ v ≠ .non ∧ ∀ ts, o = some ts → RunK K CS H ts 0 fs none
theorem BadC.mono {K : PySem.W.Frag} {CS : Addr} {fs : List Plc} {H H' : Hp} {v : V} (S : Same H H') : BadC K CS fs H v → BadC K CS fs H' v := fun ⟨o, h1, h2, h3, h4⟩ => ⟨o, h1.mono S, h2.mono S, h3, fun ts e => (h4 ts e).mono S⟩
section
variable {K : PySem.W.Frag} {CS : Addr} {fs : List Plc} {H H' : Hp} {v u : V} {q : Addr} {xs : List V} {ps : List Plc} {T : String}
theorem oddp_flat (p : Pl K H v T) (n : T ≠ "list") (s : SelfV K H v) : OddP K H v := ⟨none, .no p n, s, s, trivial⟩
theorem oddp_item (h : H q = some (.lst xs)) (l : xs.length < 60) (s : ∀ y ∈ xs, SelfV K H y) (mu : u ∈ xs) (hu : PlK K H u false) (k : ∀ y ∈ xs, ∃ b, PlK K H y b) : OddP K H (.ref q) := by
  classical
  refine ⟨some xs, .lst rfl h, ⟨by omega, s⟩, .ref q, l, .inl ⟨fun y => if y = u then false else if m : y ∈ xs then (k y m).choose else true, fun y m => ?_, ?_⟩⟩
  · by_cases e : y = u
    · subst e
      dsimp only
      rw [if_pos rfl]; exact hu
    · dsimp only
      rw [if_neg e, dif_pos m]
      exact (k y m).choose_spec
  · rw [Bool.eq_false_iff]
    intro z
    have := List.all_eq_true.mp z u mu
    rw [if_pos rfl] at this
    cases this
theorem oddp_dup (h : H q = some (.lst xs)) (l : xs.length < 60) (pl : Pls H xs ps) (n : ∀ p ∈ ps, NmP p) (d : ¬ ps.Nodup) : OddP K H (.ref q) :=
  ⟨some xs, .lst rfl h, ⟨by omega, fun y m => by obtain ⟨p, _, a, e, _⟩ := pl.mem m; rw [e]; exact .ref a⟩, .ref q, l, .inr ⟨ps, pl, n, d⟩⟩
theorem badc_flat (p : Pl K H v T) (n : T ≠ "list") (nn : v ≠ .non) (s : SelfV K H v) : BadC K CS fs H v := ⟨none, .no p n, s, nn, fun _ e => by cases e⟩
end
theorem rep_two {x : V} : (List.replicate (2 : Int).toNat [x]).flatten = [x, x] := rfl
section
variable {P : Program} {w : World} {K : PySem.W.Frag} {mg : Str → Option Value} {base : Heap} {CS CI CC CN : Addr}
def spParts : Sp := fun vs H Q _ => ∃ fa ys fs cl ts zs lp xs ps, vs = [.ref fa, .ref cl, .ref lp] ∧ H fa = some (.lst ys) ∧ Pls H ys fs ∧ (∀ p ∈ fs, NmP p) ∧ fs.Nodup ∧ fs.length ≤ 20 ∧ H cl = some (.lst ts) ∧ ChsAt H ts zs ∧ zs.length ≤ 12 ∧ H lp = some (.lst xs) ∧ Pls H xs ps ∧ (∀ p ∈ ps, NmP p) ∧ xs ≠ [] ∧ xs.length ≤ 20 ∧ ∀ H', Same H H' → Q (.bl true) H'
theorem ok__law_odd_parts (T : Txt K mg) (N : TxtN K mg) (I : TxtI K mg) (C : TxtC13 K mg) (S : TxtS13 K mg) (SC : StoryC K mg CS) (SM : StoryM K CS) (XS : ExcF K mg "InvalidStory" "value" CI) (L : TxtL13 K mg) : Cal P w K mg base 9 "_law_odd_parts" spParts := by
  refine L.d_parts.cal sc__law_odd_parts (fun vs H Q E h => ?_) (fun fn cdv A outer s H vs Q E hr h => ?_)
  · obtain ⟨fa, ys, fs, cl, ts, zs, lp, xs, ps, rfl, _⟩ := h
    rfl
  · obtain ⟨fa, ys, fs, cl, ts, zs, lp, xs, ps, rfl, hf, pf, nf, nd, lf, hc, cs, lz, hl, pl, nm, xne, lx, k⟩ := h
    refine ⟨_, (pss_cons (ps_set (i := 3) sc__law_odd_parts.nd rfl (.inl rfl) (pe_op op_rep (pe_slice sl_list (pe_op op_addU (pv 0) (pv 2)) po_none (po_some pe_int)) pe_int))
      (pss_cons (ps_set (i := 4) sc__law_odd_parts.nd rfl (.inl rfl) (pe_lst (pa_cons (pe_lst (pa_cons (pe_ix ix_seq (pv 2) pe_int (fun _ _ => rfl)) (pa_cons pe_dnewK pa_nil))) (pa_cons (pe_lst (pa_cons (pe_lst (pa_cons (pe_ix ix_seq (pe_ix ix_seq (pv 2) pe_int (fun _ _ => rfl)) pe_int (fun _ _ => rfl)) (pa_cons (pe_ix ix_seq (pe_ix ix_seq (pv 2) pe_int (fun _ _ => rfl)) pe_int (fun _ _ => rfl)) pa_nil))) pa_nil)) (pa_cons (pe_lst (pa_cons pe_dnewK pa_nil)) (pa_cons (pe_lst (pa_cons (pe_ix ix_seq (pv 2) pe_int (fun _ _ => rfl)) (pa_cons (pe_tup (pa_cons (pe_lst pa_nil) (pa_cons pe_str pa_nil))) pa_nil))) (pa_cons pe_dnewK (pa_cons pe_str pa_nil))))))))
      (pss_cons (ps_set (i := 4) sc__law_odd_parts.nd rfl (.inl rfl) (pe_op op_addU (pv 4) (pe_lc (own := [("_law_place", 6)]) (g := gName 6) (tt := tYes) (te := tLst (tCons (tVar 6) tNil)) rfl sc__law_odd_parts.nd (pi_list (pe_lst (pa_cons (pe_tup (pa_cons pe_str (pa_cons pe_str pa_nil))) (pa_cons (pe_tup (pa_cons pe_str (pa_cons pe_str pa_nil))) (pa_cons (pe_tup (pa_cons pe_str (pa_cons pe_str pa_nil))) (pa_cons (pe_tup (pa_cons pe_str (pa_cons pe_str (pa_cons pe_str pa_nil)))) (pa_cons (pe_tup (pa_cons pe_str pa_nil)) (pa_cons (pe_tup pa_nil) pa_nil)))))))) (blkOk_by (own := [("_law_place", 6)]) (N := ["_law_first", "_law_changes", "_law_places", "_law_twice", "_law_odd", "_law_value", "_law_place"]) (sc := defScope s__law_odd_parts) (by decide +kernel)) (fun _ _ _ _ _ => pg_name (i := 6) sc__law_odd_parts.nd rfl (Or.inl rfl)) (fun _ _ _ _ _ => pts_nil) (fun _ _ _ _ _ => by exact (pe_lst (pa_cons (pv 6) pa_nil))))))
      (C8.pss_cut (ps_for PassesOwn.never rfl (pi_list (pe_op op_addU (pv 4) (pe_lst (pa_cons (pe_op op_addU (pv 0) (pv 3)) (pa_cons (pe_callTy call_tupL (by rfl) T.n_tuple (by decide +kernel) (pa_cons (pv 0) pa_nil)) (pa_cons pe_non (pa_cons pe_int (pa_cons (pe_lst (pa_cons (pe_ix ix_seq (pe_ix ix_seq (pv 2) pe_int (fun _ _ => rfl)) pe_int (fun _ _ => rfl)) pa_nil)) (pa_cons (pe_lst (pa_cons pe_non pa_nil)) (pa_cons (pe_lst (pa_cons (pe_ix ix_seq (pv 2) pe_int (fun _ _ => rfl)) (pa_cons pe_non pa_nil))) pa_nil)))))))))) (pg_name (i := 5) sc__law_odd_parts.nd rfl (.inl rfl))
        (pss_one (ps_if (PW.pt (pw_or (pt_not (pt_val (pe_c (ok__law_refused T N I C S SC SM XS L) hr (by decide) rfl (pa_cons (pv 5) (pa_cons (pv 1) pa_nil))))) (pw_or (pt_not (pt_val (pe_c (ok__law_refused T N I C S SC SM XS L) hr (by decide) rfl (pa_cons (pv 5) (pa_cons pe_non pa_nil))))) (pw_or1 (pt_not (pt_val (pe_c (ok__law_refused_alone T N I C S SC SM XS L) hr (by decide) rfl (pa_cons (pv 5) pa_nil)))))))) (pss_one (ps_ret pe_bl)) pss_nil)))
      (C8.pss_cut (ps_for PassesOwn.never rfl (pi_list (pe_lst (pa_cons (pe_callTy call_tupL (by rfl) T.n_tuple (by decide +kernel) (pa_cons (pv 1) pa_nil)) (pa_cons pe_int (pa_cons pe_str (pa_cons pe_bl (pa_cons (pe_lst (pa_cons pe_non pa_nil)) (pa_cons pe_dnewK pa_nil)))))))) (pg_name (i := 5) sc__law_odd_parts.nd rfl (.inl rfl))
        (pss_one (ps_if (pt_not (pt_val (pe_c (ok__law_refused T N I C S SC SM XS L) hr (by decide) rfl (pa_cons (pv 0) (pa_cons (pv 5) pa_nil))))) (pss_one (ps_ret pe_bl)) pss_nil)))
      (pss_one (ps_ret pe_bl))))))), ?_⟩
    have ly : ys.length = fs.length := pf.len
    have lt : ts.length = zs.length := Paired.length cs
    obtain ⟨a, p, xs', ps', rfl, hpl, np, mp⟩ : ∃ a p xs' ps', xs = .ref a :: xs' ∧ H a = some (.tup [.str p.1, .str p.2]) ∧ NmP p ∧ ps = p :: ps' := by
      cases pl with
      | nil => exact absurd rfl xne
      | cons h _ =>
        obtain ⟨a, rfl, ha⟩ := h
        exact ⟨a, _, _, _, rfl, ha, nm _ List.mem_cons_self, rfl⟩
    have hp : PlAt H (.ref a) p := ⟨a, rfl, hpl⟩
    obtain ⟨x0, p0, e0, hpt, np0⟩ : ∃ x0 p0, (ys ++ .ref a :: xs').take 1 = [x0] ∧ PlAt H x0 p0 ∧ NmP p0 := by
      cases pf with
      | nil => exact ⟨.ref a, p, rfl, hp, np⟩
      | cons h _ => exact ⟨_, _, rfl, h, nf _ List.mem_cons_self⟩
    have nft : ∀ q ∈ fs ++ [p0, p0], NmP q := fun q m => by
      rcases List.mem_append.mp m with m | m
      · exact nf q m
      · rcases List.mem_cons.mp m with rfl | m
        · exact np0
        · rw [List.mem_singleton.mp m]; exact np0
    have ndt : ¬ (fs ++ [p0, p0]).Nodup := fun h => by
      rw [List.nodup_append] at h
      exact (List.nodup_cons.mp h.2.1).1 List.mem_cons_self
    k_extra "r_L13p"
    refine q_cat hf hl (sz (by simp at lx ⊢; omega)) fun z1 Z1 m1 V1 e1 => ?_
    k_extra "r_L13p"
    refine q_slL (SqL.of e1) fun z2 Z2 m2 V2 e2 => ?_
    rw [show (1 : Int) = ((1 : Nat) : Int) from rfl, cutV_take, e0] at e2
    refine ⟨z2, 2, [x0], rfl, rfl, e2, by decide, by decide, (by show 1 * 2 ≤ sizeLine; decide), fun z3 m3 => ?_⟩
    rw [rep_two]
    have U : Same H (upd Z2 z3 (.lst [x0, x0])) := V1.trans (V2.trans (Same.new m3))
    have htw : (upd Z2 z3 (.lst [x0, x0])) z3 = some (.lst [x0, x0]) := upd_same
    generalize (upd Z2 z3 (.lst [x0, x0])) = G0 at U htw ⊢
    clear e1 e2 m3 V1 V2 xne pl
    replace hl := U _ _ hl
    replace hpl := U _ _ hpl
    replace hf := U _ _ hf
    replace hc := U _ _ hc
    replace hp := hp.mono U
    replace pf := pf.mono U
    replace cs := cs.mono U
    replace hpt := hpt.mono U
    k_extra "r_L13p"
    refine q_ixL (SqL.of hl) (at_of (j := 0) rfl rfl) ?_
    k_extra "r_L13p"
    refine s_dnew fun t1 G1 n1 S1 h1 => ?_
    replace hl := S1 _ _ hl
    replace hpl := S1 _ _ hpl
    replace hf := S1 _ _ hf
    replace hc := S1 _ _ hc
    replace htw := S1 _ _ htw
    replace hp := hp.mono S1
    replace pf := pf.mono S1
    replace cs := cs.mono S1
    replace hpt := hpt.mono S1
    replace U := U.trans S1
    k_extra "r_L13p"
    refine q_newL (by show 2 ≤ sizeLine; decide) fun t2 G2 n2 S2 h2 => ?_
    replace hl := S2 _ _ hl
    replace hpl := S2 _ _ hpl
    replace hf := S2 _ _ hf
    replace hc := S2 _ _ hc
    replace htw := S2 _ _ htw
    replace h1 := S2 _ _ h1
    replace hp := hp.mono S2
    replace pf := pf.mono S2
    replace cs := cs.mono S2
    replace hpt := hpt.mono S2
    replace U := U.trans S2
    k_extra "r_L13p"
    refine q_ixL (SqL.of hl) (at_of (j := 0) rfl rfl) ?_
    k_extra "r_L13p"
    refine q_ixT (SqT.of hpl) (at_of (j := 0) rfl rfl) ?_
    k_extra "r_L13p"
    refine q_ixL (SqL.of hl) (at_of (j := 0) rfl rfl) ?_
    k_extra "r_L13p"
    refine q_ixT (SqT.of hpl) (at_of (j := 1) rfl rfl) ?_
    k_extra "r_L13p"
    refine q_newL (by show 2 ≤ sizeLine; decide) fun t3 G3 n3 S3 h3 => ?_
    replace hl := S3 _ _ hl
    replace hpl := S3 _ _ hpl
    replace hf := S3 _ _ hf
    replace hc := S3 _ _ hc
    replace htw := S3 _ _ htw
    replace h1 := S3 _ _ h1
    replace h2 := S3 _ _ h2
    replace hp := hp.mono S3
    replace pf := pf.mono S3
    replace cs := cs.mono S3
    replace hpt := hpt.mono S3
    replace U := U.trans S3
    k_extra "r_L13p"
    refine q_newL (by show 1 ≤ sizeLine; decide) fun t4 G4 n4 S4 h4 => ?_
    replace hl := S4 _ _ hl
    replace hpl := S4 _ _ hpl
    replace hf := S4 _ _ hf
    replace hc := S4 _ _ hc
    replace htw := S4 _ _ htw
    replace h1 := S4 _ _ h1
    replace h2 := S4 _ _ h2
    replace h3 := S4 _ _ h3
    replace hp := hp.mono S4
    replace pf := pf.mono S4
    replace cs := cs.mono S4
    replace hpt := hpt.mono S4
    replace U := U.trans S4
    k_extra "r_L13p"
    refine s_dnew fun t5 G5 n5 S5 h5 => ?_
    replace hl := S5 _ _ hl
    replace hpl := S5 _ _ hpl
    replace hf := S5 _ _ hf
    replace hc := S5 _ _ hc
    replace htw := S5 _ _ htw
    replace h1 := S5 _ _ h1
    replace h2 := S5 _ _ h2
    replace h3 := S5 _ _ h3
    replace h4 := S5 _ _ h4
    replace hp := hp.mono S5
    replace pf := pf.mono S5
    replace cs := cs.mono S5
    replace hpt := hpt.mono S5
    replace U := U.trans S5
    k_extra "r_L13p"
    refine q_newL (by show 1 ≤ sizeLine; decide) fun t6 G6 n6 S6 h6 => ?_
    replace hl := S6 _ _ hl
    replace hpl := S6 _ _ hpl
    replace hf := S6 _ _ hf
    replace hc := S6 _ _ hc
    replace htw := S6 _ _ htw
    replace h1 := S6 _ _ h1
    replace h2 := S6 _ _ h2
    replace h3 := S6 _ _ h3
    replace h4 := S6 _ _ h4
    replace h5 := S6 _ _ h5
    replace hp := hp.mono S6
    replace pf := pf.mono S6
    replace cs := cs.mono S6
    replace hpt := hpt.mono S6
    replace U := U.trans S6
    k_extra "r_L13p"
    refine q_ixL (SqL.of hl) (at_of (j := 0) rfl rfl) ?_
    k_extra "r_L13p"
    refine q_newL (by show 0 ≤ sizeLine; decide) fun t7 G7 n7 S7 h7 => ?_
    replace hl := S7 _ _ hl
    replace hpl := S7 _ _ hpl
    replace hf := S7 _ _ hf
    replace hc := S7 _ _ hc
    replace htw := S7 _ _ htw
    replace h1 := S7 _ _ h1
    replace h2 := S7 _ _ h2
    replace h3 := S7 _ _ h3
    replace h4 := S7 _ _ h4
    replace h5 := S7 _ _ h5
    replace h6 := S7 _ _ h6
    replace hp := hp.mono S7
    replace pf := pf.mono S7
    replace cs := cs.mono S7
    replace hpt := hpt.mono S7
    replace U := U.trans S7
    k_extra "r_L13p"
    refine q_newT (by show 2 ≤ sizeLine; decide) fun t8 G8 n8 S8 h8 => ?_
    replace hl := S8 _ _ hl
    replace hpl := S8 _ _ hpl
    replace hf := S8 _ _ hf
    replace hc := S8 _ _ hc
    replace htw := S8 _ _ htw
    replace h1 := S8 _ _ h1
    replace h2 := S8 _ _ h2
    replace h3 := S8 _ _ h3
    replace h4 := S8 _ _ h4
    replace h5 := S8 _ _ h5
    replace h6 := S8 _ _ h6
    replace h7 := S8 _ _ h7
    replace hp := hp.mono S8
    replace pf := pf.mono S8
    replace cs := cs.mono S8
    replace hpt := hpt.mono S8
    replace U := U.trans S8
    k_extra "r_L13p"
    refine q_newL (by show 2 ≤ sizeLine; decide) fun t9 G9 n9 S9 h9 => ?_
    replace hl := S9 _ _ hl
    replace hpl := S9 _ _ hpl
    replace hf := S9 _ _ hf
    replace hc := S9 _ _ hc
    replace htw := S9 _ _ htw
    replace h1 := S9 _ _ h1
    replace h2 := S9 _ _ h2
    replace h3 := S9 _ _ h3
    replace h4 := S9 _ _ h4
    replace h5 := S9 _ _ h5
    replace h6 := S9 _ _ h6
    replace h7 := S9 _ _ h7
    replace h8 := S9 _ _ h8
    replace hp := hp.mono S9
    replace pf := pf.mono S9
    replace cs := cs.mono S9
    replace hpt := hpt.mono S9
    replace U := U.trans S9
    k_extra "r_L13p"
    refine s_dnew fun t10 G10 n10 S10 h10 => ?_
    replace hl := S10 _ _ hl
    replace hpl := S10 _ _ hpl
    replace hf := S10 _ _ hf
    replace hc := S10 _ _ hc
    replace htw := S10 _ _ htw
    replace h1 := S10 _ _ h1
    replace h2 := S10 _ _ h2
    replace h3 := S10 _ _ h3
    replace h4 := S10 _ _ h4
    replace h5 := S10 _ _ h5
    replace h6 := S10 _ _ h6
    replace h7 := S10 _ _ h7
    replace h8 := S10 _ _ h8
    replace h9 := S10 _ _ h9
    replace hp := hp.mono S10
    replace pf := pf.mono S10
    replace cs := cs.mono S10
    replace hpt := hpt.mono S10
    replace U := U.trans S10
    have w1 : ∀ v ∈ [V.ref t2, .ref t4, .ref t6, .ref t9, .ref t10, .str ""], OddP K _ v := all_cons (oddp_item h2 (by simp) (all_cons (.ref _) (all_cons (.ref _) (all_nil))) (.tail _ (.head _)) (.no (Pl.dct h1) (by decide) (noTup_dct h1)) (all_cons (⟨_, hp.plk np⟩) (all_cons (⟨_, (.no (Pl.dct h1) (by decide) (noTup_dct h1))⟩) (all_nil)))) (all_cons (oddp_item h4 (by simp) (all_cons (.ref _) (all_nil)) (.head _) (.no (Pl.lst h3) (by decide) (noTup_lst h3)) (all_cons (⟨_, (.no (Pl.lst h3) (by decide) (noTup_lst h3))⟩) (all_nil))) (all_cons (oddp_item h6 (by simp) (all_cons (.ref _) (all_nil)) (.head _) (.no (Pl.dct h5) (by decide) (noTup_dct h5)) (all_cons (⟨_, (.no (Pl.dct h5) (by decide) (noTup_dct h5))⟩) (all_nil))) (all_cons (oddp_item h9 (by simp) (all_cons (.ref _) (all_cons (.ref _) (all_nil))) (.tail _ (.head _)) (plk_tup h8 (all_cons (na_ref (Pl.lst h7)) (all_cons (na_str (by decide)) all_nil)) ⟨_, .head _, nn_ref⟩) (all_cons (⟨_, hp.plk np⟩) (all_cons (⟨_, (plk_tup h8 (all_cons (na_ref (Pl.lst h7)) (all_cons (na_str (by decide)) all_nil)) ⟨_, .head _, nn_ref⟩)⟩) (all_nil)))) (all_cons (oddp_flat (Pl.dct h10) (by decide) (.ref _)) (all_cons (oddp_flat Pl.str (by decide) (.str (by decide +kernel))) (all_nil))))))
    k_extra "r_L13p"
    refine q_newL (by show 6 ≤ sizeLine; decide) fun t11 G11 n11 S11 h11 => ?_
    replace hl := S11 _ _ hl
    replace hpl := S11 _ _ hpl
    replace hf := S11 _ _ hf
    replace hc := S11 _ _ hc
    replace htw := S11 _ _ htw
    replace h1 := S11 _ _ h1
    replace h2 := S11 _ _ h2
    replace h3 := S11 _ _ h3
    replace h4 := S11 _ _ h4
    replace h5 := S11 _ _ h5
    replace h6 := S11 _ _ h6
    replace h7 := S11 _ _ h7
    replace h8 := S11 _ _ h8
    replace h9 := S11 _ _ h9
    replace h10 := S11 _ _ h10
    replace hp := hp.mono S11
    replace pf := pf.mono S11
    replace cs := cs.mono S11
    replace hpt := hpt.mono S11
    replace U := U.trans S11
    replace w1 := fun v m => (w1 v m).mono S11
    have hod := h11
    k_extra "r_L13p"
    refine s_lc ?_
    k_extra "r_L13p"
    k_extra "r_L13p"
    refine q_newT (by show 2 ≤ sizeLine; decide) fun t12 G12 n12 S12 h12 => ?_
    replace hl := S12 _ _ hl
    replace hpl := S12 _ _ hpl
    replace hf := S12 _ _ hf
    replace hc := S12 _ _ hc
    replace htw := S12 _ _ htw
    replace hod := S12 _ _ hod
    replace hp := hp.mono S12
    replace pf := pf.mono S12
    replace cs := cs.mono S12
    replace hpt := hpt.mono S12
    replace U := U.trans S12
    k_extra "r_L13p"
    refine q_newT (by show 2 ≤ sizeLine; decide) fun t13 G13 n13 S13 h13 => ?_
    replace hl := S13 _ _ hl
    replace hpl := S13 _ _ hpl
    replace hf := S13 _ _ hf
    replace hc := S13 _ _ hc
    replace htw := S13 _ _ htw
    replace hod := S13 _ _ hod
    replace h12 := S13 _ _ h12
    replace hp := hp.mono S13
    replace pf := pf.mono S13
    replace cs := cs.mono S13
    replace hpt := hpt.mono S13
    replace U := U.trans S13
    k_extra "r_L13p"
    refine q_newT (by show 2 ≤ sizeLine; decide) fun t14 G14 n14 S14 h14 => ?_
    replace hl := S14 _ _ hl
    replace hpl := S14 _ _ hpl
    replace hf := S14 _ _ hf
    replace hc := S14 _ _ hc
    replace htw := S14 _ _ htw
    replace hod := S14 _ _ hod
    replace h12 := S14 _ _ h12
    replace h13 := S14 _ _ h13
    replace hp := hp.mono S14
    replace pf := pf.mono S14
    replace cs := cs.mono S14
    replace hpt := hpt.mono S14
    replace U := U.trans S14
    k_extra "r_L13p"
    refine q_newT (by show 3 ≤ sizeLine; decide) fun t15 G15 n15 S15 h15 => ?_
    replace hl := S15 _ _ hl
    replace hpl := S15 _ _ hpl
    replace hf := S15 _ _ hf
    replace hc := S15 _ _ hc
    replace htw := S15 _ _ htw
    replace hod := S15 _ _ hod
    replace h12 := S15 _ _ h12
    replace h13 := S15 _ _ h13
    replace h14 := S15 _ _ h14
    replace hp := hp.mono S15
    replace pf := pf.mono S15
    replace cs := cs.mono S15
    replace hpt := hpt.mono S15
    replace U := U.trans S15
    k_extra "r_L13p"
    refine q_newT (by show 1 ≤ sizeLine; decide) fun t16 G16 n16 S16 h16 => ?_
    replace hl := S16 _ _ hl
    replace hpl := S16 _ _ hpl
    replace hf := S16 _ _ hf
    replace hc := S16 _ _ hc
    replace htw := S16 _ _ htw
    replace hod := S16 _ _ hod
    replace h12 := S16 _ _ h12
    replace h13 := S16 _ _ h13
    replace h14 := S16 _ _ h14
    replace h15 := S16 _ _ h15
    replace hp := hp.mono S16
    replace pf := pf.mono S16
    replace cs := cs.mono S16
    replace hpt := hpt.mono S16
    replace U := U.trans S16
    k_extra "r_L13p"
    refine q_newT (by show 0 ≤ sizeLine; decide) fun t17 G17 n17 S17 h17 => ?_
    replace hl := S17 _ _ hl
    replace hpl := S17 _ _ hpl
    replace hf := S17 _ _ hf
    replace hc := S17 _ _ hc
    replace htw := S17 _ _ htw
    replace hod := S17 _ _ hod
    replace h12 := S17 _ _ h12
    replace h13 := S17 _ _ h13
    replace h14 := S17 _ _ h14
    replace h15 := S17 _ _ h15
    replace h16 := S17 _ _ h16
    replace hp := hp.mono S17
    replace pf := pf.mono S17
    replace cs := cs.mono S17
    replace hpt := hpt.mono S17
    replace U := U.trans S17
    replace w1 := fun v m => (w1 v m).mono (S12.trans (S13.trans (S14.trans (S15.trans (S16.trans S17)))))
    have w2 : ∀ v ∈ [V.ref t12, .ref t13, .ref t14, .ref t15, .ref t16, .ref t17], PlK K _ v false := all_cons (plk_bad h12 (by decide) (by decide) (fun z => nn_A z.1)) (all_cons (plk_bad h13 (by decide) (by decide) (fun z => nn_empty z.2)) (all_cons (plk_bad h14 (by decide) (by decide) (fun z => absurd z.2.2.1 (by decide +kernel))) (all_cons (plk_len h15 (all_cons (na_str (by decide)) (all_cons (na_str (by decide)) (all_cons (na_str (by decide)) all_nil))) (by simp)) (all_cons (plk_len h16 (all_cons (na_str (by decide)) all_nil) (by simp)) (all_cons (plk_len h17 all_nil (by simp)) (all_nil))))))
    k_extra "r_L13p"
    refine q_newL (by show 6 ≤ sizeLine; decide) fun t18 G18 n18 S18 h18 => ?_
    replace hl := S18 _ _ hl
    replace hpl := S18 _ _ hpl
    replace hf := S18 _ _ hf
    replace hc := S18 _ _ hc
    replace htw := S18 _ _ htw
    replace hod := S18 _ _ hod
    replace h12 := S18 _ _ h12
    replace h13 := S18 _ _ h13
    replace h14 := S18 _ _ h14
    replace h15 := S18 _ _ h15
    replace h16 := S18 _ _ h16
    replace h17 := S18 _ _ h17
    replace hp := hp.mono S18
    replace pf := pf.mono S18
    replace cs := cs.mono S18
    replace hpt := hpt.mono S18
    replace U := U.trans S18
    replace w2 := fun v m => (w2 v m).mono S18
    replace w1 := fun v m => (w1 v m).mono S18
    k_extra "r_L13p"
    have SU := U
    refine ⟨t18, rfl, ⟨_, SqL.of h18⟩, fun D nD => lc_list (K := K) (a := t18) (xs := [V.ref t12, .ref t13, .ref t14, .ref t15, .ref t16, .ref t17]) (fun i H' => BL (OddP K) i G18 H' D) (BL.new nD) (fun i H' _ b => SqL.of (b.same _ _ h18)) ?_ ?_⟩
    · rintro i v K0 hv b
      have li : i < 6 := (List.getElem?_eq_some_iff.mp hv).1
      have pv := w2 v (List.mem_of_getElem? hv)
      have rv : ∃ a, v = .ref a := by
        have := List.mem_of_getElem? hv
        simp only [List.mem_cons, List.not_mem_nil, or_false] at this
        rcases this with rfl | rfl | rfl | rfl | rfl | rfl <;> exact ⟨_, rfl⟩
      obtain ⟨av, rfl⟩ := rv
      k_extra "r_L13p"
      refine ⟨rfl, ?_⟩
      k_extra "r_L13p"
      refine q_newL (by show 1 ≤ sizeLine; decide) fun t K1 m1 Z1 e1 => ?_
      have b1 := BL.step0 (B := OddP K) OddP.mono Z1 b
      obtain ⟨_, W1, vs, hv1, _, lv⟩ := id b1
      have td : t ≠ D := fun z => by obtain ⟨_, _, _, h, _⟩ := b; rw [← z, m1] at h; cases h
      refine ⟨_, hv1, szlt (by omega), b1.put hv1 ?_⟩
      exact oddp_item ((wo_get td).trans e1) (by simp) (all_cons (.ref _) all_nil) (.head _) (pv.mono W1) (all_cons ⟨_, pv.mono W1⟩ all_nil)
    intro K0 b
    have V0 := b.same
    obtain ⟨_, _, us, hus, kus, lus⟩ := id b
    replace kus : ∀ v ∈ us, OddP K K0 v := fun v m => OddP.mono wo_sub (kus v m)
    replace hl := V0 _ _ hl
    replace hpl := V0 _ _ hpl
    replace hf := V0 _ _ hf
    replace hc := V0 _ _ hc
    replace htw := V0 _ _ htw
    replace hp := hp.mono V0
    replace pf := pf.mono V0
    replace cs := cs.mono V0
    replace hpt := hpt.mono V0
    replace w1 := fun v m => (w1 v m).mono V0
    replace hod := V0 _ _ hod
    replace U := U.trans V0
    refine q_cat hod hus (sz (by simp at lus ⊢; omega)) fun D2 G2z n2z S2z h2z => ?_
    replace hl := S2z _ _ hl
    replace hpl := S2z _ _ hpl
    replace hf := S2z _ _ hf
    replace hc := S2z _ _ hc
    replace htw := S2z _ _ htw
    replace hp := hp.mono S2z
    replace pf := pf.mono S2z
    replace cs := cs.mono S2z
    replace hpt := hpt.mono S2z
    replace U := U.trans S2z
    obtain ⟨os, eos⟩ : ∃ os, os = ([V.ref t2, .ref t4, .ref t6, .ref t9, .ref t10, .str ""] : List V) ++ us := ⟨_, rfl⟩
    have wos : ∀ v ∈ os, OddP K G2z v := by
      rw [eos]
      exact fun v m => (List.mem_append.mp m).elim (fun m => (w1 v m).mono S2z) fun m => (kus v m).mono S2z
    have los : os.length ≤ 12 := by
      rw [eos, List.length_append]
      simp at lus ⊢
      omega
    rw [← eos] at h2z
    clear eos w1 kus hod hus b w2
    have SU := U
    have selfts : ∀ {H' : Hp}, ∀ y ∈ ts, SelfV K H' y := fun {H'} y m => by
      obtain ⟨i, e⟩ := List.getElem?_of_mem m
      obtain ⟨z, _, hz⟩ := Paired.get cs e
      obtain ⟨t, rfl⟩ := hz.isRef
      exact .ref t
    have selfys : ∀ {H' : Hp}, ∀ y ∈ ys, SelfV K H' y := fun {H'} y m => by
      obtain ⟨_, _, a, e, _⟩ := pf.mem m
      rw [e]
      exact .ref a
    refine q_cut8 (M := fun σ H' => ∃ v5, σ = [some (.ref fa), some (.ref cl), some (.ref lp), some (.ref z3), some (.ref D2), v5, none] ∧ Same G2z H') ?_ ?_
    · have hod := h2z
      clear U
      have U := Same.refl G2z
      k_extra "r_L13p"
      refine q_cat hf htw (sz (by simp; omega)) fun t29 G29 n29 S29 h29 => ?_
      replace hl := S29 _ _ hl
      replace hpl := S29 _ _ hpl
      replace hf := S29 _ _ hf
      replace hc := S29 _ _ hc
      replace htw := S29 _ _ htw
      replace hod := S29 _ _ hod
      replace hp := hp.mono S29
      replace pf := pf.mono S29
      replace cs := cs.mono S29
      replace hpt := hpt.mono S29
      replace U := U.trans S29
      k_extra "r_L13p"
      refine q_tupL (SqL.of hf) fun t30 G30 n30 S30 h30 => ?_
      replace hl := S30 _ _ hl
      replace hpl := S30 _ _ hpl
      replace hf := S30 _ _ hf
      replace hc := S30 _ _ hc
      replace htw := S30 _ _ htw
      replace hod := S30 _ _ hod
      replace h29 := S30 _ _ h29
      replace hp := hp.mono S30
      replace pf := pf.mono S30
      replace cs := cs.mono S30
      replace hpt := hpt.mono S30
      replace U := U.trans S30
      k_extra "r_L13p"
      refine q_ixL (SqL.of hl) (at_of (j := 0) rfl rfl) ?_
      k_extra "r_L13p"
      refine q_ixT (SqT.of hpl) (at_of (j := 1) rfl rfl) ?_
      k_extra "r_L13p"
      refine q_newL (by show 1 ≤ sizeLine; decide) fun t31 G31 n31 S31 h31 => ?_
      replace hl := S31 _ _ hl
      replace hpl := S31 _ _ hpl
      replace hf := S31 _ _ hf
      replace hc := S31 _ _ hc
      replace htw := S31 _ _ htw
      replace hod := S31 _ _ hod
      replace h29 := S31 _ _ h29
      replace h30 := S31 _ _ h30
      replace hp := hp.mono S31
      replace pf := pf.mono S31
      replace cs := cs.mono S31
      replace hpt := hpt.mono S31
      replace U := U.trans S31
      k_extra "r_L13p"
      refine q_newL (by show 1 ≤ sizeLine; decide) fun t32 G32 n32 S32 h32 => ?_
      replace hl := S32 _ _ hl
      replace hpl := S32 _ _ hpl
      replace hf := S32 _ _ hf
      replace hc := S32 _ _ hc
      replace htw := S32 _ _ htw
      replace hod := S32 _ _ hod
      replace h29 := S32 _ _ h29
      replace h30 := S32 _ _ h30
      replace h31 := S32 _ _ h31
      replace hp := hp.mono S32
      replace pf := pf.mono S32
      replace cs := cs.mono S32
      replace hpt := hpt.mono S32
      replace U := U.trans S32
      k_extra "r_L13p"
      refine q_ixL (SqL.of hl) (at_of (j := 0) rfl rfl) ?_
      k_extra "r_L13p"
      refine q_newL (by show 2 ≤ sizeLine; decide) fun t33 G33 n33 S33 h33 => ?_
      replace hl := S33 _ _ hl
      replace hpl := S33 _ _ hpl
      replace hf := S33 _ _ hf
      replace hc := S33 _ _ hc
      replace htw := S33 _ _ htw
      replace hod := S33 _ _ hod
      replace h29 := S33 _ _ h29
      replace h30 := S33 _ _ h30
      replace h31 := S33 _ _ h31
      replace h32 := S33 _ _ h32
      replace hp := hp.mono S33
      replace pf := pf.mono S33
      replace cs := cs.mono S33
      replace hpt := hpt.mono S33
      replace U := U.trans S33
      have w3 : ∀ v ∈ [V.ref t29, .ref t30, .non, .int 0, .ref t31, .ref t32, .ref t33], OddP K _ v := all_cons (oddp_dup h29 (by simp; omega) (pf.app (.cons hpt (.cons hpt .nil))) nft ndt) (all_cons (oddp_flat (Pl.tup h30) (by decide) (.ref _)) (all_cons (oddp_flat Pl.non (by decide) .non) (all_cons (oddp_flat Pl.int (by decide) .int) (all_cons (oddp_item h31 (by simp) (all_cons (.str np.2.asc.ok) (all_nil)) (.head _) (plk_flat Pl.str (by decide) (fun a z => by cases z)) (all_cons (⟨_, (plk_flat Pl.str (by decide) (fun a z => by cases z))⟩) (all_nil))) (all_cons (oddp_item h32 (by simp) (all_cons (.non) (all_nil)) (.head _) (plk_flat Pl.non (by decide) (fun a z => by cases z)) (all_cons (⟨_, (plk_flat Pl.non (by decide) (fun a z => by cases z))⟩) (all_nil))) (all_cons (oddp_item h33 (by simp) (all_cons (.ref _) (all_cons (.non) (all_nil))) (.tail _ (.head _)) (plk_flat Pl.non (by decide) (fun a z => by cases z)) (all_cons (⟨_, hp.plk np⟩) (all_cons (⟨_, (plk_flat Pl.non (by decide) (fun a z => by cases z))⟩) (all_nil)))) (all_nil)))))))
      k_extra "r_L13p"
      refine q_newL (by show 7 ≤ sizeLine; decide) fun t34 G34 n34 S34 h34 => ?_
      replace hl := S34 _ _ hl
      replace hpl := S34 _ _ hpl
      replace hf := S34 _ _ hf
      replace hc := S34 _ _ hc
      replace htw := S34 _ _ htw
      replace hod := S34 _ _ hod
      replace h29 := S34 _ _ h29
      replace h30 := S34 _ _ h30
      replace h31 := S34 _ _ h31
      replace h32 := S34 _ _ h32
      replace h33 := S34 _ _ h33
      replace hp := hp.mono S34
      replace pf := pf.mono S34
      replace cs := cs.mono S34
      replace hpt := hpt.mono S34
      replace U := U.trans S34
      refine q_cat hod h34 (sz (by simp; omega)) fun t35 G35 n35 S35 h35 => ?_
      replace hl := S35 _ _ hl
      replace hpl := S35 _ _ hpl
      replace hf := S35 _ _ hf
      replace hc := S35 _ _ hc
      replace htw := S35 _ _ htw
      replace hod := S35 _ _ hod
      replace h29 := S35 _ _ h29
      replace h30 := S35 _ _ h30
      replace h31 := S35 _ _ h31
      replace h32 := S35 _ _ h32
      replace h33 := S35 _ _ h33
      replace h34 := S35 _ _ h34
      replace hp := hp.mono S35
      replace pf := pf.mono S35
      replace cs := cs.mono S35
      replace hpt := hpt.mono S35
      replace U := U.trans S35
      replace w3 := fun v m => (w3 v m).mono (S34.trans S35)
      have wA : ∀ v ∈ os ++ [V.ref t29, .ref t30, .non, .int 0, .ref t31, .ref t32, .ref t33], OddP K _ v := fun v m => (List.mem_append.mp m).elim (fun m => (wos v m).mono U) (w3 v)
      refine ⟨t35, rfl, ⟨_, SqL.of h35⟩, q_forL (K := K) (a := t35) (fun i σ H' => ∃ v5, σ = [some (.ref fa), some (.ref cl), some (.ref lp), some (.ref z3), some (.ref D2), v5, none] ∧ Same G35 H') ⟨_, rfl, Same.refl _⟩ (fun i σ H' _ ⟨_, _, S⟩ => SqL.of (S _ _ h35)) ?_ ?_⟩
      · rintro i v σ K0 hv ⟨v5, rfl, W⟩
        obtain ⟨o, vw, sa, sv, fb⟩ := (wA v (List.mem_of_getElem? hv)).mono W
        k_extra "r_L13p"
        refine ⟨v, .ref cl, o, some ts, rfl, vw, .lst rfl (W _ _ hc), sa, ⟨by omega, selfts⟩, .inr ⟨(fun z => by cases z), .inl fb⟩, fun K1 W1 => ?_⟩
        k_extra "r_L13p"
        refine s_if0 rfl ?_
        k_extra "r_L13p"
        refine ⟨v, .non, o, none, rfl, vw.mono W1, .no Pl.non (by decide), sa.mono W1, .non, .inl ⟨rfl, fb.mono W1⟩, fun K2 W2 => ?_⟩
        have W12 := W1.trans W2
        k_extra "r_L13p"
        refine s_if0 rfl ?_
        k_extra "r_L13p"
        refine ⟨v, o, rfl, vw.mono W12, sv.mono W12, fb.mono W12, fun K3 W3 => ?_⟩
        k_extra "r_L13p"
        refine s_if0 rfl ?_
        k_extra "r_L13p"
        exact ⟨_, rfl, W.trans (W12.trans W3)⟩
      · rintro σ K0 ⟨v5, rfl, W⟩
        k_extra "r_L13p"
        exact ⟨_, rfl, U.trans W⟩
    rintro σ G0' ⟨v5, rfl, W0⟩
    replace hl := W0 _ _ hl
    replace hpl := W0 _ _ hpl
    replace hf := W0 _ _ hf
    replace hc := W0 _ _ hc
    replace hp := hp.mono W0
    replace pf := pf.mono W0
    replace cs := cs.mono W0
    replace SU := SU.trans W0
    clear h2z wos U selfts
    have selfys : ∀ {H' : Hp}, ∀ y ∈ ys, SelfV K H' y := fun {H'} y m => by
      obtain ⟨_, _, a, e, _⟩ := pf.mem m
      rw [e]
      exact .ref a
    refine q_cut8 (M := fun σ H' => ∃ v5, σ = [some (.ref fa), some (.ref cl), some (.ref lp), some (.ref z3), some (.ref D2), v5, none] ∧ Same G0' H') ?_ ?_
    · have U := Same.refl G0'
      k_extra "r_L13p"
      refine q_tupL (SqL.of hc) fun t1 G1 n1 S1 h1 => ?_
      replace hl := S1 _ _ hl
      replace hpl := S1 _ _ hpl
      replace hf := S1 _ _ hf
      replace hc := S1 _ _ hc
      replace hp := hp.mono S1
      replace pf := pf.mono S1
      replace cs := cs.mono S1
      replace U := U.trans S1
      k_extra "r_L13p"
      refine q_newL (by show 1 ≤ sizeLine; decide) fun t2 G2 n2 S2 h2 => ?_
      replace hl := S2 _ _ hl
      replace hpl := S2 _ _ hpl
      replace hf := S2 _ _ hf
      replace hc := S2 _ _ hc
      replace h1 := S2 _ _ h1
      replace hp := hp.mono S2
      replace pf := pf.mono S2
      replace cs := cs.mono S2
      replace U := U.trans S2
      k_extra "r_L13p"
      refine s_dnew fun t3 G3 n3 S3 h3 => ?_
      replace hl := S3 _ _ hl
      replace hpl := S3 _ _ hpl
      replace hf := S3 _ _ hf
      replace hc := S3 _ _ hc
      replace h1 := S3 _ _ h1
      replace h2 := S3 _ _ h2
      replace hp := hp.mono S3
      replace pf := pf.mono S3
      replace cs := cs.mono S3
      replace U := U.trans S3
      have w4 : ∀ v ∈ [V.ref t1, .int 0, .str "", .bl true, .ref t2, .ref t3], BadC K CS fs _ v := all_cons (badc_flat (Pl.tup h1) (by decide) (fun z => by cases z) (.ref _)) (all_cons (badc_flat Pl.int (by decide) (fun z => by cases z) .int) (all_cons (badc_flat Pl.str (by decide) (fun z => by cases z) (.str (by decide +kernel))) (all_cons (badc_flat Pl.bl (by decide) (fun z => by cases z) .bl) (all_cons (⟨_, .lst rfl h2, ⟨by simp, all_cons .non all_nil⟩, (fun z => by cases z), fun us e => by cases e; exact .bad (.no (.no Pl.non (by decide)))⟩) (all_cons (badc_flat (Pl.dct h3) (by decide) (fun z => by cases z) (.ref _)) (all_nil))))))
      k_extra "r_L13p"
      refine q_newL (by show 6 ≤ sizeLine; decide) fun t4 G4 n4 S4 h4 => ?_
      replace hl := S4 _ _ hl
      replace hpl := S4 _ _ hpl
      replace hf := S4 _ _ hf
      replace hc := S4 _ _ hc
      replace h1 := S4 _ _ h1
      replace h2 := S4 _ _ h2
      replace h3 := S4 _ _ h3
      replace hp := hp.mono S4
      replace pf := pf.mono S4
      replace cs := cs.mono S4
      replace U := U.trans S4
      replace w4 := fun v m => (w4 v m).mono S4
      refine ⟨t4, rfl, ⟨_, SqL.of h4⟩, q_forL (K := K) (a := t4) (xs := [V.ref t1, .int 0, .str "", .bl true, .ref t2, .ref t3]) (fun i σ H' => ∃ v5, σ = [some (.ref fa), some (.ref cl), some (.ref lp), some (.ref z3), some (.ref D2), v5, none] ∧ Same G4 H') ⟨_, rfl, Same.refl _⟩ (fun i σ H' _ ⟨_, _, S⟩ => SqL.of (S _ _ h4)) ?_ ?_⟩
      · rintro i v σ K0 hv ⟨v5, rfl, W⟩
        obtain ⟨o, vw, sa, nn, rk⟩ := (w4 v (List.mem_of_getElem? hv)).mono W
        k_extra "r_L13p"
        refine ⟨.ref fa, v, some ys, o, rfl, .lst rfl (W _ _ hf), vw, ⟨by omega, selfys⟩, sa, .inr ⟨nn, .inr ⟨fs, ⟨ys, rfl, by omega, pf.mono W, nf, nd⟩, rk⟩⟩, fun K1 W1 => ?_⟩
        k_extra "r_L13p"
        refine s_if0 rfl ?_
        k_extra "r_L13p"
        exact ⟨_, rfl, W.trans W1⟩
      · rintro σ K0 ⟨v5, rfl, W⟩
        k_extra "r_L13p"
        exact ⟨_, rfl, U.trans W⟩
    rintro σ G9' ⟨v5, rfl, W9⟩
    k_extra "r_L13p"
    exact k _ (SU.trans W9)
end
end Bt
namespace Bt
open PySem PySem.Spec PyProof.Rows L2 LamX NdefX
open PySem.W (dataLt dataLe alike AllAlike Sortable)
theorem words143_ : True := by
  k_with "s_LL13" => first
    | ((with_reducible refine' s_var ?hv ?_); (case hv => exact rfl))
    | with_reducible first
      | refine' s_c ?_ | refine' s_op ?_ | refine' s_asg ?_ | refine' s_gname ?_ | refine' s_seq ?_ | refine' s_next ?_ | refine' s_ret ?_ | refine' s_ifS ?_ | refine' s_drop ?_ | refine' s_retN ?_ | refine' s_test ?_ | refine' s_B ?_ | refine' q_test ?_ | refine' s_int ?_ | refine' s_cons ?_ | refine' s_nil ?_ | refine' s_call ?_ | refine' s_CB ?_ | refine' s_andT ?_ | refine' s_orT ?_ | refine' s_notT ?_ | refine' s_andV ?_ | refine' s_orV ?_ | refine' s_notV ?_ | refine' s_ifV ?_ | refine' s_chain ?_ | refine' s_sl ?_ | refine' s_noPart ?_ | refine' s_part ?_ | refine' s_gsub ?_ | refine' s_BM ?_ | refine' s_tup ?_ | refine' s_lst ?_ | refine' q_add ?_ | refine' q_sub ?_ | refine' q_lt ?_ | refine' q_le ?_ | refine' q_gt ?_ | refine' q_ge ?_ | refine' s_ifT ?_ | refine' s_ifF ?_ | refine' s_yes ?_ | refine' s_iStr ?_ | refine' s_M0 ?_ | refine' s_for ?_ | refine' s_rng1 ?_ | refine' s_par ?_ | refine' s_gcons ?_ | refine' s_gnil ?_ | refine' s_iList ?_ | refine' s_iEnum ?_ | refine' s_raise1 ?_
      | (refine' q_mod ?hm ?_; (case hm => first | omega | decide))
    | dsimp only
  k_with "r_LL13" => repeat (k_extra "s_LL13")
  trivial
/-! ### the law -/
theorem wo_none {D b : Addr} {H : Hp} (h : H b = none) : wo D H b = none := by
  unfold wo
  split
  · rfl
  · exact h
theorem wo_self {D : Addr} {H : Hp} : wo D H D = none := if_pos rfl
theorem MayK.perm {K : PySem.W.Frag} {CS : Addr} {H : Hp} {x : V} {g : Int} {st st' : List Plc} {b : Bool} (p : st.Perm st') (h : MayK K CS H x g st b) : MayK K CS H x g st' b := by
  cases h with
  | no h => exact .no h
  | @yes z h g0 n =>
    have e : canB st z.2 = canB st' z.2 := by
      rw [Bool.eq_iff_iff, canB_iff, canB_iff]
      exact ⟨fun c => c.perm p, fun c => c.perm p.symm⟩
    rw [e]
    exact .yes h g0 n
theorem cutV_mem {xs : List V} {lo hi : Option Int} {x : V} (h : x ∈ cutV xs lo hi) : x ∈ xs := by
  unfold cutV at h
  first | exact List.mem_of_mem_drop (List.mem_of_mem_take h) | exact List.mem_of_mem_take (List.mem_of_mem_drop h)
theorem cutV_le {xs : List V} {lo hi : Option Int} : (cutV xs lo hi).length ≤ xs.length := by
  unfold cutV
  simp only [List.length_take, List.length_drop]
  omega
theorem ten39' : (0 : Int) < (10 : Int) ^ (39 : Int).toNat := ten39
section
variable {P : Program} {w : World} {K : PySem.W.Frag} {mg : Str → Option Value} {base : Heap} {CS CI CC CN : Addr}
def spLaw (K : PySem.W.Frag) : Sp := fun vs H Q _ => ∃ (a : Addr) (ns : List Int), vs = [.ref a] ∧ SqL K H a (ns.map V.int) ∧ ns.length ≤ 63 ∧ ∀ H', Q (.bl true) H'
theorem ok_law {f : Addr} {fd : FuncData} (X0 : Txt K mg) (L0 : TxtL K mg) (NN : TxtN K mg) (I : TxtI K mg) (BW : TxtB K mg) (C : TxtC13 K mg) (S : TxtS13 K mg) (SC : StoryC K mg CS) (SM : StoryM K CS) (L : TxtL13 K mg) (XS : ExcF K mg "InvalidStory" "value" CI) (XC : ExcF K mg "InvalidChange" "value" CC) (XN : ExcF K mg "InvalidNumber" "value" CN)
    (F : Fun K "law" "law" s_law f fd) : FnOk P w K mg base CX0 10 f fd ["_law_script"] (spLaw K) := by
  obtain ⟨fe, fde, e1, e2, Fe, be⟩ := SM.eq
  refine F.ok sc_law (fun vs H Q E h => ?_) (fun cdv A outer s H vs Q E hr h => ?_)
  · obtain ⟨a, ns, rfl, _⟩ := h
    rfl
  · obtain ⟨a, ns, rfl, hs, h63, k⟩ := h
    have hu := hr.units
    refine ⟨_, (pss_cons (ps_for PassesOwn.never rfl (pi_range1 rfl L0.n_range (pa_cons pe_int pa_nil)) (pg_name (i := 1) sc_law.nd rfl (.inl rfl))
        (pss_cons (ps_set (i := 2) sc_law.nd rfl (.inr rfl) (pe_c (ok__law_purse X0 L0) hr (by decide) rfl (pa_cons (pv 0) (pa_cons (pv 1) pa_nil))))
          (pss_cons (ps_set (i := 3) sc_law.nd rfl (.inl rfl) (pe_c (ok__law_world L0 NN BW) hr (by decide) rfl (pa_cons (pv 2) pa_nil)))
          (C8.pss_cut (ps_set (i := 4) sc_law.nd rfl (.inr rfl) (pe_lc (own := [("_law_place", 17)]) (g := gName 17) (tt := tTest (tOp (rEqU K) (tCall spDraw [] E0 (tCons (tVar 2) (tCons (tC (.int 2)) tNil))) (tC (.int 0)))) (te := tVar 17) rfl sc_law.nd (pi_list (pv 3)) (blkOk_by (own := [("_law_place", 17)]) (N := ["_law_script", "_law_at", "_law_purse_here", "_law_places", "_law_first", "_law_changes", "_law_handed", "_law_given", "_law_story", "_law_slow", "_law_told", "_law_there", "_law_gap", "_law_k", "_law_change_here", "_law_bad", "_law_fresh_here", "_law_place", "_law_one"]) (sc := defScope s_law) (by decide +kernel)) (fun _ _ _ _ _ => pg_name (i := 17) sc_law.nd rfl (Or.inl rfl)) (fun _ _ _ _ _ => by exact pts_one (pt_cmpR (op_eqU hu) (pe_c (ok__law_draw L0) hr (by decide) rfl (pa_cons (pv 2) (pa_cons pe_int pa_nil))) pe_int (by rfl))) (fun _ _ _ _ _ => (pv 17))))
          (pss_cons (ps_set (i := 5) sc_law.nd rfl (.inr rfl) (pe_c (ok__law_course L0 NN L) hr (by decide) rfl (pa_cons (pv 2) (pa_cons (pv 3) (pa_cons (pv 4) pa_nil)))))
          (pss_cons (ps_par (i := 6) (j := 7) (by rfl) sc_law.nd rfl rfl (by decide) rfl rfl (pa_cons (pe_callTy call_listOf (by rfl) X0.n_list (by decide +kernel) (pa_cons (pv 4) pa_nil)) (pa_cons (pe_callTy call_listOf (by rfl) X0.n_list (by decide +kernel) (pa_cons (pv 5) pa_nil)) pa_nil)) (by rfl))
          (C8.pss_cut (ps_asg (pe_tup (pa_cons (pe_story2 X0 NN I C S SC SM XS hr (by decide) (pv 6) (pv 7)) (pa_cons (pe_story1 X0 NN I C S SC SM XS hr (by decide) (pe_revL (pv 4))) pa_nil))) (pg_tup (by rfl) (pgs_cons (pg_name (i := 8) sc_law.nd rfl (.inl rfl)) (pgs_cons (pg_name (i := 9) sc_law.nd rfl (.inr rfl)) pgs_nil))))
          (pss_cons (ps_if (PW.pt (pw_or (pt_cmpR (op_neU hu) (pv 6) (pv 4) (by rfl)) (pw_or1 (pt_cmpR (op_neU hu) (pv 7) (pv 5) (by rfl))))) (pss_one (ps_ret pe_bl)) pss_nil)
          (pss_cons (ps_expr (pe_bm PySem.F.plainAttrs_list PySem.F.slot_list_append PySem.F.type_list_append mt_append (pv 6) (pa_cons pe_int pa_nil)))
          (pss_cons (ps_expr (pe_bm PySem.F.plainAttrs_list PySem.F.slot_list_append PySem.F.type_list_append mt_append (pv 7) (pa_cons pe_int pa_nil)))
          (pss_cons (ps_set (i := 10) sc_law.nd rfl (.inl rfl) (pe_first X0 SC SM hr (by decide) (pv 8)))
          (pss_cons (ps_expr (pe_bm PySem.F.plainAttrs_list PySem.F.slot_list_append PySem.F.type_list_append mt_append (pv 10) (pa_cons pe_int pa_nil)))
          (pss_cons (ps_par (i := 11) (j := 12) (by rfl) sc_law.nd rfl rfl (by decide) rfl rfl (pa_cons (pe_callTy call_listOf (by rfl) X0.n_list (by decide +kernel) (pa_cons (pv 4) pa_nil)) (pa_cons pe_int pa_nil)) (by rfl))
          (C8.pss_cut (ps_for PassesOwn.never rfl (pi_enum rfl L.n_enumerate (pa_cons (pv 5) pa_nil)) (pg_tup (by rfl) (pgs_cons (pg_name (i := 13) sc_law.nd rfl (.inr rfl)) (pgs_cons (pg_name (i := 14) sc_law.nd rfl (.inl rfl)) pgs_nil)))
            (pss_cons (ps_set (i := 15) sc_law.nd rfl (.inl rfl) (pe_op op_addU (pe_c (ok__law_odd_changes X0 NN I C S SC SM XS L) hr (by decide) rfl (pa_cons (pv 11) (pa_cons (pv 12) pa_nil))) (pe_c (ok__law_bad_changes (CS := CS) X0 NN L) hr (by decide) rfl (pa_cons (pv 11) (pa_cons (pv 3) (pa_cons (pv 12) pa_nil))))))
              (C8.pss_cut (ps_if (pt_cmpR (op_neU hu) (pe_lc (own := [("_law_one", 18)]) (g := gName 18) (tt := tTest (tOp (rNeI K 1) (tCall (spAdded K CS) [] E0 (tCons (tVar 9) (tCons (tVar 18) tNil))) (tLst (tCons (tVar 18) tNil)))) (te := tVar 18) rfl sc_law.nd (pi_list (pv 15)) (blkOk_by (own := [("_law_one", 18)]) (N := ["_law_script", "_law_at", "_law_purse_here", "_law_places", "_law_first", "_law_changes", "_law_handed", "_law_given", "_law_story", "_law_slow", "_law_told", "_law_there", "_law_gap", "_law_k", "_law_change_here", "_law_bad", "_law_fresh_here", "_law_place", "_law_one"]) (sc := defScope s_law) (by decide +kernel)) (fun _ _ _ _ _ => pg_name (i := 18) sc_law.nd rfl (Or.inl rfl)) (fun _ _ _ _ _ => by exact pts_one (pt_cmpR (op_neI (n := 1) (room66 hr)) (pe_c (ok__law_added X0 NN I C S SC SM XC L) hr (by decide) rfl (pa_cons (pv 9) (pa_cons (pv 18) pa_nil))) (pe_lst (pa_cons (pv 18) pa_nil)) (by rfl))) (fun _ _ _ _ _ => (pv 18))) (pe_lst pa_nil) (by rfl)) (pss_one (ps_ret pe_bl)) pss_nil)
              (C8.pss_cut (ps_if (pt_cmpR (op_neU hu) (pe_lc (own := [("_law_one", 18)]) (g := gName 18) (tt := tNot (tTest (tCall (spRefused K CS) [] E0 (tCons (tVar 4) (tCons (tOp rAddU (tSl (rSlL K) (tVar 5) tNoPart (tPart (tVar 13))) (tLst (tCons (tVar 18) tNil))) tNil))))) (te := tVar 18) rfl sc_law.nd (pi_list (pe_op op_addU (pe_slice sl_list (pv 15) po_none (po_some pe_int)) (pe_slice sl_list (pv 15) (po_some (pe_un un_neg pe_int)) po_none))) (blkOk_by (own := [("_law_one", 18)]) (N := ["_law_script", "_law_at", "_law_purse_here", "_law_places", "_law_first", "_law_changes", "_law_handed", "_law_given", "_law_story", "_law_slow", "_law_told", "_law_there", "_law_gap", "_law_k", "_law_change_here", "_law_bad", "_law_fresh_here", "_law_place", "_law_one"]) (sc := defScope s_law) (by decide +kernel)) (fun _ _ _ _ _ => pg_name (i := 18) sc_law.nd rfl (Or.inl rfl)) (fun _ _ _ _ _ => by exact pts_one (pt_not (pt_val (pe_c (ok__law_refused X0 NN I C S SC SM XS L) hr (by decide) rfl (pa_cons (pv 4) (pa_cons (pe_op op_addU (pe_slice sl_list (pv 5) po_none (po_some (pv 13))) (pe_lst (pa_cons (pv 18) pa_nil))) pa_nil)))))) (fun _ _ _ _ _ => (pv 18))) (pe_lst pa_nil) (by rfl)) (pss_one (ps_ret pe_bl)) pss_nil)
              (pss_cons (ps_if (PW.pt (pw_or (pt_not (pt_val (pe_c (ok__law_same X0 L0 NN I C S SC SM L) hr (by decide) rfl (pa_cons (pv 9) (pa_cons (pv 4) (pa_cons (pe_slice sl_list (pv 5) po_none (po_some (pv 13))) (pa_cons (pv 3) pa_nil))))))) (pw_or1 (pt_cmpR (op_neU hu) (pe_c (ok__law_added X0 NN I C S SC SM XC L) hr (by decide) rfl (pa_cons (pv 9) (pa_cons (pv 14) pa_nil))) (pe_lst (pa_cons pe_str pa_nil)) (by rfl))))) (pss_one (ps_ret pe_bl)) pss_nil)
              (pss_one (ps_par (i := 11) (j := 12) (by rfl) sc_law.nd rfl rfl (by decide) rfl rfl (pa_cons (pe_c (ok__law_step L) hr (by decide) rfl (pa_cons (pv 11) (pa_cons (pv 14) pa_nil))) (pa_cons (pe_ix ix_seq (pv 14) pe_int (fun _ _ => rfl)) pa_nil)) (by rfl))))))))
          (pss_cons (ps_if (PW.pt (pw_or (pt_not (pt_val (pe_c (ok__law_same X0 L0 NN I C S SC SM L) hr (by decide) rfl (pa_cons (pv 8) (pa_cons (pv 4) (pa_cons (pv 5) (pa_cons (pv 3) pa_nil))))))) (pw_or1 (pt_not (pt_cmpR (op_eqOwn (ok_story_eq X0 SC SM Fe) (hr.mono (by decide)) e1 e2 be L2.pass0) (pv 8) (pv 9) (by rfl)))))) (pss_one (ps_ret pe_bl)) pss_nil)
          (pss_cons (ps_set (i := 16) sc_law.nd rfl (.inl rfl) (pe_c (ok__law_fresh L) hr (by decide) rfl (pa_cons (pv 3) pa_nil)))
          (pss_cons (ps_if (pt_not (pt_val (pe_c (ok__law_alike X0 NN I C S SC SM XS L) hr (by decide) rfl (pa_cons (pv 8) (pa_cons (pv 4) (pa_cons (pv 5) (pa_cons (pv 16) pa_nil))))))) (pss_one (ps_ret pe_bl)) pss_nil)
          (pss_cons (ps_if (pt_not (pt_val (pe_c (ok__law_ordered_pair X0 NN I C S SC SM XS L) hr (by decide) rfl (pa_cons (pv 4) (pa_cons (pv 16) (pa_cons (pe_c (ok__law_fresh L) hr (by decide) rfl (pa_cons (pe_op op_addU (pv 3) (pe_lst (pa_cons (pv 16) pa_nil))) pa_nil)) pa_nil)))))) (pss_one (ps_ret pe_bl)) pss_nil)
          (pss_cons (ps_if (pt_not (pt_val (pe_c (ok__law_indexes X0 NN I C S SC SM XN L) hr (by decide) rfl (pa_cons (pv 8) (pa_cons (pe_callB call_lenQ (by rfl) NN.n_len (by decide +kernel) (pa_cons (pv 5) pa_nil)) (pa_cons (pe_op op_modU (pe_callTy call_int1 (by rfl) X0.n_int (by decide +kernel) (pa_cons (pe_callB (cr_sum rfl) (by rfl) L0.n_sum (by decide +kernel) (pa_cons (pe_slice sl_list (pv 0) (po_some (pv 1)) (po_some (pe_op op_addU (pv 1) pe_int))) pa_nil)) pa_nil)) (pe_op op_powW pe_int pe_int)) pa_nil)))))) (pss_one (ps_ret pe_bl)) pss_nil)
          (pss_one (ps_if (pt_not (pt_val (pe_c (ok__law_odd_parts X0 NN I C S SC SM XS L) hr (by decide) rfl (pa_cons (pv 4) (pa_cons (pv 5) (pa_cons (pv 3) pa_nil)))))) (pss_one (ps_ret pe_bl)) pss_nil)))))))))))))))))))))
      (pss_one (ps_ret pe_bl))), ?_⟩
    k_extra "r_LL13"
    refine ⟨4, rfl, by decide, by decide, q_forR (lo := 0) (n := 4) (fun i σ H' => ∃ v1 v2 v3 v4 v5 v6 v7 v8 v9 v10 v11 v12 v13 v14 v15 v16 : Option V, σ = [some (.ref a), v1, v2, v3, v4, v5, v6, v7, v8, v9, v10, v11, v12, v13, v14, v15, v16, none, none] ∧ SqL K H' a (ns.map V.int)) ⟨_, _, _, _, _, _, _, _, _, _, _, _, _, _, _, _, rfl, hs⟩ ?_ ?_⟩
    rotate_left
    · rintro σ H0 ⟨v1, v2, v3, v4, v5, v6, v7, v8, v9, v10, v11, v12, v13, v14, v15, v16, rfl, hs0⟩
      k_extra "r_LL13"
      exact k H0
    rintro i σ H0 hi ⟨v1, v2, v3, v4, v5, v6, v7, v8, v9, v10, v11, v12, v13, v14, v15, v16, rfl, hs0⟩
    k_extra "r_LL13"
    refine ⟨a, ns, 0 + (i : Int), rfl, hs0, by omega, by omega, fun pu H1 np S1 hp1 => ?_⟩
    k_extra "r_LL13"
    refine ⟨pu, rfl, hp1, fun lp H2 xs fs0 nns nlp hl pls nf nn f3 n6 hp2 b2 => ?_⟩
    have sc2 : Sc1 K H2 pu a (ns.map V.int) := (Sc1.of hs0 np S1).but b2
    have wl : xs.length = (worldOf fs0 nns).length := pls.len
    have wz : xs.length ≤ 18 := by
      rw [wl, worldOf_len]
      exact Nat.le_trans (Nat.mul_le_mul f3 n6) (by decide)
    have wne : xs ≠ [] := fun z => by
      have : 0 < (worldOf fs0 nns).length := by
        rw [worldOf_len]
        exact Nat.mul_pos (List.length_pos_iff.mpr nf.2.2) (List.length_pos_iff.mpr nn.2.2)
      rw [← wl, z] at this
      cases this
    have wd := worldOf_nodup nf.2.1 nn.2.1
    have wn : ∀ q ∈ worldOf fs0 nns, NmP q := fun q hq => ⟨nf.1 _ (worldOf_mem hq).1, nn.1 _ (worldOf_mem hq).2⟩
    obtain ⟨ps, eps⟩ : ∃ ps, ps = worldOf fs0 nns := ⟨_, rfl⟩
    rw [← eps] at wl wd wn pls
    have npu : ∀ {b : Addr}, H1 b = none → b ≠ pu := fun e z => by obtain ⟨_, _, _, e2, _⟩ := hp1; rw [z, e2] at e; cases e
    have lpu := npu nlp
    clear eps nf nn f3 n6 b2
    k_extra "r_LL13"
    have pu2 : ∀ {b : Addr} {H' : Hp}, Purse H' pu → H' b = none → b ≠ pu := fun p e z => by obtain ⟨_, _, _, e2, _⟩ := p; rw [z, e2] at e; cases e
    refine q_cut8 (M := fun σ H' => ∃ fl ys fs, σ = [some (.ref a), some (.int (0 + (i : Int))), some (.ref pu), some (.ref lp), some (.ref fl), v5, v6, v7, v8, v9, v10, v11, v12, v13, v14, v15, v16, none, none] ∧ fl ≠ pu ∧ Purse H' pu ∧ But pu H2 H' ∧ H' fl = some (.lst ys) ∧ Pls H' ys fs ∧ fs.Sublist ps) ?_ ?_
    · k_extra "r_LL13"
      refine s_lc ?_
      k_extra "r_LL13"
      refine ⟨lp, rfl, ⟨_, SqL.of hl⟩, fun D nD => ?_⟩
      have Dpu := pu2 hp2 nD
      refine lc_list (K := K) (a := lp) (xs := xs) (fun i H' => ∃ ys fs, H' D = some (.lst ys) ∧ Pls H' ys fs ∧ fs.Sublist (ps.take i) ∧ Purse H' pu ∧ But pu H2 H') ⟨[], [], upd_same, .nil, by simp, hp2.mono (Same.new nD), But.of (Same.new nD)⟩ (fun i H' _ ⟨_, _, _, _, _, _, B⟩ => SqL.of (B _ _ lpu hl)) ?_ ?_
      · rintro jj y H3 hy ⟨ys, fs, hD, pf, sb, pu3, b3⟩
        obtain ⟨q, eq, hq⟩ := Pls.get2 pls hy
        k_extra "r_LL13"
        refine ⟨rfl, ?_⟩
        k_extra "r_LL13"
        refine ⟨pu, 2, rfl, pu3, by decide, by decide, fun m H4 m0 m1 pu4 b4 => ?_⟩
        refine q_eq rfl ?_
        generalize decide (V.int m = V.int 0) = bb
        have tk := TupK.nl (NL.pu pu3 b4)
        have hD4 := b4 _ _ Dpu hD
        have b24 := b3.trans b4
        have lf : fs.length ≤ jj := Nat.le_trans sb.length_le (by rw [List.length_take]; omega)
        have ly : ys.length = fs.length := pf.len
        have jl := (List.getElem?_eq_some_iff.mp hy).1
        have sb1 : fs.Sublist (ps.take (jj + 1)) := sb.trans (List.take_sublist_take_left (by omega))
        refine q_test ?_
        cases bb with
        | false =>
          rw [if_neg (by decide)]
          exact ⟨ys, fs, hD4, pf.tk tk, sb1, pu4, b24⟩
        | true =>
          rw [if_pos rfl]
          k_extra "r_LL13"
          have N : TupK H4 (upd H4 D (.lst (ys ++ [y]))) := TupK.but hD4 (fun _ z => by cases z) But.upd
          refine ⟨ys, hD4, szlt (by omega), _, fs ++ [q], upd_same, ((pf.tk tk).tk N).app (.cons ((hq.tk (TupK.nl (NL.pu hp2 b24))).tk N) .nil), ?_, ?_, fun c o nc e => (upd_ne (ne_of_none e nD)).trans (b24 _ _ nc e)⟩
          · rw [List.take_add_one, eq]
            exact sb.append (List.Sublist.refl _)
          · obtain ⟨_, _, _, e2, h2⟩ := pu4
            exact ⟨_, _, _, (upd_ne Dpu.symm).trans e2, h2⟩
      · rintro H3 ⟨ys, fs, hD, pf, sb, pu3, b3⟩
        k_extra "r_LL13"
        exact ⟨D, ys, fs, rfl, Dpu, pu3, b3, hD, pf, sb.trans (List.take_sublist _ _)⟩
    rintro σ H3 ⟨fl, ys, fs, rfl, flpu, pu3, b3, hf3, pf3, sub⟩
    have nf : ∀ p ∈ fs, NmP p := fun p m => wn p (sub.subset m)
    have ndf : fs.Nodup := wd.sublist sub
    have lf : fs.length ≤ 18 := Nat.le_trans sub.length_le (by omega)
    have ly : ys.length = fs.length := pf3.len
    k_extra "r_LL13"
    refine ⟨pu, lp, xs, ps, fl, ys, fs, rfl, pu3, b3 _ _ lpu hl, lpu, pls.tk (TupK.nl (NL.pu hp2 b3)), wne, by omega, wn, hf3, flpu, pf3, nf, by omega, fun cl H4 ts zs n4 hc4 cs4 run lz zps pu4 b4 => ?_⟩
    have sc4 := (sc2.but (b3.trans b4)).sq
    have hf4 := b4 _ _ flpu hf3
    have pf4 := pf3.tk (TupK.nl (NL.pu pu3 b4))
    have hl4 := b4 _ _ lpu (b3 _ _ lpu hl)
    have pl4 := (pls.tk (TupK.nl (NL.pu hp2 b3))).tk (TupK.nl (NL.pu pu3 b4))
    have fsub : ∀ p ∈ fs, p ∈ ps := fun p m => sub.subset m
    clear hl pls hf3 pf3 n4 b3 b4 sc2 hp2 pu3 pu4 wd sub npu hs0 hp1 S1 np nlp pu2 lpu flpu
    k_extra "r_LL13"
    have lt : ts.length = zs.length := Paired.length cs4
    have nmz : NmC zs := run.nm
    obtain ⟨A1, eA⟩ : ∃ A1, A1 = fs.mergeSort pLe := ⟨_, rfl⟩
    have sA : A1.Perm fs := by rw [eA]; exact List.mergeSort_perm _ _
    have nA : ∀ p ∈ A1, NmP p := fun p m => nf p (sA.mem_iff.mp m)
    have sR : fs.reverse.Perm fs := List.reverse_perm fs
    refine q_listL (SqL.of hf4) fun hd H5 n5 S5 h5 => ?_
    k_extra "r_LL13"
    refine q_listL (SqL.of (S5 _ _ hc4)) fun gv H6 n6 S6 h6 => ?_
    k_extra "r_LL13"
    refine ⟨_, _, rfl, ?_⟩
    have S46 := S5.trans S6
    have ngv : H4 gv = none := S5.free n6
    have hgne : hd ≠ gv := fun z => by rw [z, n6] at h5; cases h5
    replace h5 := S6 _ _ h5
    refine q_cut8 (M := fun σ H' => ∃ x g1 g2 g3 sl s1 s2 s3 H7, σ = [some (.ref a), some (.int (0 + (i : Int))), some (.ref pu), some (.ref lp), some (.ref fl), some (.ref cl), some (.ref hd), some (.ref gv), some (.ref x), some (.ref sl), v10, v11, v12, v13, v14, v15, v16, none, none] ∧ Same H6 H7 ∧ StoAt CS H7 x g1 g2 g3 A1 zs (runC fs zs) ∧ H6 x = none ∧ H6 g1 = none ∧ H6 g2 = none ∧ H6 g3 = none ∧ Same H7 H' ∧ StoAt CS H' sl s1 s2 s3 A1 [] fs.reverse ∧ H7 sl = none ∧ H7 s1 = none ∧ H7 s2 = none ∧ H7 s3 = none) ?_ ?_
    · k_extra "r_LL13"
      refine s_make ?_
      k_extra "r_LL13"
      refine q_story2 (ps := fs) (zs := zs) ⟨⟨hd, _, rfl, h5, pf4.mono S46, by omega⟩, nf, ndf, ⟨ts, .inr ⟨gv, rfl, h6⟩, cs4.mono S46⟩, run⟩ fun x H7 g1 g2 g3 nx ng1 ng2 ng3 S7 sx => ?_
      rw [← eA] at sx
      have S47 := S46.trans S7
      k_extra "r_LL13"
      refine s_make ?_
      k_extra "r_LL13"
      refine s_revL ?_
      k_extra "r_LL13"
      refine q_revL (SqL.of (S47 _ _ hf4)) fun l8 H8 n8 S8 h8 => ?_
      k_extra "r_LL13"
      have pr : Pls H8 ys.reverse fs.reverse := by
        obtain ⟨zz, ez1, ez2, kz⟩ := (pf4.mono (S47.trans S8)).pairs
        rw [← ez1, ← ez2, ← List.map_reverse, ← List.map_reverse]
        exact Pls.of fun z m => kz z (List.mem_reverse.mp m)
      refine q_story2 (ps := fs.reverse) (zs := []) ⟨⟨l8, _, rfl, h8, pr, by rw [List.length_reverse]; omega⟩, fun p m => nf p (List.mem_reverse.mp m), sR.nodup_iff.mpr ndf, ⟨[], .inl ⟨rfl, rfl⟩, .nil⟩, trivial⟩ fun sl H9 s1 s2 s3 nsl ns1 ns2 ns3 S9 ss => ?_
      rw [sort_perm sR, ← eA] at ss
      k_extra "r_LL13"
      refine q_newT (by show 2 ≤ sizeLine; decide) fun tT H10 n10 S10 h10 => ?_
      refine q_gtup (SqT.of h10) rfl ?_
      k_extra "r_LL13"
      exact ⟨x, g1, g2, g3, sl, s1, s2, s3, H7, rfl, S7, sx, nx, ng1, ng2, ng3, S8.trans (S9.trans S10), ss.mono S10, S8.free nsl, S8.free ns1, S8.free ns2, S8.free ns3⟩
    rintro σ H8 ⟨x, g1, g2, g3, sl, s1, s2, s3, H7, rfl, S7, sx, nx, ng1, ng2, ng3, S8, ss, nsl, ns1, ns2, ns3⟩
    have h57 := S7 _ _ h5
    have h67 := S7 _ _ h6
    obtain ⟨B, eB⟩ : ∃ B, B = wo gv (wo hd H7) := ⟨_, rfl⟩
    have SB4 : Same H4 B := by rw [eB]; exact wo_same ngv (wo_same n5 (S46.trans S7))
    have SB7 : Same B H7 := by rw [eB]; exact wo_sub.trans wo_sub
    have nBh : B hd = none := by rw [eB]; exact wo_none wo_self
    have nBg : B gv = none := by rw [eB]; exact wo_self
    have ne6 : ∀ {b c : Addr} {vs : List V}, H6 b = none → H6 c = some (.lst vs) → b ≠ c := fun n h z => by rw [z, h] at n; cases n
    have ne7 : ∀ {b c : Addr} {vs : List V}, H7 b = none → H7 c = some (.lst vs) → b ≠ c := fun n h z => by rw [z, h] at n; cases n
    have sxB : StoAt CS B x g1 g2 g3 A1 zs (runC fs zs) := by
      rw [eB]
      have q1 := sx.wo h57 (ne6 nx h5) (ne6 ng1 h5) (ne6 ng2 h5) (ne6 ng3 h5)
      exact q1.wo ((wo_get hgne.symm).trans h67) (ne6 nx h6) (ne6 ng1 h6) (ne6 ng2 h6) (ne6 ng3 h6)
    have nB : ∀ {b : Addr}, H7 b = none → B b = none := fun h => by rw [eB]; exact wo_none (wo_none h)
    have B1 := nB ns1
    have B2 := nB ns2
    have B3 := nB ns3
    have scB := SqL_monoN (ext_same SB4) sc4
    have hfB := SB4 _ _ hf4
    have hcB := SB4 _ _ hc4
    have hlB := SB4 _ _ hl4
    have pfB := pf4.mono SB4
    have csB := cs4.mono SB4
    have plB := pl4.mono SB4
    have s1h := ne7 ns1 h57
    have s1g := ne7 ns1 h67
    have s2h := ne7 ns2 h57
    have s2g := ne7 ns2 h67
    have S78 := SB7.trans S8
    have h58 := S8 _ _ h57
    have h68 := S8 _ _ h67
    clear sx nx ng1 ng2 ng3 S7 S46 S5 S6 hf4 hc4 hl4 pf4 pl4 cs4 sc4 h57 h67 h5 h6 n5 n6 ngv SB7 SB4 eB nsl ns1 ns2 ns3 ne6 ne7 nB S8
    k_extra "r_LL13"
    refine q_neD (.lst (SqL.of h58) (pfB.mono S78).dps) (.lst (SqL.of (S78 _ _ hfB)) (pfB.mono S78).dps) (sh_pls nf) (sh_pls nf) ?_
    rw [show PyData.eqv (.list (fs.map dPl)) (.list (fs.map dPl)) = _ from eqv_pls _ _, decide_eq_true rfl]
    refine q_test (s_if0 rfl ?_)
    k_extra "r_LL13"
    refine q_neD (.lst (SqL.of h68) (csB.mono S78).dps) (.lst (SqL.of (S78 _ _ hcB)) (csB.mono S78).dps) (sh_chs nmz) (sh_chs nmz) ?_
    rw [show PyData.eqv (.list (zs.map dCh)) (.list (zs.map dCh)) = true from eqv_self nmz]
    refine q_test (s_if0 rfl ?_)
    k_extra "r_LL13"
    refine ⟨.inl ⟨rfl, _, SqL.of h58⟩, ?_⟩
    k_extra "r_LL13"
    refine q_append h58 (szlt (by omega)) fun H9 b9 h9 => ?_
    have T9 := same_but S78 nBh b9
    have ss9 := ss.but h58 s1h s2h b9
    have h69 := b9 _ _ hgne.symm h68
    k_extra "r_LL13"
    refine ⟨.inl ⟨rfl, _, SqL.of h69⟩, ?_⟩
    k_extra "r_LL13"
    refine q_append h69 (szlt (by omega)) fun H10 b10 h10 => ?_
    have T10 := same_but T9 nBg b10
    have ss10 := ss9.but h69 s1g s2g b10
    clear h9 h10 h69 h58 h68 S78 ss ss9 T9
    k_extra "r_LL13"
    refine s_prop ?_
    k_extra "r_LL13"
    have sx10 := sxB.mono T10
    obtain ⟨dx, hx⟩ := id sx10.hx
    refine ⟨x, dx, _, rfl, hx, x, g1, g2, g3, _, zs, _, rfl, sx10, fun tl H11 us11 n11 S11 h11 p11 => ?_⟩
    have T11 := T10.trans S11
    have ss11 := ss10.mono S11
    obtain ⟨w1, hs1, _⟩ := id ss10.hf
    obtain ⟨w2, hs2, _⟩ := id ss10.hc
    k_extra "r_LL13"
    refine ⟨.inl ⟨rfl, _, SqL.of h11⟩, ?_⟩
    k_extra "r_LL13"
    have l11 : us11.length ≤ 20 := by rw [p11.len, sA.length_eq]; omega
    refine q_append h11 (szlt (by omega)) fun H12 b12 h12 => ?_
    have T12 := same_but T11 (T10.free n11) b12
    have ss12 := ss11.but h11 (fun z => by rw [z, n11] at hs1; cases hs1) (fun z => by rw [z, n11] at hs2; cases hs2) b12
    clear h11 h12 p11 T11 ss11 ss10 T10 sx10 hs1 hs2 hx
    k_extra "r_LL13"
    refine q_listL (SqL.of (T12 _ _ hfB)) fun th H13 n13 S13 h13 => ?_
    k_extra "r_LL13"
    refine ⟨_, _, rfl, ?_⟩
    obtain ⟨w3, hs3, _⟩ := id ss12.hc
    have ths : th ≠ s2 := fun z => by rw [← z, n13] at hs3; cases hs3
    have T13 := T12.trans S13
    have ss13 := ss12.mono S13
    clear hs3 T12 ss12
    refine q_cut8 (M := fun σ H' => ∃ v11 v12 v13 v14 v15, σ = [some (.ref a), some (.int (0 + (i : Int))), some (.ref pu), some (.ref lp), some (.ref fl), some (.ref cl), some (.ref hd), some (.ref gv), some (.ref x), some (.ref sl), some (.ref tl), v11, v12, v13, v14, v15, v16, none, none] ∧ Same B H' ∧ StoAt CS H' sl s1 s2 s3 A1 zs (runC fs.reverse zs)) ?_ ?_
    · k_extra "r_LL13"
      refine ⟨cl, ts, rfl, SqL.of (T13 _ _ hcB), q_forE (K := K) (a := cl) (xs := ts) (fun j σ H' => ∃ th us v13 v14 v15, σ = [some (.ref a), some (.int (0 + (i : Int))), some (.ref pu), some (.ref lp), some (.ref fl), some (.ref cl), some (.ref hd), some (.ref gv), some (.ref x), some (.ref sl), some (.ref tl), some (.ref th), some (.int (lastG 0 (zs.take j))), v13, v14, v15, v16, none, none] ∧ Same B H' ∧ StoAt CS H' sl s1 s2 s3 A1 (zs.take j) (runC fs.reverse (zs.take j)) ∧ H' th = some (.lst us) ∧ Pls H' us (runC fs (zs.take j)) ∧ th ≠ s2)
        ⟨_, _, _, _, _, rfl, T13, ss13, h13, pfB.mono T13, ths⟩ (fun j σ H' _ ⟨_, _, _, _, _, _, T, _⟩ => SqL.of (T _ _ hcB)) ?_ ?_⟩
      · clear T13 ss13 h13 n13 ths S13
        rintro j x0 σ K0 Tp hx0 ⟨th, us, v13, v14, v15, rfl, T0, ss0, hth, pus, ths⟩ nT
        obtain ⟨z, ez, hzB⟩ := Paired.get csB hx0
        have li : j < zs.length := (List.getElem?_eq_some_iff.mp ez).1
        obtain ⟨g0, g1', can, nmp, _⟩ := run.get ez
        have U0 : Same K0 (upd K0 Tp (.tup [.int (j : Nat), x0])) := Same.new nT
        refine q_gtup (SqT.of upd_same) rfl ?_
        replace T0 := T0.trans U0
        replace ss0 := ss0.mono U0
        replace hth := U0 _ _ hth
        replace pus := pus.mono U0
        generalize (upd K0 Tp (.tup [.int (j : Nat), x0])) = K1 at T0 ss0 hth pus ⊢
        clear U0 nT
        have nst : ∀ p ∈ runC fs (zs.take j), NmP p := runC_nm nf fun u m => nmz u (List.mem_of_mem_take m)
        have lst : (runC fs (zs.take j)).length ≤ 27 := by
          have := runC_len (zs.take j) fs
          rw [List.length_take] at this
          omega
        have lus : us.length ≤ 27 := by rw [pus.len]; exact lst
        have stp : (runC fs (zs.take j)).Perm (runC fs.reverse (zs.take j)) := runC_perm _ sR.symm
        obtain ⟨g, eg⟩ : ∃ g, g = lastG 0 (zs.take j) := ⟨_, rfl⟩
        obtain ⟨st, est⟩ : ∃ st, st = runC fs (zs.take j) := ⟨_, rfl⟩
        rw [← est] at nst lst stp pus can
        rw [← eg] at g0 g1' ⊢
        have lz' : (zs.take j).length < 1000 := by rw [List.length_take]; omega
        have lsk : (runC fs.reverse (zs.take j)).length < 90 := by rw [← stp.length_eq]; omega
        k_extra "r_LL13"
        refine ⟨th, us, st, g, rfl, hth, pus, nst, by omega, g0, fun D1 Ha m1 lm1 b1 => ?_⟩
        k_extra "r_LL13"
        refine ⟨th, us, st, lp, xs, ps, g, rfl, b1.same _ _ hth, pus.mono b1.same, nst, by omega, (T0.trans b1.same) _ _ hlB, plB.mono (T0.trans b1.same), wn, by omega, g0, fun D2 Hb m2 lm2 b2 => ?_⟩
        have b12 := b1.step b2.same
        obtain ⟨_, _, vs1, hv1, _, lv1⟩ := id b12
        obtain ⟨_, _, vs2, hv2, kv2, lv2⟩ := id b2
        refine q_cat hv1 hv2 (sz (by omega)) fun D3 Hc n3 S3 h3 => ?_
        have kw : ∀ w ∈ vs2, Bad1 K CS g st Hb w := fun w m => by
          exact Bad1.mono wo_sub (kv2 w m)
        have b3 := b12.catB (m := m2) hv1 n3 S3 h3 kw (by omega)
        obtain ⟨_, _, vs, hv, kv, lv⟩ := id b3
        have kb : ∀ w ∈ vs, Bad1 K CS g st Hc w := fun w m => by
          exact Bad1.mono wo_sub (kv w m)
        have TC := T0.trans b3.same
        have ssC := ss0.mono b3.same
        have hthC := b3.same _ _ hth
        have pusC := pus.mono b3.same
        clear b3 b12 b1 b2 kv kv2 kw hv1 hv2 h3 n3 S3 T0 ss0 hth pus
        k_extra "r_LL13"
        refine q_cut8 (M := fun σ H' => σ = [some (.ref a), some (.int (0 + (i : Int))), some (.ref pu), some (.ref lp), some (.ref fl), some (.ref cl), some (.ref hd), some (.ref gv), some (.ref x), some (.ref sl), some (.ref tl), some (.ref th), some (.int g), some (.int (j : Nat)), some x0, some (.ref D3), v16, none, none] ∧ Same Hc H') ?_ ?_
        · k_extra "r_LL13"
          refine s_lc ?_
          k_extra "r_LL13"
          refine ⟨D3, rfl, ⟨_, SqL.of hv⟩, fun D4 nD4 => lc_list (K := K) (a := D3) (xs := vs) (fun i H' => Same Hc H' ∧ H' D4 = some (.lst [])) ⟨Same.new nD4, upd_same⟩ (fun i H' _ h => SqL.of (h.1 _ _ hv)) ?_ ?_⟩
          · rintro i' v K2 hvi ⟨U2, h2⟩
            have bv := (kb v (List.mem_of_getElem? hvi)).mono U2
            k_extra "r_LL13"
            refine ⟨rfl, ?_⟩
            k_extra "r_LL13"
            refine ⟨sl, s1, s2, s3, A1, zs.take j, _, v, rfl, ssC.mono U2, lsk, lz', by rw [← eg]; exact g0, .inr ⟨by rw [← eg]; exact bv.1.perm stp, fun D5 K3 n5 U3 h5 => ?_⟩⟩
            k_extra "r_LL13"
            refine q_newL (by show 1 ≤ sizeLine; decide) fun l6 K4 n6 U4 h6 => ?_
            refine ⟨_, _, _, _, _, rfl, rfl, .inl ⟨SqL.of (U4 _ _ h5), SqL.of h6⟩, selfs (xs := [v]) (fun y hy => by rw [List.mem_singleton.mp hy]; exact bv.2.mono (U3.trans U4)), ?_⟩
            refine ⟨_, rfl, ?_⟩
            exact ⟨U2.trans (U3.trans U4), (U3.trans U4) _ _ h2⟩
          · rintro K2 ⟨U2, h2⟩
            k_extra "r_LL13"
            refine q_newL (by show 0 ≤ sizeLine; decide) fun l9 K3 n9 U3 h9 => ?_
            refine q_neD (.lst (SqL.of (U3 _ _ h2)) .nil) (.lst (SqL.of h9) .nil) (by decide) (by decide) ?_
            rw [show PyData.eqv (.list []) (.list []) = true by decide +kernel]
            refine q_test (s_if0 rfl ?_)
            exact ⟨rfl, U2.trans U3⟩
        rintro σ Hd ⟨rfl, Ud⟩
        have TD := TC.trans Ud
        have ssD := ssC.mono Ud
        have hthD := Ud _ _ hthC
        have pusD := pusC.mono Ud
        replace hv := Ud _ _ hv
        replace kb : ∀ w ∈ vs, Bad1 K CS g st Hd w := fun w m => (kb w m).mono Ud
        clear TC ssC hthC pusC Ud
        refine q_cut8 (M := fun σ H' => σ = [some (.ref a), some (.int (0 + (i : Int))), some (.ref pu), some (.ref lp), some (.ref fl), some (.ref cl), some (.ref hd), some (.ref gv), some (.ref x), some (.ref sl), some (.ref tl), some (.ref th), some (.int g), some (.int (j : Nat)), some x0, some (.ref D3), v16, none, none] ∧ Same Hd H') ?_ ?_
        · k_extra "r_LL13"
          refine s_lc ?_
          k_extra "r_LL13"
          refine q_slL (SqL.of hv) fun l1 K2 n1 U2 e1' => ?_
          k_extra "r_LL13"
          refine ⟨_, rfl, ?_⟩
          refine ⟨_, rfl, ?_⟩
          k_extra "r_LL13"
          refine q_slL (SqL.of (U2 _ _ hv)) fun l2 K3 n2 U3 e2' => ?_
          have c1 := @cutV_le vs none (some 25)
          have c2 := @cutV_le vs (some (-9)) none
          refine q_cat (U3 _ _ e1') e2' (sz (by omega)) fun l3 K4 n3 U4 e3' => ?_
          have U24 := U2.trans (U3.trans U4)
          have kc : ∀ w ∈ cutV vs none (some 25) ++ cutV vs (some (-9)) none, Bad1 K CS g st K4 w := fun w m => ((List.mem_append.mp m).elim (fun m => kb w (cutV_mem m)) fun m => kb w (cutV_mem m)).mono U24
          refine ⟨l3, rfl, ⟨_, SqL.of e3'⟩, fun D4 nD4 => lc_list (K := K) (a := l3) (fun i H' => Same K4 H' ∧ H' D4 = some (.lst [])) ⟨Same.new nD4, upd_same⟩ (fun i H' _ h => SqL.of (h.1 _ _ e3')) ?_ ?_⟩
          · rintro i' v K5 hvi ⟨U5, h5⟩
            have bv := (kc v (List.mem_of_getElem? hvi)).mono U5
            have T5 := TD.trans (U24.trans U5)
            k_extra "r_LL13"
            refine ⟨rfl, ?_⟩
            k_extra "r_LL13"
            refine q_slL (SqL.of (T5 _ _ hcB)) fun l6 K6 n6 U6 h6 => ?_
            rw [cutV_take] at h6
            k_extra "r_LL13"
            refine q_newL (by show 1 ≤ sizeLine; decide) fun l7 K7 n7 U7 h7 => ?_
            refine q_cat (U7 _ _ h6) h7 (sz (by rw [List.length_take, List.length_singleton]; omega)) fun l8 K8 n8 U8 h8 => ?_
            have U68 := U6.trans (U7.trans U8)
            have T8 := T5.trans U68
            have cs8 : ChsAt K8 (ts.take j) (zs.take j) := Paired.takeP (csB.mono T8) j
            have bv8 := bv.mono U68
            k_extra "r_LL13"
            refine ⟨.ref fl, .ref l8, some ys, some (ts.take j ++ [v]), rfl, .lst rfl (T8 _ _ hfB), .lst rfl h8, ⟨by omega, fun y m => ?_⟩, ⟨by rw [List.length_append, List.length_take, List.length_singleton]; omega, fun y m => ?_⟩, .inr ⟨(fun z => by cases z), .inr ⟨fs, ⟨ys, rfl, by omega, pfB.mono T8, nf, ndf⟩, fun ts' e => ?_⟩⟩, fun K9 U9 => ?_⟩
            · obtain ⟨_, _, b, e, _⟩ := pfB.mem m
              rw [e]; exact .ref b
            · rcases List.mem_append.mp m with m | m
              · obtain ⟨q, eq⟩ := List.getElem?_of_mem m
                obtain ⟨z', _, hz'⟩ := Paired.get cs8 eq
                exact self_ch hz'
              · rw [List.mem_singleton.mp m]; exact bv8.2
            · cases e
              exact (run.take j).runN (Int.le_refl _) cs8 (by rw [← eg, ← est]; exact bv8.1)
            refine ⟨_, rfl, ?_⟩
            refine ⟨U5.trans (U68.trans U9), (U68.trans U9) _ _ h5⟩
          · rintro K5 ⟨U5, h5⟩
            k_extra "r_LL13"
            refine q_newL (by show 0 ≤ sizeLine; decide) fun l9 K6 n9 U6 h9 => ?_
            refine q_neD (.lst (SqL.of (U6 _ _ h5)) .nil) (.lst (SqL.of h9) .nil) (by decide) (by decide) ?_
            rw [show PyData.eqv (.list []) (.list []) = true by decide +kernel]
            refine q_test (s_if0 rfl ?_)
            exact ⟨rfl, U24.trans (U5.trans U6)⟩
        rintro σ He ⟨rfl, Ue⟩
        replace TD := TD.trans Ue
        replace ssD := ssD.mono Ue
        replace hthD := Ue _ _ hthD
        replace pusD := pusD.mono Ue
        clear Ue kb hv
        k_extra "r_LL13"
        refine q_slL (SqL.of (TD _ _ hcB)) fun l1 K2 n1 U2 e1' => ?_
        rw [cutV_take] at e1'
        have T2 := TD.trans U2
        have ss2 := ssD.mono U2
        k_extra "r_LL13"
        refine ⟨sl, s1, s2, s3, fl, ys, fs, l1, ts.take j, zs.take j, _, lp, xs, ps, rfl, eA ▸ ss2, T2 _ _ hfB, pfB.mono T2, e1', Paired.takeP (csB.mono T2) j, nf, (fun u m => nmz u (List.mem_of_mem_take m)), by omega, by rw [List.length_take]; omega, T2 _ _ hlB, plB.mono T2, wn, by omega, fun K3 U3 => ?_⟩
        k_extra "r_LL13"
        refine s_if0 rfl ?_
        k_extra "r_LL13"
        have T3 := T2.trans U3
        have ss3 := ss2.mono U3
        have hth3 := (U2.trans U3) _ _ hthD
        have pus3 := pusD.mono (U2.trans U3)
        refine ⟨sl, s1, s2, s3, A1, zs.take j, _, x0, rfl, ss3, lsk, lz', by rw [← eg]; exact g0, .inl ⟨z, hzB.mono T3, by rw [← eg]; exact g1', nmp, can.perm stp, fun D4 K4 n4 h4 ss4 b4 => ?_⟩⟩
        have T4 : Same B K4 := fun b o e => b4 b o (fun z => by rw [z, B2] at e; cases e) (fun z => by rw [z, B3] at e; cases e) (T3 _ _ e)
        have hth4 := b4 _ _ ths (fun z => by have := ss3.hd; rw [← z, hth3] at this; cases this) hth3
        have N4 : TupK K3 K4 := fun b ys e => b4 _ _ (fun z => by obtain ⟨_, h, _⟩ := ss3.hc; rw [z, h] at e; cases e) (fun z => by have := ss3.hd; rw [z, this] at e; cases e) e
        have pus4 := pus3.tk N4
        k_extra "r_LL13"
        refine q_newL (by show 1 ≤ sizeLine; decide) fun l5 K5 n5 U5 h5 => ?_
        refine q_neD (.lst (SqL.of (U5 _ _ h4)) (.cons (.str _) .nil)) (.lst (SqL.of h5) (.cons (.str _) .nil)) (by decide +kernel) (by decide +kernel) ?_
        rw [show PyData.eqv (.list [.str "none"]) (.list [.str "none"]) = true by decide +kernel]
        refine q_test (s_if0 rfl ?_)
        have T5 := T4.trans U5
        k_extra "r_LL13"
        refine ⟨th, us, st, x0, z, rfl, U5 _ _ hth4, pus4.mono U5, nst, hzB.mono T5, nmp, can, by omega, fun D6 K6 us6 n6 U6 h6 p6 => ?_⟩
        have T6 := T5.trans U6
        k_extra "r_LL13"
        obtain ⟨tx, ux, ex, htx, _⟩ := hzB.mono T6
        subst ex
        refine q_ixT (SqT.of htx) (at_of (j := 0) rfl rfl) ?_
        k_extra "r_LL13"
        refine ⟨_, _, rfl, ?_⟩
        k_extra "r_LL13"
        have e1z : zs.take j ++ [z] = zs.take (j + 1) := by rw [List.take_add_one, ez]; rfl
        obtain ⟨w5, hs5, _⟩ := id (ss4.mono U5).hc
        refine ⟨D6, us6, _, _, _, (by rw [lastG_next 0 ez]; rfl), T6, ?_, h6, ?_, fun z => by rw [← z, n6] at hs5; cases hs5⟩
        · rw [← e1z, e1z, runC_next fs.reverse ez, ← e1z]
          exact (ss4.mono U5).mono U6
        · rw [runC_next fs ez, ← est]
          exact p6
      · rintro σ K0 ⟨th, us, v13, v14, v15, rfl, T0, ss0, _⟩
        rw [lt, List.take_length] at ss0
        k_extra "r_LL13"
        exact ⟨_, _, _, _, _, rfl, T0, ss0⟩
    clear T13 ss13 h13 n13 ths S13
    rintro σ J0 ⟨v11, v12, v13, v14, v15, rfl, T0, ss0⟩
    have sx0 := sxB.mono T0
    k_extra "r_LL13"
    refine ⟨x, g1, g2, g3, fl, ys, fs, cl, ts, zs, _, lp, xs, ps, rfl, eA ▸ sx0, T0 _ _ hfB, pfB.mono T0, T0 _ _ hcB, csB.mono T0, nf, nmz, by omega, by omega, T0 _ _ hlB, plB.mono T0, wn, by omega, fun J1 U1 => ?_⟩
    k_extra "r_LL13"
    refine s_if0 rfl ?_
    k_extra "r_LL13"
    have T1 := T0.trans U1
    refine q_stoEq SC SM (sx0.mono U1) (ss0.mono U1) nA nA nmz nmz ?_
    rw [decide_eq_true rfl, eqv_self nmz]
    refine q_test (s_if0 rfl ?_)
    k_extra "r_LL13"
    refine ⟨lp, xs, ps, rfl, T1 _ _ hlB, plB.mono T1, wn, by omega, fun t1 J2 r1 n2 U2 pr1 nr1 rf1 => ?_⟩
    have T2 := T1.trans U2
    have rz : ∀ {r : Plc}, r ∉ ps → ∀ z ∈ zs, ∀ p ∈ z.2.pcs, p ≠ r := fun n z m p mp e => n (e ▸ zps z m p mp)
    k_extra "r_LL13"
    refine ⟨x, g1, g2, g3, fl, ys, fs, cl, ts, zs, _, .ref t1, r1, rfl, eA ▸ sxB.mono T2, T2 _ _ hfB, pfB.mono T2, T2 _ _ hcB, csB.mono T2, nf, ndf, run, by omega, by omega, pr1, nr1, (fun m => rf1 (fsub _ m)), rz rf1, fun J3 U3 => ?_⟩
    have T3 := T2.trans U3
    k_extra "r_LL13"
    refine s_if0 rfl ?_
    k_extra "r_LL13"
    refine q_newL (by show 1 ≤ sizeLine; decide) fun l4 J4 n4 U4 h4 => ?_
    have T4 := T3.trans U4
    refine q_cat (T4 _ _ hlB) h4 (sz (by simp; omega)) fun l5 J5 n5 U5 h5 => ?_
    have T5 := T4.trans U5
    have pr5 := pr1.mono (U3.trans (U4.trans U5))
    k_extra "r_LL13"
    refine ⟨l5, _, ps ++ [r1], rfl, h5, (plB.mono T5).app (.cons pr5 .nil), (fun p m => (List.mem_append.mp m).elim (wn p) fun m => by rw [List.mem_singleton.mp m]; exact nr1), (by rw [List.length_append, List.length_singleton]; omega), fun t2 J6 r2 n6 U6 pr2 nr2 rf2 => ?_⟩
    have T6 := T5.trans U6
    k_extra "r_LL13"
    refine ⟨fl, ys, fs, .ref t1, r1, .ref t2, r2, rfl, T6 _ _ hfB, pfB.mono T6, nf, ndf, by omega, pr5.mono U6, nr1, (fun m => rf1 (fsub _ m)), pr2, nr2, (fun m => rf2 (List.mem_append_left _ (fsub _ m))), (fun e => rf2 (List.mem_append_right _ (by rw [e]; exact List.mem_cons_self))), fun J7 U7 => ?_⟩
    have T7 := T6.trans U7
    k_extra "r_LL13"
    refine s_if0 rfl ?_
    k_extra "r_LL13"
    refine q_lenL (SqL.of (T7 _ _ hcB)) ?_
    k_extra "r_LL13"
    refine q_slL (SqL_monoN (ext_same T7) scB) fun l8 J8 n8 U8 h8 => ?_
    obtain ⟨ms, em⟩ := cutV_ints (ns := ns) (lo := some (0 + (i : Int))) (hi := some (0 + (i : Int) + 1))
    rw [em] at h8
    have T8 := T7.trans U8
    k_extra "r_LL13"
    refine ⟨l8, ms, rfl, SqL.of h8, ?_⟩
    k_extra "r_LL13"
    refine .inl ⟨_, rfl, ?_⟩
    k_extra "r_LL13"
    refine ⟨_, _, rfl, rfl, ⟨by decide, by decide +kernel⟩, ?_⟩
    refine q_mod ten39 ?_
    have far0 := Int.emod_nonneg ms.sum (Int.ne_of_gt ten39)
    generalize ms.sum % (10 : Int) ^ (39 : Int).toNat = far at far0 ⊢
    k_extra "r_LL13"
    refine ⟨x, g1, g2, g3, A1, zs, _, far, _, rfl, by rw [lt], sxB.mono T8, nA, nmz, by omega, far0, fun J9 U9 => ?_⟩
    have T9 := T8.trans U9
    k_extra "r_LL13"
    refine s_if0 rfl ?_
    k_extra "r_LL13"
    refine ⟨fl, ys, fs, cl, ts, zs, lp, xs, ps, rfl, T9 _ _ hfB, pfB.mono T9, nf, ndf, by omega, T9 _ _ hcB, csB.mono T9, by omega, T9 _ _ hlB, plB.mono T9, wn, wne, by omega, fun J10 U10 => ?_⟩
    k_extra "r_LL13"
    refine s_if0 rfl ?_
    k_extra "r_LL13"
    exact ⟨_, _, _, _, _, _, _, _, _, _, _, _, _, _, _, _, rfl, SqL_monoN (ext_same (T9.trans U10)) scB⟩
end
end Bt
namespace Bt
open PySem PySem.Spec PyProof.Rows L2
/-! ### what the top has written, and the law's own head -/
theorem kit_tup {K : PySem.W.Frag} {C : Addr} (h : PySem.W.subIn K (.ref C) (.type "tuple") = some false) : PySem.W.kitOne K (.ref C) (.type "tuple") = some false := by
  unfold PySem.W.kitOne
  have ne : ¬ ((Value.ref C == Value.type "tuple") = true) := fun z => nomatch z
  rw [if_neg ne]
  show (if PySem.W.kitMeta "tuple" = true then PySem.W.subIn K (.ref C) (.type "tuple") else none) = some false
  rw [if_pos (by decide +kernel)]
  exact h
theorem all_mk {l : PySem.W.OpenLaw} {w : World} {K : PySem.W.Frag} {h : Heap} {mg : Str → Option Value} {fa f_is_whole f_is_name f_is_place f_is_place_list f_is_change f_goes f_comes f_is_possible f_carry_out f_check_least f_check_index f_may_come f__standing_behind f__law_purse f__law_draw f__law_name f__law_names f__law_world f__law_fresh f__law_whole f__law_step f__law_change f__law_course f__law_refused f__law_refused_alone f__law_added f__law_got f__law_bad_changes f__law_odd_changes f__law_same f__law_indexes f__law_alike f__law_ordered_pair f__law_odd_parts f_law C_InvalidStory f_x_InvalidStory T_x_InvalidStory N_InvalidStory C_InvalidChange f_x_InvalidChange T_x_InvalidChange N_InvalidChange C_InvalidNumber f_x_InvalidNumber T_x_InvalidNumber N_InvalidNumber CSt f_Si T_Si f_Sc f_Sl f_Sg f_Sa f_Se f_St p_Sf f_Sf : Addr} {od_is_whole an_is_whole od_is_name an_is_name od_is_place an_is_place od_is_place_list an_is_place_list od_is_change an_is_change od_goes an_goes od_comes an_comes od_is_possible an_is_possible od_carry_out an_carry_out od_check_least an_check_least od_check_index an_check_index od_may_come an_may_come od__standing_behind an__standing_behind od__law_purse an__law_purse od__law_draw an__law_draw od__law_name an__law_name od__law_names an__law_names od__law_world an__law_world od__law_fresh an__law_fresh od__law_whole an__law_whole od__law_step an__law_step od__law_change an__law_change od__law_course an__law_course od__law_refused an__law_refused od__law_refused_alone an__law_refused_alone od__law_added an__law_added od__law_got an__law_got od__law_bad_changes an__law_bad_changes od__law_odd_changes an__law_odd_changes od__law_same an__law_same od__law_indexes an__law_indexes od__law_alike an__law_alike od__law_ordered_pair an__law_ordered_pair od__law_odd_parts an__law_odd_parts od_law an_law od_x_InvalidStory an_x_InvalidStory od_x_InvalidChange an_x_InvalidChange od_x_InvalidNumber an_x_InvalidNumber odTS od_Si an_Si od_Sc an_Sc od_Sl an_Sl od_Sg an_Sg od_Sa an_Sa od_Se an_Se od_St an_St od_Sf an_Sf : Option Addr} {sl_is_whole sl_is_name sl_is_place sl_is_place_list sl_is_change sl_goes sl_comes sl_is_possible sl_carry_out sl_check_least sl_check_index sl_may_come sl__standing_behind sl__law_purse sl__law_draw sl__law_name sl__law_names sl__law_world sl__law_fresh sl__law_whole sl__law_step sl__law_change sl__law_course sl__law_refused sl__law_refused_alone sl__law_added sl__law_got sl__law_bad_changes sl__law_odd_changes sl__law_same sl__law_indexes sl__law_alike sl__law_ordered_pair sl__law_odd_parts sl_law sl_x_InvalidStory sl_x_InvalidChange sl_x_InvalidNumber slTS sl_Si sl_Sc sl_Sl sl_Sg sl_Sa sl_Se sl_St sl_Sf : Array (Option Value)} {oc_is_whole kV_is_whole dc_is_whole pm_is_whole cd_is_whole ct_is_whole oc_is_name kV_is_name dc_is_name pm_is_name cd_is_name ct_is_name oc_is_place kV_is_place dc_is_place pm_is_place cd_is_place ct_is_place oc_is_place_list kV_is_place_list dc_is_place_list pm_is_place_list cd_is_place_list ct_is_place_list oc_is_change kV_is_change dc_is_change pm_is_change cd_is_change ct_is_change oc_goes kV_goes dc_goes pm_goes cd_goes ct_goes oc_comes kV_comes dc_comes pm_comes cd_comes ct_comes oc_is_possible kV_is_possible dc_is_possible pm_is_possible cd_is_possible ct_is_possible oc_carry_out kV_carry_out dc_carry_out pm_carry_out cd_carry_out ct_carry_out oc_check_least kV_check_least dc_check_least pm_check_least cd_check_least ct_check_least oc_check_index kV_check_index dc_check_index pm_check_index cd_check_index ct_check_index oc_may_come kV_may_come dc_may_come pm_may_come cd_may_come ct_may_come oc__standing_behind kV__standing_behind dc__standing_behind pm__standing_behind cd__standing_behind ct__standing_behind oc__law_purse kV__law_purse dc__law_purse pm__law_purse cd__law_purse ct__law_purse oc__law_draw kV__law_draw dc__law_draw pm__law_draw cd__law_draw ct__law_draw oc__law_name kV__law_name dc__law_name pm__law_name cd__law_name ct__law_name oc__law_names kV__law_names dc__law_names pm__law_names cd__law_names ct__law_names oc__law_world kV__law_world dc__law_world pm__law_world cd__law_world ct__law_world oc__law_fresh kV__law_fresh dc__law_fresh pm__law_fresh cd__law_fresh ct__law_fresh oc__law_whole kV__law_whole dc__law_whole pm__law_whole cd__law_whole ct__law_whole oc__law_step kV__law_step dc__law_step pm__law_step cd__law_step ct__law_step oc__law_change kV__law_change dc__law_change pm__law_change cd__law_change ct__law_change oc__law_course kV__law_course dc__law_course pm__law_course cd__law_course ct__law_course oc__law_refused kV__law_refused dc__law_refused pm__law_refused cd__law_refused ct__law_refused oc__law_refused_alone kV__law_refused_alone dc__law_refused_alone pm__law_refused_alone cd__law_refused_alone ct__law_refused_alone oc__law_added kV__law_added dc__law_added pm__law_added cd__law_added ct__law_added oc__law_got kV__law_got dc__law_got pm__law_got cd__law_got ct__law_got oc__law_bad_changes kV__law_bad_changes dc__law_bad_changes pm__law_bad_changes cd__law_bad_changes ct__law_bad_changes oc__law_odd_changes kV__law_odd_changes dc__law_odd_changes pm__law_odd_changes cd__law_odd_changes ct__law_odd_changes oc__law_same kV__law_same dc__law_same pm__law_same cd__law_same ct__law_same oc__law_indexes kV__law_indexes dc__law_indexes pm__law_indexes cd__law_indexes ct__law_indexes oc__law_alike kV__law_alike dc__law_alike pm__law_alike cd__law_alike ct__law_alike oc__law_ordered_pair kV__law_ordered_pair dc__law_ordered_pair pm__law_ordered_pair cd__law_ordered_pair ct__law_ordered_pair oc__law_odd_parts kV__law_odd_parts dc__law_odd_parts pm__law_odd_parts cd__law_odd_parts ct__law_odd_parts oc_law kV_law dc_law pm_law cd_law ct_law oc_x_InvalidStory kV_x_InvalidStory dc_x_InvalidStory pm_x_InvalidStory cd_x_InvalidStory ct_x_InvalidStory oc_x_InvalidChange kV_x_InvalidChange dc_x_InvalidChange pm_x_InvalidChange cd_x_InvalidChange ct_x_InvalidChange oc_x_InvalidNumber kV_x_InvalidNumber dc_x_InvalidNumber pm_x_InvalidNumber cd_x_InvalidNumber ct_x_InvalidNumber ocTS oc_Si kV_Si dc_Si pm_Si cd_Si ct_Si oc_Sc kV_Sc dc_Sc pm_Sc cd_Sc ct_Sc oc_Sl kV_Sl dc_Sl pm_Sl cd_Sl ct_Sl oc_Sg kV_Sg dc_Sg pm_Sg cd_Sg ct_Sg oc_Sa kV_Sa dc_Sa pm_Sa cd_Sa ct_Sa oc_Se kV_Se dc_Se pm_Se cd_Se ct_Se oc_St kV_St dc_St pm_St cd_St ct_St oc_Sf kV_Sf dc_Sf pm_Sf cd_Sf ct_Sf : Value} {tk_LETTERS tk_LONGEST_NAME : Tok} {nm_InvalidStory q_InvalidStory : Str} {bs_InvalidStory : List Value} {CB_InvalidStory : Addr} {sn_InvalidStory : List Str} {sub_InvalidStory : List Value} {ab_InvalidStory : Bool} {col_InvalidStory : Option Bool} {dd_InvalidStory : Option Addr} {m0_InvalidStory m1_InvalidStory m2_InvalidStory m3_InvalidStory m5_InvalidStory : Option Value} {ocT_InvalidStory : Value} {odT_InvalidStory : Option Addr} {nT_InvalidStory : Nat} {slT_InvalidStory : Array (Option Value)} {nm_InvalidChange q_InvalidChange : Str} {bs_InvalidChange : List Value} {CB_InvalidChange : Addr} {sn_InvalidChange : List Str} {sub_InvalidChange : List Value} {ab_InvalidChange : Bool} {col_InvalidChange : Option Bool} {dd_InvalidChange : Option Addr} {m0_InvalidChange m1_InvalidChange m2_InvalidChange m3_InvalidChange m5_InvalidChange : Option Value} {ocT_InvalidChange : Value} {odT_InvalidChange : Option Addr} {nT_InvalidChange : Nat} {slT_InvalidChange : Array (Option Value)} {nm_InvalidNumber q_InvalidNumber : Str} {bs_InvalidNumber : List Value} {CB_InvalidNumber : Addr} {sn_InvalidNumber : List Str} {sub_InvalidNumber : List Value} {ab_InvalidNumber : Bool} {col_InvalidNumber : Option Bool} {dd_InvalidNumber : Option Addr} {m0_InvalidNumber m1_InvalidNumber m2_InvalidNumber m3_InvalidNumber m5_InvalidNumber : Option Value} {ocT_InvalidNumber : Value} {odT_InvalidNumber : Option Addr} {nT_InvalidNumber : Nat} {slT_InvalidNumber : Array (Option Value)} {nTS : Nat} {rSf : List Value} (X : K.In h) (G : h.Ns mainGlobals mg) (hfa : mg "law" = some (.ref fa))
    (z_isinstance : PySem.W.nsIn K mainGlobals "isinstance" = some none)
    (z_int : PySem.W.nsIn K mainGlobals "int" = some none)
    (z_bool : PySem.W.nsIn K mainGlobals "bool" = some none)
    (z_str : PySem.W.nsIn K mainGlobals "str" = some none)
    (z_sorted : PySem.W.nsIn K mainGlobals "sorted" = some none)
    (z_tuple : PySem.W.nsIn K mainGlobals "tuple" = some none)
    (z_list : PySem.W.nsIn K mainGlobals "list" = some none)
    (z_set : PySem.W.nsIn K mainGlobals "set" = some none)
    (z_range : PySem.W.nsIn K mainGlobals "range" = some none)
    (z_sum : PySem.W.nsIn K mainGlobals "sum" = some none)
    (z_len : PySem.W.nsIn K mainGlobals "len" = some none)
    (z_all : PySem.W.nsIn K mainGlobals "all" = some none)
    (z_enumerate : PySem.W.nsIn K mainGlobals "enumerate" = some none)
    (v_LETTERS : PySem.W.nsIn K mainGlobals "LETTERS" = some (some (.str alphaS tk_LETTERS)))
    (v_LONGEST_NAME : PySem.W.nsIn K mainGlobals "LONGEST_NAME" = some (some (.int 8 tk_LONGEST_NAME)))
    (a_is_whole : PySem.W.nsIn K mainGlobals "is_whole" = some (some (.ref f_is_whole)))
    (l_is_whole : K.lookup f_is_whole = some ⟨oc_is_whole, od_is_whole, .func (PySem.W.fnOf "is_whole" "is_whole" (defArgs s_is_whole) (defBody s_is_whole) (defScope s_is_whole) .none kV_is_whole dc_is_whole pm_is_whole an_is_whole cd_is_whole ct_is_whole), sl_is_whole⟩)
    (c_is_whole : PySem.W.codeIn K cd_is_whole "is_whole" = true)
    (k_is_whole : PySem.W.keepIn K (.ref f_is_whole) = true)
    (a_is_name : PySem.W.nsIn K mainGlobals "is_name" = some (some (.ref f_is_name)))
    (l_is_name : K.lookup f_is_name = some ⟨oc_is_name, od_is_name, .func (PySem.W.fnOf "is_name" "is_name" (defArgs s_is_name) (defBody s_is_name) (defScope s_is_name) .none kV_is_name dc_is_name pm_is_name an_is_name cd_is_name ct_is_name), sl_is_name⟩)
    (c_is_name : PySem.W.codeIn K cd_is_name "is_name" = true)
    (k_is_name : PySem.W.keepIn K (.ref f_is_name) = true)
    (a_is_place : PySem.W.nsIn K mainGlobals "is_place" = some (some (.ref f_is_place)))
    (l_is_place : K.lookup f_is_place = some ⟨oc_is_place, od_is_place, .func (PySem.W.fnOf "is_place" "is_place" (defArgs s_is_place) (defBody s_is_place) (defScope s_is_place) .none kV_is_place dc_is_place pm_is_place an_is_place cd_is_place ct_is_place), sl_is_place⟩)
    (c_is_place : PySem.W.codeIn K cd_is_place "is_place" = true)
    (k_is_place : PySem.W.keepIn K (.ref f_is_place) = true)
    (a_is_place_list : PySem.W.nsIn K mainGlobals "is_place_list" = some (some (.ref f_is_place_list)))
    (l_is_place_list : K.lookup f_is_place_list = some ⟨oc_is_place_list, od_is_place_list, .func (PySem.W.fnOf "is_place_list" "is_place_list" (defArgs s_is_place_list) (defBody s_is_place_list) (defScope s_is_place_list) .none kV_is_place_list dc_is_place_list pm_is_place_list an_is_place_list cd_is_place_list ct_is_place_list), sl_is_place_list⟩)
    (c_is_place_list : PySem.W.codeIn K cd_is_place_list "is_place_list" = true)
    (k_is_place_list : PySem.W.keepIn K (.ref f_is_place_list) = true)
    (a_is_change : PySem.W.nsIn K mainGlobals "is_change" = some (some (.ref f_is_change)))
    (l_is_change : K.lookup f_is_change = some ⟨oc_is_change, od_is_change, .func (PySem.W.fnOf "is_change" "is_change" (defArgs s_is_change) (defBody s_is_change) (defScope s_is_change) .none kV_is_change dc_is_change pm_is_change an_is_change cd_is_change ct_is_change), sl_is_change⟩)
    (c_is_change : PySem.W.codeIn K cd_is_change "is_change" = true)
    (k_is_change : PySem.W.keepIn K (.ref f_is_change) = true)
    (a_goes : PySem.W.nsIn K mainGlobals "goes" = some (some (.ref f_goes)))
    (l_goes : K.lookup f_goes = some ⟨oc_goes, od_goes, .func (PySem.W.fnOf "goes" "goes" (defArgs s_goes) (defBody s_goes) (defScope s_goes) .none kV_goes dc_goes pm_goes an_goes cd_goes ct_goes), sl_goes⟩)
    (c_goes : PySem.W.codeIn K cd_goes "goes" = true)
    (k_goes : PySem.W.keepIn K (.ref f_goes) = true)
    (a_comes : PySem.W.nsIn K mainGlobals "comes" = some (some (.ref f_comes)))
    (l_comes : K.lookup f_comes = some ⟨oc_comes, od_comes, .func (PySem.W.fnOf "comes" "comes" (defArgs s_comes) (defBody s_comes) (defScope s_comes) .none kV_comes dc_comes pm_comes an_comes cd_comes ct_comes), sl_comes⟩)
    (c_comes : PySem.W.codeIn K cd_comes "comes" = true)
    (k_comes : PySem.W.keepIn K (.ref f_comes) = true)
    (a_is_possible : PySem.W.nsIn K mainGlobals "is_possible" = some (some (.ref f_is_possible)))
    (l_is_possible : K.lookup f_is_possible = some ⟨oc_is_possible, od_is_possible, .func (PySem.W.fnOf "is_possible" "is_possible" (defArgs s_is_possible) (defBody s_is_possible) (defScope s_is_possible) .none kV_is_possible dc_is_possible pm_is_possible an_is_possible cd_is_possible ct_is_possible), sl_is_possible⟩)
    (c_is_possible : PySem.W.codeIn K cd_is_possible "is_possible" = true)
    (k_is_possible : PySem.W.keepIn K (.ref f_is_possible) = true)
    (a_carry_out : PySem.W.nsIn K mainGlobals "carry_out" = some (some (.ref f_carry_out)))
    (l_carry_out : K.lookup f_carry_out = some ⟨oc_carry_out, od_carry_out, .func (PySem.W.fnOf "carry_out" "carry_out" (defArgs s_carry_out) (defBody s_carry_out) (defScope s_carry_out) .none kV_carry_out dc_carry_out pm_carry_out an_carry_out cd_carry_out ct_carry_out), sl_carry_out⟩)
    (c_carry_out : PySem.W.codeIn K cd_carry_out "carry_out" = true)
    (k_carry_out : PySem.W.keepIn K (.ref f_carry_out) = true)
    (a_check_least : PySem.W.nsIn K mainGlobals "check_least" = some (some (.ref f_check_least)))
    (l_check_least : K.lookup f_check_least = some ⟨oc_check_least, od_check_least, .func (PySem.W.fnOf "check_least" "check_least" (defArgs s_check_least) (defBody s_check_least) (defScope s_check_least) .none kV_check_least dc_check_least pm_check_least an_check_least cd_check_least ct_check_least), sl_check_least⟩)
    (c_check_least : PySem.W.codeIn K cd_check_least "check_least" = true)
    (k_check_least : PySem.W.keepIn K (.ref f_check_least) = true)
    (a_check_index : PySem.W.nsIn K mainGlobals "check_index" = some (some (.ref f_check_index)))
    (l_check_index : K.lookup f_check_index = some ⟨oc_check_index, od_check_index, .func (PySem.W.fnOf "check_index" "check_index" (defArgs s_check_index) (defBody s_check_index) (defScope s_check_index) .none kV_check_index dc_check_index pm_check_index an_check_index cd_check_index ct_check_index), sl_check_index⟩)
    (c_check_index : PySem.W.codeIn K cd_check_index "check_index" = true)
    (k_check_index : PySem.W.keepIn K (.ref f_check_index) = true)
    (a_may_come : PySem.W.nsIn K mainGlobals "may_come" = some (some (.ref f_may_come)))
    (l_may_come : K.lookup f_may_come = some ⟨oc_may_come, od_may_come, .func (PySem.W.fnOf "may_come" "may_come" (defArgs s_may_come) (defBody s_may_come) (defScope s_may_come) .none kV_may_come dc_may_come pm_may_come an_may_come cd_may_come ct_may_come), sl_may_come⟩)
    (c_may_come : PySem.W.codeIn K cd_may_come "may_come" = true)
    (k_may_come : PySem.W.keepIn K (.ref f_may_come) = true)
    (a__standing_behind : PySem.W.nsIn K mainGlobals "_standing_behind" = some (some (.ref f__standing_behind)))
    (l__standing_behind : K.lookup f__standing_behind = some ⟨oc__standing_behind, od__standing_behind, .func (PySem.W.fnOf "_standing_behind" "_standing_behind" (defArgs s__standing_behind) (defBody s__standing_behind) (defScope s__standing_behind) .none kV__standing_behind dc__standing_behind pm__standing_behind an__standing_behind cd__standing_behind ct__standing_behind), sl__standing_behind⟩)
    (c__standing_behind : PySem.W.codeIn K cd__standing_behind "_standing_behind" = true)
    (k__standing_behind : PySem.W.keepIn K (.ref f__standing_behind) = true)
    (a__law_purse : PySem.W.nsIn K mainGlobals "_law_purse" = some (some (.ref f__law_purse)))
    (l__law_purse : K.lookup f__law_purse = some ⟨oc__law_purse, od__law_purse, .func (PySem.W.fnOf "_law_purse" "_law_purse" (defArgs s__law_purse) (defBody s__law_purse) (defScope s__law_purse) .none kV__law_purse dc__law_purse pm__law_purse an__law_purse cd__law_purse ct__law_purse), sl__law_purse⟩)
    (c__law_purse : PySem.W.codeIn K cd__law_purse "_law_purse" = true)
    (k__law_purse : PySem.W.keepIn K (.ref f__law_purse) = true)
    (a__law_draw : PySem.W.nsIn K mainGlobals "_law_draw" = some (some (.ref f__law_draw)))
    (l__law_draw : K.lookup f__law_draw = some ⟨oc__law_draw, od__law_draw, .func (PySem.W.fnOf "_law_draw" "_law_draw" (defArgs s__law_draw) (defBody s__law_draw) (defScope s__law_draw) .none kV__law_draw dc__law_draw pm__law_draw an__law_draw cd__law_draw ct__law_draw), sl__law_draw⟩)
    (c__law_draw : PySem.W.codeIn K cd__law_draw "_law_draw" = true)
    (k__law_draw : PySem.W.keepIn K (.ref f__law_draw) = true)
    (a__law_name : PySem.W.nsIn K mainGlobals "_law_name" = some (some (.ref f__law_name)))
    (l__law_name : K.lookup f__law_name = some ⟨oc__law_name, od__law_name, .func (PySem.W.fnOf "_law_name" "_law_name" (defArgs s__law_name) (defBody s__law_name) (defScope s__law_name) .none kV__law_name dc__law_name pm__law_name an__law_name cd__law_name ct__law_name), sl__law_name⟩)
    (c__law_name : PySem.W.codeIn K cd__law_name "_law_name" = true)
    (k__law_name : PySem.W.keepIn K (.ref f__law_name) = true)
    (a__law_names : PySem.W.nsIn K mainGlobals "_law_names" = some (some (.ref f__law_names)))
    (l__law_names : K.lookup f__law_names = some ⟨oc__law_names, od__law_names, .func (PySem.W.fnOf "_law_names" "_law_names" (defArgs s__law_names) (defBody s__law_names) (defScope s__law_names) .none kV__law_names dc__law_names pm__law_names an__law_names cd__law_names ct__law_names), sl__law_names⟩)
    (c__law_names : PySem.W.codeIn K cd__law_names "_law_names" = true)
    (k__law_names : PySem.W.keepIn K (.ref f__law_names) = true)
    (a__law_world : PySem.W.nsIn K mainGlobals "_law_world" = some (some (.ref f__law_world)))
    (l__law_world : K.lookup f__law_world = some ⟨oc__law_world, od__law_world, .func (PySem.W.fnOf "_law_world" "_law_world" (defArgs s__law_world) (defBody s__law_world) (defScope s__law_world) .none kV__law_world dc__law_world pm__law_world an__law_world cd__law_world ct__law_world), sl__law_world⟩)
    (c__law_world : PySem.W.codeIn K cd__law_world "_law_world" = true)
    (k__law_world : PySem.W.keepIn K (.ref f__law_world) = true)
    (a__law_fresh : PySem.W.nsIn K mainGlobals "_law_fresh" = some (some (.ref f__law_fresh)))
    (l__law_fresh : K.lookup f__law_fresh = some ⟨oc__law_fresh, od__law_fresh, .func (PySem.W.fnOf "_law_fresh" "_law_fresh" (defArgs s__law_fresh) (defBody s__law_fresh) (defScope s__law_fresh) .none kV__law_fresh dc__law_fresh pm__law_fresh an__law_fresh cd__law_fresh ct__law_fresh), sl__law_fresh⟩)
    (c__law_fresh : PySem.W.codeIn K cd__law_fresh "_law_fresh" = true)
    (k__law_fresh : PySem.W.keepIn K (.ref f__law_fresh) = true)
    (a__law_whole : PySem.W.nsIn K mainGlobals "_law_whole" = some (some (.ref f__law_whole)))
    (l__law_whole : K.lookup f__law_whole = some ⟨oc__law_whole, od__law_whole, .func (PySem.W.fnOf "_law_whole" "_law_whole" (defArgs s__law_whole) (defBody s__law_whole) (defScope s__law_whole) .none kV__law_whole dc__law_whole pm__law_whole an__law_whole cd__law_whole ct__law_whole), sl__law_whole⟩)
    (c__law_whole : PySem.W.codeIn K cd__law_whole "_law_whole" = true)
    (k__law_whole : PySem.W.keepIn K (.ref f__law_whole) = true)
    (a__law_step : PySem.W.nsIn K mainGlobals "_law_step" = some (some (.ref f__law_step)))
    (l__law_step : K.lookup f__law_step = some ⟨oc__law_step, od__law_step, .func (PySem.W.fnOf "_law_step" "_law_step" (defArgs s__law_step) (defBody s__law_step) (defScope s__law_step) .none kV__law_step dc__law_step pm__law_step an__law_step cd__law_step ct__law_step), sl__law_step⟩)
    (c__law_step : PySem.W.codeIn K cd__law_step "_law_step" = true)
    (k__law_step : PySem.W.keepIn K (.ref f__law_step) = true)
    (a__law_change : PySem.W.nsIn K mainGlobals "_law_change" = some (some (.ref f__law_change)))
    (l__law_change : K.lookup f__law_change = some ⟨oc__law_change, od__law_change, .func (PySem.W.fnOf "_law_change" "_law_change" (defArgs s__law_change) (defBody s__law_change) (defScope s__law_change) .none kV__law_change dc__law_change pm__law_change an__law_change cd__law_change ct__law_change), sl__law_change⟩)
    (c__law_change : PySem.W.codeIn K cd__law_change "_law_change" = true)
    (k__law_change : PySem.W.keepIn K (.ref f__law_change) = true)
    (a__law_course : PySem.W.nsIn K mainGlobals "_law_course" = some (some (.ref f__law_course)))
    (l__law_course : K.lookup f__law_course = some ⟨oc__law_course, od__law_course, .func (PySem.W.fnOf "_law_course" "_law_course" (defArgs s__law_course) (defBody s__law_course) (defScope s__law_course) .none kV__law_course dc__law_course pm__law_course an__law_course cd__law_course ct__law_course), sl__law_course⟩)
    (c__law_course : PySem.W.codeIn K cd__law_course "_law_course" = true)
    (k__law_course : PySem.W.keepIn K (.ref f__law_course) = true)
    (a__law_refused : PySem.W.nsIn K mainGlobals "_law_refused" = some (some (.ref f__law_refused)))
    (l__law_refused : K.lookup f__law_refused = some ⟨oc__law_refused, od__law_refused, .func (PySem.W.fnOf "_law_refused" "_law_refused" (defArgs s__law_refused) (defBody s__law_refused) (defScope s__law_refused) .none kV__law_refused dc__law_refused pm__law_refused an__law_refused cd__law_refused ct__law_refused), sl__law_refused⟩)
    (c__law_refused : PySem.W.codeIn K cd__law_refused "_law_refused" = true)
    (k__law_refused : PySem.W.keepIn K (.ref f__law_refused) = true)
    (a__law_refused_alone : PySem.W.nsIn K mainGlobals "_law_refused_alone" = some (some (.ref f__law_refused_alone)))
    (l__law_refused_alone : K.lookup f__law_refused_alone = some ⟨oc__law_refused_alone, od__law_refused_alone, .func (PySem.W.fnOf "_law_refused_alone" "_law_refused_alone" (defArgs s__law_refused_alone) (defBody s__law_refused_alone) (defScope s__law_refused_alone) .none kV__law_refused_alone dc__law_refused_alone pm__law_refused_alone an__law_refused_alone cd__law_refused_alone ct__law_refused_alone), sl__law_refused_alone⟩)
    (c__law_refused_alone : PySem.W.codeIn K cd__law_refused_alone "_law_refused_alone" = true)
    (k__law_refused_alone : PySem.W.keepIn K (.ref f__law_refused_alone) = true)
    (a__law_added : PySem.W.nsIn K mainGlobals "_law_added" = some (some (.ref f__law_added)))
    (l__law_added : K.lookup f__law_added = some ⟨oc__law_added, od__law_added, .func (PySem.W.fnOf "_law_added" "_law_added" (defArgs s__law_added) (defBody s__law_added) (defScope s__law_added) .none kV__law_added dc__law_added pm__law_added an__law_added cd__law_added ct__law_added), sl__law_added⟩)
    (c__law_added : PySem.W.codeIn K cd__law_added "_law_added" = true)
    (k__law_added : PySem.W.keepIn K (.ref f__law_added) = true)
    (a__law_got : PySem.W.nsIn K mainGlobals "_law_got" = some (some (.ref f__law_got)))
    (l__law_got : K.lookup f__law_got = some ⟨oc__law_got, od__law_got, .func (PySem.W.fnOf "_law_got" "_law_got" (defArgs s__law_got) (defBody s__law_got) (defScope s__law_got) .none kV__law_got dc__law_got pm__law_got an__law_got cd__law_got ct__law_got), sl__law_got⟩)
    (c__law_got : PySem.W.codeIn K cd__law_got "_law_got" = true)
    (k__law_got : PySem.W.keepIn K (.ref f__law_got) = true)
    (a__law_bad_changes : PySem.W.nsIn K mainGlobals "_law_bad_changes" = some (some (.ref f__law_bad_changes)))
    (l__law_bad_changes : K.lookup f__law_bad_changes = some ⟨oc__law_bad_changes, od__law_bad_changes, .func (PySem.W.fnOf "_law_bad_changes" "_law_bad_changes" (defArgs s__law_bad_changes) (defBody s__law_bad_changes) (defScope s__law_bad_changes) .none kV__law_bad_changes dc__law_bad_changes pm__law_bad_changes an__law_bad_changes cd__law_bad_changes ct__law_bad_changes), sl__law_bad_changes⟩)
    (c__law_bad_changes : PySem.W.codeIn K cd__law_bad_changes "_law_bad_changes" = true)
    (k__law_bad_changes : PySem.W.keepIn K (.ref f__law_bad_changes) = true)
    (a__law_odd_changes : PySem.W.nsIn K mainGlobals "_law_odd_changes" = some (some (.ref f__law_odd_changes)))
    (l__law_odd_changes : K.lookup f__law_odd_changes = some ⟨oc__law_odd_changes, od__law_odd_changes, .func (PySem.W.fnOf "_law_odd_changes" "_law_odd_changes" (defArgs s__law_odd_changes) (defBody s__law_odd_changes) (defScope s__law_odd_changes) .none kV__law_odd_changes dc__law_odd_changes pm__law_odd_changes an__law_odd_changes cd__law_odd_changes ct__law_odd_changes), sl__law_odd_changes⟩)
    (c__law_odd_changes : PySem.W.codeIn K cd__law_odd_changes "_law_odd_changes" = true)
    (k__law_odd_changes : PySem.W.keepIn K (.ref f__law_odd_changes) = true)
    (a__law_same : PySem.W.nsIn K mainGlobals "_law_same" = some (some (.ref f__law_same)))
    (l__law_same : K.lookup f__law_same = some ⟨oc__law_same, od__law_same, .func (PySem.W.fnOf "_law_same" "_law_same" (defArgs s__law_same) (defBody s__law_same) (defScope s__law_same) .none kV__law_same dc__law_same pm__law_same an__law_same cd__law_same ct__law_same), sl__law_same⟩)
    (c__law_same : PySem.W.codeIn K cd__law_same "_law_same" = true)
    (k__law_same : PySem.W.keepIn K (.ref f__law_same) = true)
    (a__law_indexes : PySem.W.nsIn K mainGlobals "_law_indexes" = some (some (.ref f__law_indexes)))
    (l__law_indexes : K.lookup f__law_indexes = some ⟨oc__law_indexes, od__law_indexes, .func (PySem.W.fnOf "_law_indexes" "_law_indexes" (defArgs s__law_indexes) (defBody s__law_indexes) (defScope s__law_indexes) .none kV__law_indexes dc__law_indexes pm__law_indexes an__law_indexes cd__law_indexes ct__law_indexes), sl__law_indexes⟩)
    (c__law_indexes : PySem.W.codeIn K cd__law_indexes "_law_indexes" = true)
    (k__law_indexes : PySem.W.keepIn K (.ref f__law_indexes) = true)
    (a__law_alike : PySem.W.nsIn K mainGlobals "_law_alike" = some (some (.ref f__law_alike)))
    (l__law_alike : K.lookup f__law_alike = some ⟨oc__law_alike, od__law_alike, .func (PySem.W.fnOf "_law_alike" "_law_alike" (defArgs s__law_alike) (defBody s__law_alike) (defScope s__law_alike) .none kV__law_alike dc__law_alike pm__law_alike an__law_alike cd__law_alike ct__law_alike), sl__law_alike⟩)
    (c__law_alike : PySem.W.codeIn K cd__law_alike "_law_alike" = true)
    (k__law_alike : PySem.W.keepIn K (.ref f__law_alike) = true)
    (a__law_ordered_pair : PySem.W.nsIn K mainGlobals "_law_ordered_pair" = some (some (.ref f__law_ordered_pair)))
    (l__law_ordered_pair : K.lookup f__law_ordered_pair = some ⟨oc__law_ordered_pair, od__law_ordered_pair, .func (PySem.W.fnOf "_law_ordered_pair" "_law_ordered_pair" (defArgs s__law_ordered_pair) (defBody s__law_ordered_pair) (defScope s__law_ordered_pair) .none kV__law_ordered_pair dc__law_ordered_pair pm__law_ordered_pair an__law_ordered_pair cd__law_ordered_pair ct__law_ordered_pair), sl__law_ordered_pair⟩)
    (c__law_ordered_pair : PySem.W.codeIn K cd__law_ordered_pair "_law_ordered_pair" = true)
    (k__law_ordered_pair : PySem.W.keepIn K (.ref f__law_ordered_pair) = true)
    (a__law_odd_parts : PySem.W.nsIn K mainGlobals "_law_odd_parts" = some (some (.ref f__law_odd_parts)))
    (l__law_odd_parts : K.lookup f__law_odd_parts = some ⟨oc__law_odd_parts, od__law_odd_parts, .func (PySem.W.fnOf "_law_odd_parts" "_law_odd_parts" (defArgs s__law_odd_parts) (defBody s__law_odd_parts) (defScope s__law_odd_parts) .none kV__law_odd_parts dc__law_odd_parts pm__law_odd_parts an__law_odd_parts cd__law_odd_parts ct__law_odd_parts), sl__law_odd_parts⟩)
    (c__law_odd_parts : PySem.W.codeIn K cd__law_odd_parts "_law_odd_parts" = true)
    (k__law_odd_parts : PySem.W.keepIn K (.ref f__law_odd_parts) = true)
    (a_law : PySem.W.nsIn K mainGlobals "law" = some (some (.ref f_law)))
    (l_law : K.lookup f_law = some ⟨oc_law, od_law, .func (PySem.W.fnOf "law" "law" (defArgs s_law) (defBody s_law) (defScope s_law) .none kV_law dc_law pm_law an_law cd_law ct_law), sl_law⟩)
    (c_law : PySem.W.codeIn K cd_law "law" = true)
    (k_law : PySem.W.keepIn K (.ref f_law) = true)
    (g_InvalidStory : PySem.W.nsIn K mainGlobals "InvalidStory" = some (some (.ref C_InvalidStory)))
    (xL_InvalidStory : K.lookup C_InvalidStory = some (excClassObj nm_InvalidStory q_InvalidStory C_InvalidStory N_InvalidStory bs_InvalidStory [.ref CB_InvalidStory, .type "ValueError", .type "Exception", .type "BaseException", .type "object"] true sn_InvalidStory sub_InvalidStory ab_InvalidStory col_InvalidStory dd_InvalidStory m0_InvalidStory m1_InvalidStory m2_InvalidStory m3_InvalidStory m5_InvalidStory "ValueError.__new__"))
    (sa_InvalidStory : PySem.W.findIn K (.ref C_InvalidStory) "__setattr__" = some (some (.builtin "object.__setattr__")))
    (ga_InvalidStory : PySem.W.findIn K (.ref C_InvalidStory) "__getattribute__" = some (some (.builtin "BaseException.__getattribute__")))
    (gg_InvalidStory : PySem.W.findIn K (.ref C_InvalidStory) "__getattr__" = some none)
    (no_InvalidStory : PySem.W.findIn K (.ref C_InvalidStory) "value" = some none)
    (in_InvalidStory : PySem.W.findIn K (.ref C_InvalidStory) "__init__" = some (some (.ref f_x_InvalidStory)))
    (ti_InvalidStory : PySem.W.typeIn K (.ref f_x_InvalidStory) = some (.type "function"))
    (l_x_InvalidStory : K.lookup f_x_InvalidStory = some ⟨oc_x_InvalidStory, od_x_InvalidStory, .func (PySem.W.fnOf "__init__" "InvalidStory.__init__" (defArgs s_InvalidStory___init__) (defBody s_InvalidStory___init__) (defScope s_InvalidStory___init__) (.ref T_x_InvalidStory) kV_x_InvalidStory dc_x_InvalidStory pm_x_InvalidStory an_x_InvalidStory cd_x_InvalidStory ct_x_InvalidStory), sl_x_InvalidStory⟩)
    (c_x_InvalidStory : PySem.W.codeIn K cd_x_InvalidStory "InvalidStory.__init__" = true)
    (k_x_InvalidStory : PySem.W.keepIn K (.ref f_x_InvalidStory) = true)
    (lT_InvalidStory : K.lookup T_x_InvalidStory = some ⟨ocT_InvalidStory, odT_InvalidStory, .seq #[.none] nT_InvalidStory, slT_InvalidStory⟩)
    (kC_InvalidStory : PySem.W.keepIn K (.ref C_InvalidStory) = true)
    (eC_InvalidStory : PySem.W.subIn K (.ref C_InvalidStory) (.type "BaseException") = some true)
    (tC_InvalidStory : PySem.W.typeIn K (.ref C_InvalidStory) = some (.type "type"))
    (hC_InvalidStory : PySem.W.hasDictIn K C_InvalidStory = true)
    (iC_InvalidStory : PySem.W.isClsIn K C_InvalidStory = true)
    (sC_InvalidStory : PySem.W.subIn K (.ref C_InvalidStory) (.ref C_InvalidStory) = some true)
    (g_InvalidChange : PySem.W.nsIn K mainGlobals "InvalidChange" = some (some (.ref C_InvalidChange)))
    (xL_InvalidChange : K.lookup C_InvalidChange = some (excClassObj nm_InvalidChange q_InvalidChange C_InvalidChange N_InvalidChange bs_InvalidChange [.ref CB_InvalidChange, .type "ValueError", .type "Exception", .type "BaseException", .type "object"] true sn_InvalidChange sub_InvalidChange ab_InvalidChange col_InvalidChange dd_InvalidChange m0_InvalidChange m1_InvalidChange m2_InvalidChange m3_InvalidChange m5_InvalidChange "ValueError.__new__"))
    (sa_InvalidChange : PySem.W.findIn K (.ref C_InvalidChange) "__setattr__" = some (some (.builtin "object.__setattr__")))
    (ga_InvalidChange : PySem.W.findIn K (.ref C_InvalidChange) "__getattribute__" = some (some (.builtin "BaseException.__getattribute__")))
    (gg_InvalidChange : PySem.W.findIn K (.ref C_InvalidChange) "__getattr__" = some none)
    (no_InvalidChange : PySem.W.findIn K (.ref C_InvalidChange) "value" = some none)
    (in_InvalidChange : PySem.W.findIn K (.ref C_InvalidChange) "__init__" = some (some (.ref f_x_InvalidChange)))
    (ti_InvalidChange : PySem.W.typeIn K (.ref f_x_InvalidChange) = some (.type "function"))
    (l_x_InvalidChange : K.lookup f_x_InvalidChange = some ⟨oc_x_InvalidChange, od_x_InvalidChange, .func (PySem.W.fnOf "__init__" "InvalidChange.__init__" (defArgs s_InvalidChange___init__) (defBody s_InvalidChange___init__) (defScope s_InvalidChange___init__) (.ref T_x_InvalidChange) kV_x_InvalidChange dc_x_InvalidChange pm_x_InvalidChange an_x_InvalidChange cd_x_InvalidChange ct_x_InvalidChange), sl_x_InvalidChange⟩)
    (c_x_InvalidChange : PySem.W.codeIn K cd_x_InvalidChange "InvalidChange.__init__" = true)
    (k_x_InvalidChange : PySem.W.keepIn K (.ref f_x_InvalidChange) = true)
    (lT_InvalidChange : K.lookup T_x_InvalidChange = some ⟨ocT_InvalidChange, odT_InvalidChange, .seq #[.none] nT_InvalidChange, slT_InvalidChange⟩)
    (kC_InvalidChange : PySem.W.keepIn K (.ref C_InvalidChange) = true)
    (eC_InvalidChange : PySem.W.subIn K (.ref C_InvalidChange) (.type "BaseException") = some true)
    (tC_InvalidChange : PySem.W.typeIn K (.ref C_InvalidChange) = some (.type "type"))
    (hC_InvalidChange : PySem.W.hasDictIn K C_InvalidChange = true)
    (iC_InvalidChange : PySem.W.isClsIn K C_InvalidChange = true)
    (sC_InvalidChange : PySem.W.subIn K (.ref C_InvalidChange) (.ref C_InvalidChange) = some true)
    (g_InvalidNumber : PySem.W.nsIn K mainGlobals "InvalidNumber" = some (some (.ref C_InvalidNumber)))
    (xL_InvalidNumber : K.lookup C_InvalidNumber = some (excClassObj nm_InvalidNumber q_InvalidNumber C_InvalidNumber N_InvalidNumber bs_InvalidNumber [.ref CB_InvalidNumber, .type "ValueError", .type "Exception", .type "BaseException", .type "object"] true sn_InvalidNumber sub_InvalidNumber ab_InvalidNumber col_InvalidNumber dd_InvalidNumber m0_InvalidNumber m1_InvalidNumber m2_InvalidNumber m3_InvalidNumber m5_InvalidNumber "ValueError.__new__"))
    (sa_InvalidNumber : PySem.W.findIn K (.ref C_InvalidNumber) "__setattr__" = some (some (.builtin "object.__setattr__")))
    (ga_InvalidNumber : PySem.W.findIn K (.ref C_InvalidNumber) "__getattribute__" = some (some (.builtin "BaseException.__getattribute__")))
    (gg_InvalidNumber : PySem.W.findIn K (.ref C_InvalidNumber) "__getattr__" = some none)
    (no_InvalidNumber : PySem.W.findIn K (.ref C_InvalidNumber) "value" = some none)
    (in_InvalidNumber : PySem.W.findIn K (.ref C_InvalidNumber) "__init__" = some (some (.ref f_x_InvalidNumber)))
    (ti_InvalidNumber : PySem.W.typeIn K (.ref f_x_InvalidNumber) = some (.type "function"))
    (l_x_InvalidNumber : K.lookup f_x_InvalidNumber = some ⟨oc_x_InvalidNumber, od_x_InvalidNumber, .func (PySem.W.fnOf "__init__" "InvalidNumber.__init__" (defArgs s_InvalidNumber___init__) (defBody s_InvalidNumber___init__) (defScope s_InvalidNumber___init__) (.ref T_x_InvalidNumber) kV_x_InvalidNumber dc_x_InvalidNumber pm_x_InvalidNumber an_x_InvalidNumber cd_x_InvalidNumber ct_x_InvalidNumber), sl_x_InvalidNumber⟩)
    (c_x_InvalidNumber : PySem.W.codeIn K cd_x_InvalidNumber "InvalidNumber.__init__" = true)
    (k_x_InvalidNumber : PySem.W.keepIn K (.ref f_x_InvalidNumber) = true)
    (lT_InvalidNumber : K.lookup T_x_InvalidNumber = some ⟨ocT_InvalidNumber, odT_InvalidNumber, .seq #[.none] nT_InvalidNumber, slT_InvalidNumber⟩)
    (kC_InvalidNumber : PySem.W.keepIn K (.ref C_InvalidNumber) = true)
    (eC_InvalidNumber : PySem.W.subIn K (.ref C_InvalidNumber) (.type "BaseException") = some true)
    (tC_InvalidNumber : PySem.W.typeIn K (.ref C_InvalidNumber) = some (.type "type"))
    (hC_InvalidNumber : PySem.W.hasDictIn K C_InvalidNumber = true)
    (iC_InvalidNumber : PySem.W.isClsIn K C_InvalidNumber = true)
    (sC_InvalidNumber : PySem.W.subIn K (.ref C_InvalidNumber) (.ref C_InvalidNumber) = some true)
    (g_S : PySem.W.nsIn K mainGlobals "Story" = some (some (.ref CSt)))
    (pg_S : PySem.W.plainGet K CSt Str.empty = true)
    (hd_S : PySem.W.hasDictIn K CSt = true)
    (po_S : PySem.W.plainOver K CSt = true)
    (sa_S : PySem.W.findIn K (.ref CSt) "__setattr__" = some (some (.builtin "object.__setattr__")))
    (mk_S : PySem.W.makesIn K CSt = true)
    (kc_S : PySem.W.keepIn K (.ref CSt) = true)
    (n1_S : PySem.W.findIn K (.ref CSt) "_first" = some none)
    (n2_S : PySem.W.findIn K (.ref CSt) "_changes" = some none)
    (n3_S : PySem.W.findIn K (.ref CSt) "_last" = some none)
    (in_S : PySem.W.findIn K (.ref CSt) "__init__" = some (some (.ref f_Si)))
    (if_S : PySem.W.isFn K (.ref f_Si) = true)
    (l_Si : K.lookup f_Si = some ⟨oc_Si, od_Si, .func (PySem.W.fnOf "__init__" "Story.__init__" (defArgs s_Story___init__) (defBody s_Story___init__) (defScope s_Story___init__) (.ref T_Si) kV_Si dc_Si pm_Si an_Si cd_Si ct_Si), sl_Si⟩)
    (c_Si : PySem.W.codeIn K cd_Si "Story.__init__" = true)
    (k_Si : PySem.W.keepIn K (.ref f_Si) = true)
    (lT_S : K.lookup T_Si = some ⟨ocTS, odTS, .seq #[.none] nTS, slTS⟩)
    (sT_S : PySem.W.subIn K (.ref CSt) (.type "tuple") = some false)
    (sS_S : PySem.W.subIn K (.ref CSt) (.type "str") = some false)
    (at_Sc : PySem.W.findIn K (.ref CSt) "__contains__" = some (some (.ref f_Sc)))
    (fn_Sc : PySem.W.isFn K (.ref f_Sc) = true)
    (l_Sc : K.lookup f_Sc = some ⟨oc_Sc, od_Sc, .func (PySem.W.fnOf "__contains__" "Story.__contains__" (defArgs s_Story___contains__) (defBody s_Story___contains__) (defScope s_Story___contains__) .none kV_Sc dc_Sc pm_Sc an_Sc cd_Sc ct_Sc), sl_Sc⟩)
    (c_Sc : PySem.W.codeIn K cd_Sc "Story.__contains__" = true)
    (k_Sc : PySem.W.keepIn K (.ref f_Sc) = true)
    (i1_S : PySem.W.findIn K (.ref CSt) "__class__" = some (some (.builtin "object.__class__")))
    (i2_S : PySem.W.specialIn K (.builtin "object.__class__") "__get__" = some (some (.builtin "getset_descriptor.__get__")))
    (i3_S : PySem.W.takesIn K (.builtin "object.__class__") = some true)
    (i4_S : PySem.W.mroIn K CSt (.type "object") = some true)
    (cC_S : PySem.W.isClsIn K CSt = true)
    (tC_S : PySem.W.typeIn K (.ref CSt) = some (.type "type"))
    (at_Sl : PySem.W.findIn K (.ref CSt) "__len__" = some (some (.ref f_Sl)))
    (fn_Sl : PySem.W.isFn K (.ref f_Sl) = true)
    (l_Sl : K.lookup f_Sl = some ⟨oc_Sl, od_Sl, .func (PySem.W.fnOf "__len__" "Story.__len__" (defArgs s_Story___len__) (defBody s_Story___len__) (defScope s_Story___len__) .none kV_Sl dc_Sl pm_Sl an_Sl cd_Sl ct_Sl), sl_Sl⟩)
    (c_Sl : PySem.W.codeIn K cd_Sl "Story.__len__" = true)
    (k_Sl : PySem.W.keepIn K (.ref f_Sl) = true)
    (at_Sg : PySem.W.findIn K (.ref CSt) "__getitem__" = some (some (.ref f_Sg)))
    (fn_Sg : PySem.W.isFn K (.ref f_Sg) = true)
    (l_Sg : K.lookup f_Sg = some ⟨oc_Sg, od_Sg, .func (PySem.W.fnOf "__getitem__" "Story.__getitem__" (defArgs s_Story___getitem__) (defBody s_Story___getitem__) (defScope s_Story___getitem__) .none kV_Sg dc_Sg pm_Sg an_Sg cd_Sg ct_Sg), sl_Sg⟩)
    (c_Sg : PySem.W.codeIn K cd_Sg "Story.__getitem__" = true)
    (k_Sg : PySem.W.keepIn K (.ref f_Sg) = true)
    (fi_Sg : PySem.W.fnIn K f_Sg = true)
    (at_Sa : PySem.W.findIn K (.ref CSt) "__iadd__" = some (some (.ref f_Sa)))
    (fn_Sa : PySem.W.isFn K (.ref f_Sa) = true)
    (l_Sa : K.lookup f_Sa = some ⟨oc_Sa, od_Sa, .func (PySem.W.fnOf "__iadd__" "Story.__iadd__" (defArgs s_Story___iadd__) (defBody s_Story___iadd__) (defScope s_Story___iadd__) .none kV_Sa dc_Sa pm_Sa an_Sa cd_Sa ct_Sa), sl_Sa⟩)
    (c_Sa : PySem.W.codeIn K cd_Sa "Story.__iadd__" = true)
    (k_Sa : PySem.W.keepIn K (.ref f_Sa) = true)
    (sf_S : PySem.W.selfFirst K CSt = true)
    (at_Se : PySem.W.findIn K (.ref CSt) "__eq__" = some (some (.ref f_Se)))
    (fn_Se : PySem.W.isFn K (.ref f_Se) = true)
    (l_Se : K.lookup f_Se = some ⟨oc_Se, od_Se, .func (PySem.W.fnOf "__eq__" "Story.__eq__" (defArgs s_Story___eq__) (defBody s_Story___eq__) (defScope s_Story___eq__) .none kV_Se dc_Se pm_Se an_Se cd_Se ct_Se), sl_Se⟩)
    (c_Se : PySem.W.codeIn K cd_Se "Story.__eq__" = true)
    (k_Se : PySem.W.keepIn K (.ref f_Se) = true)
    (at_St : PySem.W.findIn K (.ref CSt) "at" = some (some (.ref f_St)))
    (fn_St : PySem.W.isFn K (.ref f_St) = true)
    (l_St : K.lookup f_St = some ⟨oc_St, od_St, .func (PySem.W.fnOf "at" "Story.at" (defArgs s_Story_at) (defBody s_Story_at) (defScope s_Story_at) .none kV_St dc_St pm_St an_St cd_St ct_St), sl_St⟩)
    (c_St : PySem.W.codeIn K cd_St "Story.at" = true)
    (k_St : PySem.W.keepIn K (.ref f_St) = true)
    (at_Sf : PySem.W.findIn K (.ref CSt) "first" = some (some (.ref p_Sf)))
    (gt_Sf : PySem.W.specialIn K (.ref p_Sf) "__get__" = some (some (.builtin "property.__get__")))
    (tk_Sf : PySem.W.takesIn K (.ref p_Sf) = some true)
    (rc_Sf : PySem.W.recIn K p_Sf "property" = some (.ref f_Sf :: rSf))
    (l_Sf : K.lookup f_Sf = some ⟨oc_Sf, od_Sf, .func (PySem.W.fnOf "first" "Story.first" (defArgs s_Story_first) (defBody s_Story_first) (defScope s_Story_first) .none kV_Sf dc_Sf pm_Sf an_Sf cd_Sf ct_Sf), sl_Sf⟩)
    (c_Sf : PySem.W.codeIn K cd_Sf "Story.first" = true)
    (k_Sf : PySem.W.keepIn K (.ref f_Sf) = true) :
    ∃ fd : FuncData, (∀ (s : Shared) (v : Value), BindsTo s fd ⟨[v], []⟩ [("_law_script", v)]) ∧ ∀ base : Heap, K.In base → base.Ns mainGlobals mg → FnOk l.prog w K mg base CX0 10 fa fd ["_law_script"] (spLaw K) := by
  have e := hfa.symm.trans (PySem.W.mg_of X G a_law)
  cases e
  have N_isinstance : mg "isinstance" = none := PySem.W.mg_none_of X G z_isinstance
  have N_int : mg "int" = none := PySem.W.mg_none_of X G z_int
  have N_bool : mg "bool" = none := PySem.W.mg_none_of X G z_bool
  have N_str : mg "str" = none := PySem.W.mg_none_of X G z_str
  have N_sorted : mg "sorted" = none := PySem.W.mg_none_of X G z_sorted
  have N_tuple : mg "tuple" = none := PySem.W.mg_none_of X G z_tuple
  have N_list : mg "list" = none := PySem.W.mg_none_of X G z_list
  have N_set : mg "set" = none := PySem.W.mg_none_of X G z_set
  have N_range : mg "range" = none := PySem.W.mg_none_of X G z_range
  have N_sum : mg "sum" = none := PySem.W.mg_none_of X G z_sum
  have N_len : mg "len" = none := PySem.W.mg_none_of X G z_len
  have N_all : mg "all" = none := PySem.W.mg_none_of X G z_all
  have N_enumerate : mg "enumerate" = none := PySem.W.mg_none_of X G z_enumerate
  have V_LETTERS : ∃ t, mg "LETTERS" = some (.str alphaS t) := ⟨_, PySem.W.mg_of X G v_LETTERS⟩
  have V_LONGEST_NAME : ∃ t, mg "LONGEST_NAME" = some (.int 8 t) := ⟨_, PySem.W.mg_of X G v_LONGEST_NAME⟩
  have D_is_whole : Df K mg "is_whole" s_is_whole ["value"] := ⟨f_is_whole, _, fun_mk (st := s_is_whole) l_is_whole c_is_whole k_is_whole, PySem.W.mg_of X G a_is_whole, (fun_mk (st := s_is_whole) l_is_whole c_is_whole k_is_whole).binds fun _ _ _ _ _ _ us hl => match us, hl with | [_], _ => rfl⟩
  have D_is_name : Df K mg "is_name" s_is_name ["value"] := ⟨f_is_name, _, fun_mk (st := s_is_name) l_is_name c_is_name k_is_name, PySem.W.mg_of X G a_is_name, (fun_mk (st := s_is_name) l_is_name c_is_name k_is_name).binds fun _ _ _ _ _ _ us hl => match us, hl with | [_], _ => rfl⟩
  have D_is_place : Df K mg "is_place" s_is_place ["value"] := ⟨f_is_place, _, fun_mk (st := s_is_place) l_is_place c_is_place k_is_place, PySem.W.mg_of X G a_is_place, (fun_mk (st := s_is_place) l_is_place c_is_place k_is_place).binds fun _ _ _ _ _ _ us hl => match us, hl with | [_], _ => rfl⟩
  have D_is_place_list : Df K mg "is_place_list" s_is_place_list ["value"] := ⟨f_is_place_list, _, fun_mk (st := s_is_place_list) l_is_place_list c_is_place_list k_is_place_list, PySem.W.mg_of X G a_is_place_list, (fun_mk (st := s_is_place_list) l_is_place_list c_is_place_list k_is_place_list).binds fun _ _ _ _ _ _ us hl => match us, hl with | [_], _ => rfl⟩
  have D_is_change : Df K mg "is_change" s_is_change ["value"] := ⟨f_is_change, _, fun_mk (st := s_is_change) l_is_change c_is_change k_is_change, PySem.W.mg_of X G a_is_change, (fun_mk (st := s_is_change) l_is_change c_is_change k_is_change).binds fun _ _ _ _ _ _ us hl => match us, hl with | [_], _ => rfl⟩
  have D_goes : Df K mg "goes" s_goes ["change"] := ⟨f_goes, _, fun_mk (st := s_goes) l_goes c_goes k_goes, PySem.W.mg_of X G a_goes, (fun_mk (st := s_goes) l_goes c_goes k_goes).binds fun _ _ _ _ _ _ us hl => match us, hl with | [_], _ => rfl⟩
  have D_comes : Df K mg "comes" s_comes ["change"] := ⟨f_comes, _, fun_mk (st := s_comes) l_comes c_comes k_comes, PySem.W.mg_of X G a_comes, (fun_mk (st := s_comes) l_comes c_comes k_comes).binds fun _ _ _ _ _ _ us hl => match us, hl with | [_], _ => rfl⟩
  have D_is_possible : Df K mg "is_possible" s_is_possible ["change", "standing"] := ⟨f_is_possible, _, fun_mk (st := s_is_possible) l_is_possible c_is_possible k_is_possible, PySem.W.mg_of X G a_is_possible, (fun_mk (st := s_is_possible) l_is_possible c_is_possible k_is_possible).binds fun _ _ _ _ _ _ us hl => match us, hl with | [_, _], _ => rfl⟩
  have D_carry_out : Df K mg "carry_out" s_carry_out ["change", "standing"] := ⟨f_carry_out, _, fun_mk (st := s_carry_out) l_carry_out c_carry_out k_carry_out, PySem.W.mg_of X G a_carry_out, (fun_mk (st := s_carry_out) l_carry_out c_carry_out k_carry_out).binds fun _ _ _ _ _ _ us hl => match us, hl with | [_, _], _ => rfl⟩
  have D_check_least : Df K mg "check_least" s_check_least ["value", "least"] := ⟨f_check_least, _, fun_mk (st := s_check_least) l_check_least c_check_least k_check_least, PySem.W.mg_of X G a_check_least, (fun_mk (st := s_check_least) l_check_least c_check_least k_check_least).binds fun _ _ _ _ _ _ us hl => match us, hl with | [_, _], _ => rfl⟩
  have D_check_index : Df K mg "check_index" s_check_index ["value", "many"] := ⟨f_check_index, _, fun_mk (st := s_check_index) l_check_index c_check_index k_check_index, PySem.W.mg_of X G a_check_index, (fun_mk (st := s_check_index) l_check_index c_check_index k_check_index).binds fun _ _ _ _ _ _ us hl => match us, hl with | [_, _], _ => rfl⟩
  have D_may_come : Df K mg "may_come" s_may_come ["change", "gap", "standing"] := ⟨f_may_come, _, fun_mk (st := s_may_come) l_may_come c_may_come k_may_come, PySem.W.mg_of X G a_may_come, (fun_mk (st := s_may_come) l_may_come c_may_come k_may_come).binds fun _ _ _ _ _ _ us hl => match us, hl with | [_, _, _], _ => rfl⟩
  have D__standing_behind : Df K mg "_standing_behind" s__standing_behind ["first", "changes"] := ⟨f__standing_behind, _, fun_mk (st := s__standing_behind) l__standing_behind c__standing_behind k__standing_behind, PySem.W.mg_of X G a__standing_behind, (fun_mk (st := s__standing_behind) l__standing_behind c__standing_behind k__standing_behind).binds fun _ _ _ _ _ _ us hl => match us, hl with | [_, _], _ => rfl⟩
  have D__law_purse : Df K mg "_law_purse" s__law_purse ["_law_script", "_law_at"] := ⟨f__law_purse, _, fun_mk (st := s__law_purse) l__law_purse c__law_purse k__law_purse, PySem.W.mg_of X G a__law_purse, (fun_mk (st := s__law_purse) l__law_purse c__law_purse k__law_purse).binds fun _ _ _ _ _ _ us hl => match us, hl with | [_, _], _ => rfl⟩
  have D__law_draw : Df K mg "_law_draw" s__law_draw ["_law_purse_here", "_law_many"] := ⟨f__law_draw, _, fun_mk (st := s__law_draw) l__law_draw c__law_draw k__law_draw, PySem.W.mg_of X G a__law_draw, (fun_mk (st := s__law_draw) l__law_draw c__law_draw k__law_draw).binds fun _ _ _ _ _ _ us hl => match us, hl with | [_, _], _ => rfl⟩
  have D__law_name : Df K mg "_law_name" s__law_name ["_law_purse_here"] := ⟨f__law_name, _, fun_mk (st := s__law_name) l__law_name c__law_name k__law_name, PySem.W.mg_of X G a__law_name, (fun_mk (st := s__law_name) l__law_name c__law_name k__law_name).binds fun _ _ _ _ _ _ us hl => match us, hl with | [_], _ => rfl⟩
  have D__law_names : Df K mg "_law_names" s__law_names ["_law_purse_here", "_law_many"] := ⟨f__law_names, _, fun_mk (st := s__law_names) l__law_names c__law_names k__law_names, PySem.W.mg_of X G a__law_names, (fun_mk (st := s__law_names) l__law_names c__law_names k__law_names).binds fun _ _ _ _ _ _ us hl => match us, hl with | [_, _], _ => rfl⟩
  have D__law_world : Df K mg "_law_world" s__law_world ["_law_purse_here"] := ⟨f__law_world, _, fun_mk (st := s__law_world) l__law_world c__law_world k__law_world, PySem.W.mg_of X G a__law_world, (fun_mk (st := s__law_world) l__law_world c__law_world k__law_world).binds fun _ _ _ _ _ _ us hl => match us, hl with | [_], _ => rfl⟩
  have D__law_fresh : Df K mg "_law_fresh" s__law_fresh ["_law_places"] := ⟨f__law_fresh, _, fun_mk (st := s__law_fresh) l__law_fresh c__law_fresh k__law_fresh, PySem.W.mg_of X G a__law_fresh, (fun_mk (st := s__law_fresh) l__law_fresh c__law_fresh k__law_fresh).binds fun _ _ _ _ _ _ us hl => match us, hl with | [_], _ => rfl⟩
  have D__law_whole : Df K mg "_law_whole" s__law_whole ["_law_value"] := ⟨f__law_whole, _, fun_mk (st := s__law_whole) l__law_whole c__law_whole k__law_whole, PySem.W.mg_of X G a__law_whole, (fun_mk (st := s__law_whole) l__law_whole c__law_whole k__law_whole).binds fun _ _ _ _ _ _ us hl => match us, hl with | [_], _ => rfl⟩
  have D__law_step : Df K mg "_law_step" s__law_step ["_law_there", "_law_change_here"] := ⟨f__law_step, _, fun_mk (st := s__law_step) l__law_step c__law_step k__law_step, PySem.W.mg_of X G a__law_step, (fun_mk (st := s__law_step) l__law_step c__law_step k__law_step).binds fun _ _ _ _ _ _ us hl => match us, hl with | [_, _], _ => rfl⟩
  have D__law_change : Df K mg "_law_change" s__law_change ["_law_purse_here", "_law_places", "_law_there", "_law_gap"] := ⟨f__law_change, _, fun_mk (st := s__law_change) l__law_change c__law_change k__law_change, PySem.W.mg_of X G a__law_change, (fun_mk (st := s__law_change) l__law_change c__law_change k__law_change).binds fun _ _ _ _ _ _ us hl => match us, hl with | [_, _, _, _], _ => rfl⟩
  have D__law_course : Df K mg "_law_course" s__law_course ["_law_purse_here", "_law_places", "_law_there"] := ⟨f__law_course, _, fun_mk (st := s__law_course) l__law_course c__law_course k__law_course, PySem.W.mg_of X G a__law_course, (fun_mk (st := s__law_course) l__law_course c__law_course k__law_course).binds fun _ _ _ _ _ _ us hl => match us, hl with | [_, _, _], _ => rfl⟩
  have D__law_refused : Df K mg "_law_refused" s__law_refused ["_law_first", "_law_changes"] := ⟨f__law_refused, _, fun_mk (st := s__law_refused) l__law_refused c__law_refused k__law_refused, PySem.W.mg_of X G a__law_refused, (fun_mk (st := s__law_refused) l__law_refused c__law_refused k__law_refused).binds fun _ _ _ _ _ _ us hl => match us, hl with | [_, _], _ => rfl⟩
  have D__law_refused_alone : Df K mg "_law_refused_alone" s__law_refused_alone ["_law_first"] := ⟨f__law_refused_alone, _, fun_mk (st := s__law_refused_alone) l__law_refused_alone c__law_refused_alone k__law_refused_alone, PySem.W.mg_of X G a__law_refused_alone, (fun_mk (st := s__law_refused_alone) l__law_refused_alone c__law_refused_alone k__law_refused_alone).binds fun _ _ _ _ _ _ us hl => match us, hl with | [_], _ => rfl⟩
  have D__law_added : Df K mg "_law_added" s__law_added ["_law_story", "_law_change_here"] := ⟨f__law_added, _, fun_mk (st := s__law_added) l__law_added c__law_added k__law_added, PySem.W.mg_of X G a__law_added, (fun_mk (st := s__law_added) l__law_added c__law_added k__law_added).binds fun _ _ _ _ _ _ us hl => match us, hl with | [_, _], _ => rfl⟩
  have D__law_got : Df K mg "_law_got" s__law_got ["_law_story", "_law_k"] := ⟨f__law_got, _, fun_mk (st := s__law_got) l__law_got c__law_got k__law_got, PySem.W.mg_of X G a__law_got, (fun_mk (st := s__law_got) l__law_got c__law_got k__law_got).binds fun _ _ _ _ _ _ us hl => match us, hl with | [_, _], _ => rfl⟩
  have D__law_bad_changes : Df K mg "_law_bad_changes" s__law_bad_changes ["_law_there", "_law_places", "_law_gap"] := ⟨f__law_bad_changes, _, fun_mk (st := s__law_bad_changes) l__law_bad_changes c__law_bad_changes k__law_bad_changes, PySem.W.mg_of X G a__law_bad_changes, (fun_mk (st := s__law_bad_changes) l__law_bad_changes c__law_bad_changes k__law_bad_changes).binds fun _ _ _ _ _ _ us hl => match us, hl with | [_, _, _], _ => rfl⟩
  have D__law_odd_changes : Df K mg "_law_odd_changes" s__law_odd_changes ["_law_there", "_law_gap"] := ⟨f__law_odd_changes, _, fun_mk (st := s__law_odd_changes) l__law_odd_changes c__law_odd_changes k__law_odd_changes, PySem.W.mg_of X G a__law_odd_changes, (fun_mk (st := s__law_odd_changes) l__law_odd_changes c__law_odd_changes k__law_odd_changes).binds fun _ _ _ _ _ _ us hl => match us, hl with | [_, _], _ => rfl⟩
  have D__law_same : Df K mg "_law_same" s__law_same ["_law_story", "_law_first", "_law_changes", "_law_places"] := ⟨f__law_same, _, fun_mk (st := s__law_same) l__law_same c__law_same k__law_same, PySem.W.mg_of X G a__law_same, (fun_mk (st := s__law_same) l__law_same c__law_same k__law_same).binds fun _ _ _ _ _ _ us hl => match us, hl with | [_, _, _, _], _ => rfl⟩
  have D__law_indexes : Df K mg "_law_indexes" s__law_indexes ["_law_story", "_law_many", "_law_far"] := ⟨f__law_indexes, _, fun_mk (st := s__law_indexes) l__law_indexes c__law_indexes k__law_indexes, PySem.W.mg_of X G a__law_indexes, (fun_mk (st := s__law_indexes) l__law_indexes c__law_indexes k__law_indexes).binds fun _ _ _ _ _ _ us hl => match us, hl with | [_, _, _], _ => rfl⟩
  have D__law_alike : Df K mg "_law_alike" s__law_alike ["_law_story", "_law_first", "_law_changes", "_law_fresh_here"] := ⟨f__law_alike, _, fun_mk (st := s__law_alike) l__law_alike c__law_alike k__law_alike, PySem.W.mg_of X G a__law_alike, (fun_mk (st := s__law_alike) l__law_alike c__law_alike k__law_alike).binds fun _ _ _ _ _ _ us hl => match us, hl with | [_, _, _, _], _ => rfl⟩
  have D__law_ordered_pair : Df K mg "_law_ordered_pair" s__law_ordered_pair ["_law_first", "_law_fresh_here", "_law_more"] := ⟨f__law_ordered_pair, _, fun_mk (st := s__law_ordered_pair) l__law_ordered_pair c__law_ordered_pair k__law_ordered_pair, PySem.W.mg_of X G a__law_ordered_pair, (fun_mk (st := s__law_ordered_pair) l__law_ordered_pair c__law_ordered_pair k__law_ordered_pair).binds fun _ _ _ _ _ _ us hl => match us, hl with | [_, _, _], _ => rfl⟩
  have D__law_odd_parts : Df K mg "_law_odd_parts" s__law_odd_parts ["_law_first", "_law_changes", "_law_places"] := ⟨f__law_odd_parts, _, fun_mk (st := s__law_odd_parts) l__law_odd_parts c__law_odd_parts k__law_odd_parts, PySem.W.mg_of X G a__law_odd_parts, (fun_mk (st := s__law_odd_parts) l__law_odd_parts c__law_odd_parts k__law_odd_parts).binds fun _ _ _ _ _ _ us hl => match us, hl with | [_, _, _], _ => rfl⟩
  have FD_InvalidStory : FunD K "__init__" "InvalidStory.__init__" (defArgs s_InvalidStory___init__) (defBody s_InvalidStory___init__) (defScope s_InvalidStory___init__) [.non] [] f_x_InvalidStory _ := ⟨⟨_, _, _, _, _, _, _, _, _, _, rfl, l_x_InvalidStory, c_x_InvalidStory, .inr ⟨by simp, T_x_InvalidStory, _, [.none], _, rfl, lT_InvalidStory, rfl, .cons rfl .nil⟩, .inl rfl⟩, k_x_InvalidStory⟩
  have BD_InvalidStory := exc_binds FD_InvalidStory (fld := "value") fun _ _ _ _ _ _ _ us its hu hi => match us, its, hu, hi with | [_, _], [_], _, _ => ⟨_, rfl, rfl⟩
  have XF_InvalidStory : ExcF K mg "InvalidStory" "value" C_InvalidStory :=
    { g := PySem.W.mg_of X G g_InvalidStory, T := ⟨⟨_, _, _, _, _, _, _, _, _, _, _, _, _, _, _, xL_InvalidStory, ve_own⟩, sa_InvalidStory, eC_InvalidStory, tC_InvalidStory, kC_InvalidStory⟩, no := no_InvalidStory, xf := ⟨ga_InvalidStory, gg_InvalidStory, eC_InvalidStory, hC_InvalidStory⟩,
      te := exm_self eC_InvalidStory iC_InvalidStory tC_InvalidStory sC_InvalidStory, init := ⟨f_x_InvalidStory, _, _, _, _, _, _, _, _, in_InvalidStory, ti_InvalidStory, FD_InvalidStory, sc_InvalidStory___init__, BD_InvalidStory⟩ }
  have FD_InvalidChange : FunD K "__init__" "InvalidChange.__init__" (defArgs s_InvalidChange___init__) (defBody s_InvalidChange___init__) (defScope s_InvalidChange___init__) [.non] [] f_x_InvalidChange _ := ⟨⟨_, _, _, _, _, _, _, _, _, _, rfl, l_x_InvalidChange, c_x_InvalidChange, .inr ⟨by simp, T_x_InvalidChange, _, [.none], _, rfl, lT_InvalidChange, rfl, .cons rfl .nil⟩, .inl rfl⟩, k_x_InvalidChange⟩
  have BD_InvalidChange := exc_binds FD_InvalidChange (fld := "value") fun _ _ _ _ _ _ _ us its hu hi => match us, its, hu, hi with | [_, _], [_], _, _ => ⟨_, rfl, rfl⟩
  have XF_InvalidChange : ExcF K mg "InvalidChange" "value" C_InvalidChange :=
    { g := PySem.W.mg_of X G g_InvalidChange, T := ⟨⟨_, _, _, _, _, _, _, _, _, _, _, _, _, _, _, xL_InvalidChange, ve_own⟩, sa_InvalidChange, eC_InvalidChange, tC_InvalidChange, kC_InvalidChange⟩, no := no_InvalidChange, xf := ⟨ga_InvalidChange, gg_InvalidChange, eC_InvalidChange, hC_InvalidChange⟩,
      te := exm_self eC_InvalidChange iC_InvalidChange tC_InvalidChange sC_InvalidChange, init := ⟨f_x_InvalidChange, _, _, _, _, _, _, _, _, in_InvalidChange, ti_InvalidChange, FD_InvalidChange, sc_InvalidChange___init__, BD_InvalidChange⟩ }
  have FD_InvalidNumber : FunD K "__init__" "InvalidNumber.__init__" (defArgs s_InvalidNumber___init__) (defBody s_InvalidNumber___init__) (defScope s_InvalidNumber___init__) [.non] [] f_x_InvalidNumber _ := ⟨⟨_, _, _, _, _, _, _, _, _, _, rfl, l_x_InvalidNumber, c_x_InvalidNumber, .inr ⟨by simp, T_x_InvalidNumber, _, [.none], _, rfl, lT_InvalidNumber, rfl, .cons rfl .nil⟩, .inl rfl⟩, k_x_InvalidNumber⟩
  have BD_InvalidNumber := exc_binds FD_InvalidNumber (fld := "value") fun _ _ _ _ _ _ _ us its hu hi => match us, its, hu, hi with | [_, _], [_], _, _ => ⟨_, rfl, rfl⟩
  have XF_InvalidNumber : ExcF K mg "InvalidNumber" "value" C_InvalidNumber :=
    { g := PySem.W.mg_of X G g_InvalidNumber, T := ⟨⟨_, _, _, _, _, _, _, _, _, _, _, _, _, _, _, xL_InvalidNumber, ve_own⟩, sa_InvalidNumber, eC_InvalidNumber, tC_InvalidNumber, kC_InvalidNumber⟩, no := no_InvalidNumber, xf := ⟨ga_InvalidNumber, gg_InvalidNumber, eC_InvalidNumber, hC_InvalidNumber⟩,
      te := exm_self eC_InvalidNumber iC_InvalidNumber tC_InvalidNumber sC_InvalidNumber, init := ⟨f_x_InvalidNumber, _, _, _, _, _, _, _, _, in_InvalidNumber, ti_InvalidNumber, FD_InvalidNumber, sc_InvalidNumber___init__, BD_InvalidNumber⟩ }
  have Cl_S : Cls K CSt := ⟨pg_S, hd_S, po_S, sa_S⟩
  have FDS : FunD K "__init__" "Story.__init__" (defArgs s_Story___init__) (defBody s_Story___init__) (defScope s_Story___init__) [.non] [] f_Si _ := ⟨⟨_, _, _, _, _, _, _, _, _, _, rfl, l_Si, c_Si, .inr ⟨by simp, T_Si, _, [.none], _, rfl, lT_S, rfl, .cons rfl .nil⟩, .inl rfl⟩, k_Si⟩
  obtain ⟨d0S, v0S, b0S⟩ := FDS.binds1 (ps := ["self", "first", "changes"]) 3 1 (by simp) rfl fun _ _ _ _ _ _ _ us its hu hi => match us, its, hu, hi with | [_, _, _], [_], _, _ => ⟨_, rfl, rfl⟩
  cases v0S
  obtain ⟨d1S, v1S, b1S⟩ := FDS.binds1 (ps := ["self", "first", "changes"]) 2 0 (by simp) rfl fun _ _ _ _ _ _ _ us its hu hi => match us, its, hu, hi with | [_, _], [_], _, _ => ⟨_, rfl, rfl⟩
  obtain rfl : d1S = [Value.none] := by
    cases v1S with
    | cons h t =>
      cases t
      exact congrArg (· :: []) h
  have Fn_Sc := fun_mk (st := s_Story___contains__) l_Sc c_Sc k_Sc
  have Bn_Sc := Fn_Sc.binds (ps := ["self", "place"]) fun _ _ _ _ _ _ us hl => match us, hl with | [_, _], _ => rfl
  have Fn_Sl := fun_mk (st := s_Story___len__) l_Sl c_Sl k_Sl
  have Bn_Sl := Fn_Sl.binds (ps := ["self"]) fun _ _ _ _ _ _ us hl => match us, hl with | [_], _ => rfl
  have Fn_Sg := fun_mk (st := s_Story___getitem__) l_Sg c_Sg k_Sg
  have Bn_Sg := Fn_Sg.binds (ps := ["self", "at"]) fun _ _ _ _ _ _ us hl => match us, hl with | [_, _], _ => rfl
  have Fn_Sa := fun_mk (st := s_Story___iadd__) l_Sa c_Sa k_Sa
  have Bn_Sa := Fn_Sa.binds (ps := ["self", "other"]) fun _ _ _ _ _ _ us hl => match us, hl with | [_, _], _ => rfl
  have Fn_Se := fun_mk (st := s_Story___eq__) l_Se c_Se k_Se
  have Bn_Se := Fn_Se.binds (ps := ["self", "other"]) fun _ _ _ _ _ _ us hl => match us, hl with | [_, _], _ => rfl
  have Fn_St := fun_mk (st := s_Story_at) l_St c_St k_St
  have Bn_St := Fn_St.binds (ps := ["self", "k"]) fun _ _ _ _ _ _ us hl => match us, hl with | [_, _], _ => rfl
  have F_Sf := fun_mk (st := s_Story_first) l_Sf c_Sf k_Sf
  have SC : StoryC K mg CSt := ⟨Cl_S, n1_S, n2_S, n3_S, PySem.W.mg_of X G g_S, mk_S, kc_S, ⟨f_Si, _, in_S, if_S, FDS, b0S, b1S⟩, i1_S, i2_S, i3_S, i4_S⟩
  have SM : StoryM K CSt := ⟨⟨p_Sf, f_Sf, _, ⟨at_Sf, gt_Sf, tk_Sf, ⟨_, rc_Sf⟩⟩, F_Sf, F_Sf.binds (ps := ["self"]) fun _ _ _ _ _ _ us hl => match us, hl with | [_], _ => rfl⟩, ⟨f_Sl, _, at_Sl, fn_Sl, Fn_Sl, Bn_Sl⟩, ⟨f_Sg, _, at_Sg, fn_Sg, fi_Sg, Fn_Sg, Bn_Sg⟩, ⟨f_Sa, _, sf_S, at_Sa, fn_Sa, Fn_Sa, Bn_Sa⟩, ⟨f_Se, _, at_Se, fn_Se, Fn_Se, Bn_Se⟩, ⟨f_St, _, ⟨at_St, fn_St, k_St⟩, Fn_St, Bn_St⟩, ⟨f_Sc, _, at_Sc, fn_Sc, Fn_Sc, Bn_Sc⟩, fun _ h => kit_no cC_S tC_S h, fun _ h => nf_kd h, kit_tup sT_S, sS_S, kit_own, nf_own⟩
  have T0 : Txt K mg := ⟨N_isinstance, N_int, N_bool, N_str, N_sorted, V_LETTERS, N_tuple, N_list, N_set, D_is_whole⟩
  have L : TxtL K mg := ⟨N_range, N_sum, D__law_purse, D__law_draw⟩
  have NN : TxtN K mg := ⟨N_len, N_all, V_LONGEST_NAME, D_is_name, D__law_name, D__law_names⟩
  have I : TxtI K mg := ⟨D_is_place⟩
  have BW : TxtB K mg := ⟨D__law_world⟩
  have C : TxtC13 K mg := ⟨D_is_place_list, D_is_change, D_goes, D_comes, D_is_possible, D_carry_out⟩
  have S : TxtS13 K mg := ⟨D_may_come, D__standing_behind, D_check_index, D_check_least⟩
  have L4 : TxtL13 K mg := ⟨N_enumerate, D__law_fresh, D__law_whole, D__law_step, D__law_change, D__law_course, D__law_refused, D__law_refused_alone, D__law_added, D__law_got, D__law_bad_changes, D__law_odd_changes, D__law_same, D__law_indexes, D__law_alike, D__law_ordered_pair, D__law_odd_parts⟩
  exact ⟨PySem.W.fnOf "law" "law" (defArgs s_law) (defBody s_law) (defScope s_law) .none kV_law dc_law pm_law an_law cd_law ct_law, fun s v => .of_eq rfl, fun base _ _ => ok_law T0 L NN I BW C S SC SM L4 XF_InvalidStory XF_InvalidChange XF_InvalidNumber (fun_mk (st := s_law) l_law c_law k_law)⟩
theorem walk {l : PySem.W.OpenLaw} {q : Program} {loose : List Str} {XP : (Str → Option Value) → Heap → Prop} {YP : World → Heap → Prop} {d : DefRec} {K : Params → PySem.W.Frag} (hn : l.most = some 63) (hdf : d.params.defaults = [])
    (hY : ∀ (w : World) (h : Heap), YP w h → (K w.params).In h)
    (F : ∀ (w : World) (mg : Str → Option Value) (fa : Addr) (h : Heap), (K w.params).In h → h.Ns mainGlobals mg → mg d.name = some (.ref fa) →
      ∃ fd : FuncData, (∀ (s : Shared) (u : Value), BindsTo s fd ⟨[u], []⟩ [("_law_script", u)]) ∧ ∀ base : Heap, (K w.params).In base → base.Ns mainGlobals mg → FnOk l.prog w (K w.params) mg base CX0 10 fa fd ["_law_script"] (spLaw (K w.params))) :
    PySem.W.WalkO q loose XP YP l.row.toRowW d [] (fun f vs => PySem.call f vs) :=
  L2.walk_of (n := 63) (k := 10) (x := "_law_script") (CX := fun _ => CX0) (sp := fun w => spLaw (K w.params)) hn (by decide) hdf ⟨rfl, by decide, by decide⟩ hY F (fun _ _ a ns hl _ hS => ⟨a, ns, rfl, hS, hl, fun _ => rfl⟩) fun _ _ _ _ _ z => z
end Bt
open PySem PySem.W PyProof.Rows
set_option maxRecDepth 100000 in
set_option maxHeartbeats 0 in
theorem PySem.Challenge.cw_betweenlists_k13_stories_made_holds : PySem.Challenge.rw_betweenlists_k13_stories_made.Holds := by
  w_on; o_law; k_head; (case hw => w_witness2)
  k_fill
  refine Bt.walk (l := PySem.Challenge.rw_betweenlists_k13_stories_made) rfl rfl (fun w h Y => PySem.W.kIn_of Y) ?F
  case F =>
    intro w mg fa h KX G hmg
    refine' Bt.all_mk KX G hmg ?z_isinstance ?z_int ?z_bool ?z_str ?z_sorted ?z_tuple ?z_list ?z_set ?z_range ?z_sum ?z_len ?z_all ?z_enumerate ?v_LETTERS ?v_LONGEST_NAME ?a_is_whole ?l_is_whole ?c_is_whole ?k_is_whole ?a_is_name ?l_is_name ?c_is_name ?k_is_name ?a_is_place ?l_is_place ?c_is_place ?k_is_place ?a_is_place_list ?l_is_place_list ?c_is_place_list ?k_is_place_list ?a_is_change ?l_is_change ?c_is_change ?k_is_change ?a_goes ?l_goes ?c_goes ?k_goes ?a_comes ?l_comes ?c_comes ?k_comes ?a_is_possible ?l_is_possible ?c_is_possible ?k_is_possible ?a_carry_out ?l_carry_out ?c_carry_out ?k_carry_out ?a_check_least ?l_check_least ?c_check_least ?k_check_least ?a_check_index ?l_check_index ?c_check_index ?k_check_index ?a_may_come ?l_may_come ?c_may_come ?k_may_come ?a__standing_behind ?l__standing_behind ?c__standing_behind ?k__standing_behind ?a__law_purse ?l__law_purse ?c__law_purse ?k__law_purse ?a__law_draw ?l__law_draw ?c__law_draw ?k__law_draw ?a__law_name ?l__law_name ?c__law_name ?k__law_name ?a__law_names ?l__law_names ?c__law_names ?k__law_names ?a__law_world ?l__law_world ?c__law_world ?k__law_world ?a__law_fresh ?l__law_fresh ?c__law_fresh ?k__law_fresh ?a__law_whole ?l__law_whole ?c__law_whole ?k__law_whole ?a__law_step ?l__law_step ?c__law_step ?k__law_step ?a__law_change ?l__law_change ?c__law_change ?k__law_change ?a__law_course ?l__law_course ?c__law_course ?k__law_course ?a__law_refused ?l__law_refused ?c__law_refused ?k__law_refused ?a__law_refused_alone ?l__law_refused_alone ?c__law_refused_alone ?k__law_refused_alone ?a__law_added ?l__law_added ?c__law_added ?k__law_added ?a__law_got ?l__law_got ?c__law_got ?k__law_got ?a__law_bad_changes ?l__law_bad_changes ?c__law_bad_changes ?k__law_bad_changes ?a__law_odd_changes ?l__law_odd_changes ?c__law_odd_changes ?k__law_odd_changes ?a__law_same ?l__law_same ?c__law_same ?k__law_same ?a__law_indexes ?l__law_indexes ?c__law_indexes ?k__law_indexes ?a__law_alike ?l__law_alike ?c__law_alike ?k__law_alike ?a__law_ordered_pair ?l__law_ordered_pair ?c__law_ordered_pair ?k__law_ordered_pair ?a__law_odd_parts ?l__law_odd_parts ?c__law_odd_parts ?k__law_odd_parts ?a_law ?l_law ?c_law ?k_law ?g_InvalidStory ?xL_InvalidStory ?sa_InvalidStory ?ga_InvalidStory ?gg_InvalidStory ?no_InvalidStory ?in_InvalidStory ?ti_InvalidStory ?l_x_InvalidStory ?c_x_InvalidStory ?k_x_InvalidStory ?lT_InvalidStory ?kC_InvalidStory ?eC_InvalidStory ?tC_InvalidStory ?hC_InvalidStory ?iC_InvalidStory ?sC_InvalidStory ?g_InvalidChange ?xL_InvalidChange ?sa_InvalidChange ?ga_InvalidChange ?gg_InvalidChange ?no_InvalidChange ?in_InvalidChange ?ti_InvalidChange ?l_x_InvalidChange ?c_x_InvalidChange ?k_x_InvalidChange ?lT_InvalidChange ?kC_InvalidChange ?eC_InvalidChange ?tC_InvalidChange ?hC_InvalidChange ?iC_InvalidChange ?sC_InvalidChange ?g_InvalidNumber ?xL_InvalidNumber ?sa_InvalidNumber ?ga_InvalidNumber ?gg_InvalidNumber ?no_InvalidNumber ?in_InvalidNumber ?ti_InvalidNumber ?l_x_InvalidNumber ?c_x_InvalidNumber ?k_x_InvalidNumber ?lT_InvalidNumber ?kC_InvalidNumber ?eC_InvalidNumber ?tC_InvalidNumber ?hC_InvalidNumber ?iC_InvalidNumber ?sC_InvalidNumber ?g_S ?pg_S ?hd_S ?po_S ?sa_S ?mk_S ?kc_S ?n1_S ?n2_S ?n3_S ?in_S ?if_S ?l_Si ?c_Si ?k_Si ?lT_S ?sT_S ?sS_S ?at_Sc ?fn_Sc ?l_Sc ?c_Sc ?k_Sc ?i1_S ?i2_S ?i3_S ?i4_S ?cC_S ?tC_S ?at_Sl ?fn_Sl ?l_Sl ?c_Sl ?k_Sl ?at_Sg ?fn_Sg ?l_Sg ?c_Sg ?k_Sg ?fi_Sg ?at_Sa ?fn_Sa ?l_Sa ?c_Sa ?k_Sa ?sf_S ?at_Se ?fn_Se ?l_Se ?c_Se ?k_Se ?at_St ?fn_St ?l_St ?c_St ?k_St ?at_Sf ?gt_Sf ?tk_Sf ?rc_Sf ?l_Sf ?c_Sf ?k_Sf
    (case z_isinstance => k_is); (case z_int => k_is); (case z_bool => k_is); (case z_str => k_is); (case z_sorted => k_is); (case z_tuple => k_is)
    (case z_list => k_is); (case z_set => k_is); (case z_range => k_is); (case z_sum => k_is); (case z_len => k_is); (case z_all => k_is)
    (case z_enumerate => k_is); (case v_LETTERS => k_is); (case v_LONGEST_NAME => k_is); (case a_is_whole => k_is); (case l_is_whole => k_is); (case c_is_whole => k_is)
    (case k_is_whole => k_is); (case a_is_name => k_is); (case l_is_name => k_is); (case c_is_name => k_is); (case k_is_name => k_is); (case a_is_place => k_is)
    (case l_is_place => k_is); (case c_is_place => k_is); (case k_is_place => k_is); (case a_is_place_list => k_is); (case l_is_place_list => k_is); (case c_is_place_list => k_is)
    (case k_is_place_list => k_is); (case a_is_change => k_is); (case l_is_change => k_is); (case c_is_change => k_is); (case k_is_change => k_is); (case a_goes => k_is)
    (case l_goes => k_is); (case c_goes => k_is); (case k_goes => k_is); (case a_comes => k_is); (case l_comes => k_is); (case c_comes => k_is)
    (case k_comes => k_is); (case a_is_possible => k_is); (case l_is_possible => k_is); (case c_is_possible => k_is); (case k_is_possible => k_is); (case a_carry_out => k_is)
    (case l_carry_out => k_is); (case c_carry_out => k_is); (case k_carry_out => k_is); (case a_check_least => k_is); (case l_check_least => k_is); (case c_check_least => k_is)
    (case k_check_least => k_is); (case a_check_index => k_is); (case l_check_index => k_is); (case c_check_index => k_is); (case k_check_index => k_is); (case a_may_come => k_is)
    (case l_may_come => k_is); (case c_may_come => k_is); (case k_may_come => k_is); (case a__standing_behind => k_is); (case l__standing_behind => k_is); (case c__standing_behind => k_is)
    (case k__standing_behind => k_is); (case a__law_purse => k_is); (case l__law_purse => k_is); (case c__law_purse => k_is); (case k__law_purse => k_is); (case a__law_draw => k_is)
    (case l__law_draw => k_is); (case c__law_draw => k_is); (case k__law_draw => k_is); (case a__law_name => k_is); (case l__law_name => k_is); (case c__law_name => k_is)
    (case k__law_name => k_is); (case a__law_names => k_is); (case l__law_names => k_is); (case c__law_names => k_is); (case k__law_names => k_is); (case a__law_world => k_is)
    (case l__law_world => k_is); (case c__law_world => k_is); (case k__law_world => k_is); (case a__law_fresh => k_is); (case l__law_fresh => k_is); (case c__law_fresh => k_is)
    (case k__law_fresh => k_is); (case a__law_whole => k_is); (case l__law_whole => k_is); (case c__law_whole => k_is); (case k__law_whole => k_is); (case a__law_step => k_is)
    (case l__law_step => k_is); (case c__law_step => k_is); (case k__law_step => k_is); (case a__law_change => k_is); (case l__law_change => k_is); (case c__law_change => k_is)
    (case k__law_change => k_is); (case a__law_course => k_is); (case l__law_course => k_is); (case c__law_course => k_is); (case k__law_course => k_is); (case a__law_refused => k_is)
    (case l__law_refused => k_is); (case c__law_refused => k_is); (case k__law_refused => k_is); (case a__law_refused_alone => k_is); (case l__law_refused_alone => k_is); (case c__law_refused_alone => k_is)
    (case k__law_refused_alone => k_is); (case a__law_added => k_is); (case l__law_added => k_is); (case c__law_added => k_is); (case k__law_added => k_is); (case a__law_got => k_is)
    (case l__law_got => k_is); (case c__law_got => k_is); (case k__law_got => k_is); (case a__law_bad_changes => k_is); (case l__law_bad_changes => k_is); (case c__law_bad_changes => k_is)
    (case k__law_bad_changes => k_is); (case a__law_odd_changes => k_is); (case l__law_odd_changes => k_is); (case c__law_odd_changes => k_is); (case k__law_odd_changes => k_is); (case a__law_same => k_is)
    (case l__law_same => k_is); (case c__law_same => k_is); (case k__law_same => k_is); (case a__law_indexes => k_is); (case l__law_indexes => k_is); (case c__law_indexes => k_is)
    (case k__law_indexes => k_is); (case a__law_alike => k_is); (case l__law_alike => k_is); (case c__law_alike => k_is); (case k__law_alike => k_is); (case a__law_ordered_pair => k_is)
    (case l__law_ordered_pair => k_is); (case c__law_ordered_pair => k_is); (case k__law_ordered_pair => k_is); (case a__law_odd_parts => k_is); (case l__law_odd_parts => k_is); (case c__law_odd_parts => k_is)
    (case k__law_odd_parts => k_is); (case a_law => k_is); (case l_law => k_is); (case c_law => k_is); (case k_law => k_is); (case g_InvalidStory => k_is)
    (case xL_InvalidStory => k_is); (case sa_InvalidStory => k_is); (case ga_InvalidStory => k_is); (case gg_InvalidStory => k_is); (case no_InvalidStory => k_is); (case in_InvalidStory => k_is)
    (case ti_InvalidStory => k_is); (case l_x_InvalidStory => k_is); (case c_x_InvalidStory => k_is); (case k_x_InvalidStory => k_is); (case lT_InvalidStory => k_is); (case kC_InvalidStory => k_is)
    (case eC_InvalidStory => k_is); (case tC_InvalidStory => k_is); (case hC_InvalidStory => k_is); (case iC_InvalidStory => k_is); (case sC_InvalidStory => first | rfl | k_is); (case g_InvalidChange => k_is)
    (case xL_InvalidChange => k_is); (case sa_InvalidChange => k_is); (case ga_InvalidChange => k_is); (case gg_InvalidChange => k_is); (case no_InvalidChange => k_is); (case in_InvalidChange => k_is)
    (case ti_InvalidChange => k_is); (case l_x_InvalidChange => k_is); (case c_x_InvalidChange => k_is); (case k_x_InvalidChange => k_is); (case lT_InvalidChange => k_is); (case kC_InvalidChange => k_is)
    (case eC_InvalidChange => k_is); (case tC_InvalidChange => k_is); (case hC_InvalidChange => k_is); (case iC_InvalidChange => k_is); (case sC_InvalidChange => first | rfl | k_is); (case g_InvalidNumber => k_is)
    (case xL_InvalidNumber => k_is); (case sa_InvalidNumber => k_is); (case ga_InvalidNumber => k_is); (case gg_InvalidNumber => k_is); (case no_InvalidNumber => k_is); (case in_InvalidNumber => k_is)
    (case ti_InvalidNumber => k_is); (case l_x_InvalidNumber => k_is); (case c_x_InvalidNumber => k_is); (case k_x_InvalidNumber => k_is); (case lT_InvalidNumber => k_is); (case kC_InvalidNumber => k_is)
    (case eC_InvalidNumber => k_is); (case tC_InvalidNumber => k_is); (case hC_InvalidNumber => k_is); (case iC_InvalidNumber => k_is); (case sC_InvalidNumber => first | rfl | k_is); (case g_S => k_is)
    (case pg_S => k_is); (case hd_S => k_is); (case po_S => k_is); (case sa_S => k_is); (case mk_S => k_is); (case kc_S => k_is)
    (case n1_S => k_is); (case n2_S => k_is); (case n3_S => k_is); (case in_S => k_is); (case if_S => k_is); (case l_Si => k_is)
    (case c_Si => k_is); (case k_Si => k_is); (case lT_S => k_is); (case sT_S => k_is); (case sS_S => k_is); (case at_Sc => k_is)
    (case fn_Sc => k_is); (case l_Sc => k_is); (case c_Sc => k_is); (case k_Sc => k_is); (case i1_S => k_is); (case i2_S => k_is)
    (case i3_S => k_is); (case i4_S => k_is); (case cC_S => k_is); (case tC_S => k_is); (case at_Sl => k_is); (case fn_Sl => k_is)
    (case l_Sl => k_is); (case c_Sl => k_is); (case k_Sl => k_is); (case at_Sg => k_is); (case fn_Sg => k_is); (case l_Sg => k_is)
    (case c_Sg => k_is); (case k_Sg => k_is); (case fi_Sg => k_is); (case at_Sa => k_is); (case fn_Sa => k_is); (case l_Sa => k_is)
    (case c_Sa => k_is); (case k_Sa => k_is); (case sf_S => k_is); (case at_Se => k_is); (case fn_Se => k_is); (case l_Se => k_is)
    (case c_Se => k_is); (case k_Se => k_is); (case at_St => k_is); (case fn_St => k_is); (case l_St => k_is); (case c_St => k_is)
    (case k_St => k_is); (case at_Sf => k_is); (case gt_Sf => k_is); (case tk_Sf => k_is); (case rc_Sf => k_is); (case l_Sf => k_is)
    (case c_Sf => k_is); (case k_Sf => k_is)
