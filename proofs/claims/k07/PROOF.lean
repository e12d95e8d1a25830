import PyProof.Rows.All
import Wide.All
import OpenK.AllK
import Wide.FinOn
import HandS.ForMost
import HandS.Exc
import HandS.TryOnly
import HandS.ExcOwn
import HandS.WordsExc
import HandS.IsInst
import HandS.Wide
import HandS.Style
import PyProof.CollectStr
import PyProof.Rows.RuleB_pow
import HandS.Codes
import HandS.ExcInit
import HandS.ExcField
import HandS.Property
import HandS.Defaults
import PyProof.TupleOfStr
import HandS.Star
import HandS.CallSlots
import HandS.Nested
import HandS.FromBytesMap
import KE.SortKeyHeap
import HandS.ExcValue
import KE.LtData
import PySem.Challenge.RW_betweenlists_k07_asks
import HandS.Text
import HandS.Replace
import PyProof.NeKinds
import KE.KDictPairs
import KE.KDictItemsList
import HandS.Dict
import HandS.Iter
import HandS.ListItems
import KE.KDictWalk
import HandS.TupSets
import HandS.SetBool
import KE.KOpsOwn
import HandS.TupMul
import KE.SortData
import HandS.TryMany
import KE.DataCmp
import OpenK.KMeth
import HandS.Walk
set_option Elab.async false
set_option linter.all false
set_option maxRecDepth 100000
set_option maxHeartbeats 4000000
namespace Bt
open PySem PySem.Spec PyProof.Rows L2
/-! ### heaps that grow, or that change at one place -/
/-- all but what stands at p is as it was -/
def But (p : Addr) (H H' : Hp) : Prop := ∀ b o, b ≠ p → H b = some o → H' b = some o
theorem But.refl {p : Addr} {H : Hp} : But p H H := fun _ _ _ h => h
theorem But.trans {p : Addr} {H H1 H2 : Hp} (a : But p H H1) (b : But p H1 H2) : But p H H2 := fun c o n h => b c o n (a c o n h)
theorem But.of {p : Addr} {H H' : Hp} (a : Same H H') : But p H H' := fun c o _ h => a c o h
theorem But.upd {p : Addr} {H : Hp} {o : HO} : But p H (upd H p o) := fun b u n h => by rw [upd_ne n]; exact h
theorem Same.new {H : Hp} {p : Addr} {o : HO} (h : H p = none) : Same H (upd H p o) := fun a u e => by
  rw [upd_ne (ne_of_none e h)]; exact e
theorem But.new {q p : Addr} {H : Hp} {o : HO} (h : H p = none) : But q H (L2.upd H p o) := But.of (Same.new h)
theorem But.free {p : Addr} {H H' : Hp} (e : But p H H') {l : Addr} (n : l ≠ p) (h : H' l = none) : H l = none := by
  cases q : H l with
  | none => rfl
  | some o =>
    rw [e l o n q] at h
    cases h
theorem sz {n : Nat} (h : n ≤ 100000) : n ≤ sizeLine := Nat.le_trans h (by decide)
theorem szlt {n : Nat} (h : n < 100000) : n < sizeLine := Nat.lt_of_lt_of_le h (by decide)

/-! ### operators, of several kinds at once -/
section
variable {X : Cx}
def rAddStr : R2 := fun x y H Q => ∃ i j, x = .str i ∧ y = .str j ∧ i.length + j.length ≤ sizeLine ∧ Q (.str (i ++ j)) H
def rAddU : R2 := fun x y H Q => rI0 (fun i j => .int (i + j)) x y H Q ∨ (rAddStr x y H Q ∨ rCat x y H Q)
theorem op_addU : OpR X (binaryOp .Add) rAddU := OpR.or op_add (OpR.or op_add_str op_cat)
def rSub : R2 := rI0 fun i j => .int (i - j)
theorem op_subU : OpR X (binaryOp .Sub) rSub := op_sub
def rMod : R2 := rI (fun _ j => 0 < j) fun i j => .int (i % j)
theorem op_modU : OpR X (binaryOp .Mod) rMod := op_mod
def rFdiv : R2 := rI CDiv fun i j => .int (i / j)
theorem op_fdivU : OpR X (binaryOp .FloorDiv) rFdiv := op_fdiv
def rMulI : R2 := rI CMul fun i j => .int (i * j)
def rMulU : R2 := fun x y H Q => rMulI x y H Q ∨ (rI CMulW (fun i j => .int (i * j)) x y H Q ∨ rRep x y H Q)
theorem op_mulU : OpR X (binaryOp .Mult) rMulU := OpR.or op_mul (OpR.or op_mulW op_rep)
def rLtI : R2 := rI0 fun i j => .bl (decide (i < j))
def rLeI : R2 := rI0 fun i j => .bl (decide (i ≤ j))
def rGtI : R2 := rI0 fun i j => .bl (decide (j < i))
def rGeI : R2 := rI0 fun i j => .bl (decide (j ≤ i))
theorem op_ltI : OpR X (compareOp .Lt) rLtI := op_lt
theorem op_leI : OpR X (compareOp .LtE) rLeI := op_le
theorem op_gtI : OpR X (compareOp .Gt) rGtI := op_gt
theorem op_geI : OpR X (compareOp .GtE) rGeI := op_ge
def rEqU (K : PySem.W.Frag) : R2 := fun x y H Q => rEq x y H Q ∨ rEqD K x y H Q
theorem op_eqU (hu : X.A.units + 64 < cLine) : OpR X (compareOp .Eq) (rEqU X.K) := OpR.or op_eq (op_eqD hu)
def rNeU (K : PySem.W.Frag) : R2 := fun x y H Q => rNe x y H Q ∨ rNeD K x y H Q
theorem op_neU (hu : X.A.units + 64 < cLine) : OpR X (compareOp .NotEq) (rNeU X.K) := OpR.or op_ne (op_neD hu)
end
section
variable {H : Hp} {Q : VK} {i j : Int} {x y : V} {σ : L2.St} {K : PySem.W.Frag}
theorem q_var {n : Nat} {v : V} (h : σ[n]? = some (some v)) (q : Q v H) : tVar n σ H Q := ⟨v, h, q⟩
theorem q_add (q : Q (.int (i + j)) H) : rAddU (.int i) (.int j) H Q := .inl ⟨i, j, rfl, rfl, q⟩
theorem q_addS {a b : Str} (h : a.length + b.length ≤ sizeLine) (q : Q (.str (a ++ b)) H) : rAddU (.str a) (.str b) H Q := .inr (.inl ⟨a, b, rfl, rfl, h, q⟩)
theorem q_cat {l b : Addr} {xs zs : List V} (hl : H l = some (.lst xs)) (hb : H b = some (.lst zs)) (hz : xs.length + zs.length ≤ sizeLine) (q : ∀ p H', H p = none → Same H H' → H' p = some (.lst (xs ++ zs)) → Q (.ref p) H') : rAddU (.ref l) (.ref b) H Q :=
  .inr (.inr ⟨l, b, xs, zs, rfl, rfl, hl, hb, hz, fun p n => q p _ n (Same.new n) upd_same⟩)
theorem q_sub (q : Q (.int (i - j)) H) : rSub (.int i) (.int j) H Q := ⟨i, j, rfl, rfl, q⟩
theorem q_mod (h : 0 < j) (q : Q (.int (i % j)) H) : rMod (.int i) (.int j) H Q := ⟨i, j, rfl, rfl, h, q⟩
theorem q_fdiv (h : 0 < j) (h2 : j < 1073741824) (q : Q (.int (i / j)) H) : rFdiv (.int i) (.int j) H Q := ⟨i, j, rfl, rfl, ⟨h, h2⟩, q⟩
theorem q_mulL (h : -(2 ^ 64) < i ∧ i < 2 ^ 64) (q : Q (.int (i * j)) H) : rMulU (.int i) (.int j) H Q := .inl ⟨i, j, rfl, rfl, .inl h, q⟩
theorem q_mulR (h : -(2 ^ 64) < j ∧ j < 2 ^ 64) (q : Q (.int (i * j)) H) : rMulU (.int i) (.int j) H Q := .inl ⟨i, j, rfl, rfl, .inr h, q⟩
theorem q_lt (q : Q (.bl (decide (i < j))) H) : rLtI (.int i) (.int j) H Q := ⟨i, j, rfl, rfl, q⟩
theorem q_le (q : Q (.bl (decide (i ≤ j))) H) : rLeI (.int i) (.int j) H Q := ⟨i, j, rfl, rfl, q⟩
theorem q_gt (q : Q (.bl (decide (j < i))) H) : rGtI (.int i) (.int j) H Q := ⟨i, j, rfl, rfl, q⟩
theorem q_ge (q : Q (.bl (decide (j ≤ i))) H) : rGeI (.int i) (.int j) H Q := ⟨i, j, rfl, rfl, q⟩
theorem q_eq (h : scal x y = true) (q : Q (.bl (decide (x = y))) H) : rEqU K x y H Q := .inl ⟨h, q⟩
theorem q_ne (h : scal x y = true) (q : Q (.bl (!decide (x = y))) H) : rNeU K x y H Q := .inl ⟨h, q⟩
theorem q_eqD {d e : PyData} (hd : Dp K H x d) (he : Dp K H y e) (sd : SeqAt.shaped d = true) (se : SeqAt.shaped e = true) (q : Q (.bl (PyData.eqv d e)) H) : rEqU K x y H Q := .inr ⟨d, e, hd, he, sd, se, q⟩
theorem q_neD {d e : PyData} (hd : Dp K H x d) (he : Dp K H y e) (sd : SeqAt.shaped d = true) (se : SeqAt.shaped e = true) (q : Q (.bl (!PyData.eqv d e)) H) : rNeU K x y H Q := .inr ⟨d, e, hd, he, sd, se, q⟩
theorem q_ixL {p : Addr} {xs : List V} {v : V} (h : SqL K H p xs) (ha : atI xs i = some v) (q : Q v H) : rIx K (.ref p) (.int i) H Q := .inl ⟨p, xs, i, v, rfl, rfl, h, ha, q⟩
theorem q_ixT {p : Addr} {xs : List V} {v : V} (h : SqT K H p xs) (ha : atI xs i = some v) (q : Q v H) : rIx K (.ref p) (.int i) H Q := .inr (.inl ⟨p, xs, i, v, rfl, rfl, h, ha, q⟩)
theorem q_ixS {z : Str} {c : Nat} (hz : z.length ≤ sizeLine) (ha : atI z.cps.toList i = some c) (q : Q (.str ⟨#[c]⟩) H) : rIx K (.str z) (.int i) H Q := .inr (.inr ⟨z, i, c, rfl, rfl, hz, ha, q⟩)
theorem q_test {b : Bool} {R : Bool → Prop} (q : R b) : ∃ k, V.bl b = .bl k ∧ R k := ⟨b, rfl, q⟩
end

/-- a display's new object -/
def rNewT (Q : VK) (xs : List V) (H : Hp) : Prop := xs.length ≤ sizeLine ∧ ∀ p, H p = none → Q (.ref p) (upd H p (.tup xs))
def rNewL (Q : VK) (xs : List V) (H : Hp) : Prop := xs.length ≤ sizeLine ∧ ∀ p, H p = none → Q (.ref p) (upd H p (.lst xs))
/-! ### steps: one lemma a word -/
section
variable {σ : L2.St} {H : Hp} {Q : VK} {R : Bool → Hp → Prop} {D : Ends} {ta tb tc te to : TE} {t u : TS} {c d : TT} {ts tr : TA} {r r' : R2} {g : TG} {K : PySem.W.Frag} {v : V} {n i : Nat}
theorem s_seq (h : t { D with nx := u D } σ H) : tSeq t u D σ H := h
theorem s_next (h : D.nx σ H) : tNext D σ H := h
theorem s_drop (h : te σ H fun _ H1 => D.nx σ H1) : tDrop te D σ H := h
theorem s_ret (h : te σ H D.rt) : tRet te D σ H := h
theorem s_retN (h : D.rt .non H) : tRetN D σ H := h
theorem s_ifS (h : c σ H fun b H1 => if b = true then t D σ H1 else u D σ H1) : tIfS c t u D σ H := h
theorem s_asg (h : te σ H fun x H1 => g x σ H1 D.nx) : tAsg te g D σ H := h
theorem s_gname {N : L2.St → Hp → Prop} (h : N (σ.set i (some v)) H) : gName i v σ H N := h
theorem s_var (h : σ[i]? = some (some v)) (q : Q v H) : tVar i σ H Q := ⟨v, h, q⟩
theorem s_c (q : Q v H) : tC v σ H Q := q
theorem s_op (h : ta σ H fun x H1 => tb σ H1 fun y H2 => r x y H2 Q) : tOp r ta tb σ H Q := h
theorem s_test (h : te σ H fun x H' => ∃ k, x = .bl k ∧ R k H') : tTest te σ H R := h
theorem s_B (h : te σ H fun x H' => ∃ k, x = .bl k ∧ R k H') : tB te σ H R := h
theorem s_andT (h : c σ H fun b H1 => if b = true then d σ H1 R else R false H1) : tAnd c d σ H R := h
theorem s_orT (h : c σ H fun b H1 => if b = true then R true H1 else d σ H1 R) : tOr c d σ H R := h
theorem s_notT (h : c σ H fun b H1 => R (!b) H1) : tNot c σ H R := h
theorem s_andV (h : ta σ H fun x H1 => ∃ c, x = .bl c ∧ if c = true then tb σ H1 Q else Q (.bl false) H1) : tAndV ta tb σ H Q := h
theorem s_orV (h : ta σ H fun x H1 => ∃ c, x = .bl c ∧ if c = true then Q (.bl true) H1 else tb σ H1 Q) : tOrV ta tb σ H Q := h
theorem s_notV (h : ta σ H fun x H1 => ∃ c, x = .bl c ∧ Q (.bl (!c)) H1) : tNotV ta σ H Q := h
theorem s_ifV (h : c σ H fun b H1 => if b = true then ta σ H1 Q else tb σ H1 Q) : tIf c ta tb σ H Q := h
theorem s_chain (h : ta σ H fun x H1 => tb σ H1 fun y H2 => r x y H2 fun z H3 => ∃ k, z = .bl k ∧ (if k = true then tc σ H3 fun w' H4 => r' y w' H4 Q else Q (.bl false) H3)) : tChain r r' ta tb tc σ H Q := h
theorem s_nil {R : List V → Hp → Prop} (q : R [] H) : tNil σ H R := q
theorem s_cons {R : List V → Hp → Prop} (h : te σ H fun x H1 => ts σ H1 fun xs H2 => R (x :: xs) H2) : tCons te ts σ H R := h
/-- a display: the new object by what is known of it -/
theorem s_tup (h : ts σ H fun xs H1 => rNewT Q xs H1) : tTup ts σ H Q := h
theorem s_lst (h : ts σ H fun xs H1 => rNewL Q xs H1) : tLst ts σ H Q := h
theorem q_newT {xs : List V} (hl : xs.length ≤ sizeLine) (q : ∀ p H', H p = none → Same H H' → H' p = some (.tup xs) → Q (.ref p) H') : rNewT Q xs H := ⟨hl, fun p n => q p _ n (Same.new n) upd_same⟩
theorem q_newL {xs : List V} (hl : xs.length ≤ sizeLine) (q : ∀ p H', H p = none → Same H H' → H' p = some (.lst xs) → Q (.ref p) H') : rNewL Q xs H := ⟨hl, fun p n => q p _ n (Same.new n) upd_same⟩
theorem new_by {o : HO} {R : Addr → Hp → Prop} (h : ∀ p H', H p = none → Same H H' → H' p = some o → R p H') : ∀ p, H p = none → R p (upd H p o) := fun p n => h p _ n (Same.new n) upd_same
theorem s_call {sp : Sp} {dvs : List V} {E : XK} (h : ts σ H fun vs H1 => sp (vs ++ dvs) H1 Q E) : tCall sp dvs E ts σ H Q := h
theorem s_CB {f : List V → Hp → VK → Prop} (h : ts σ H fun vs H1 => f vs H1 Q) : tCB f ts σ H Q := h
theorem s_BM {T : String} {f : V → List V → Hp → VK → Prop} (h : to σ H fun x H1 => tyV K T x H1 ∧ ts σ H1 fun xs H2 => f x xs H2 Q) : tBM K T f to ts σ H Q := h
theorem s_sl {f : V → Option Int → Option Int → Hp → VK → Prop} {tl th : TO} (h : te σ H fun x H1 => tl σ H1 fun l H2 => th σ H2 fun u H3 => f x l u H3 Q) : tSl f te tl th σ H Q := h
theorem s_noPart {R : Option Int → Hp → Prop} (q : R none H) : tNoPart σ H R := q
theorem s_part {R : Option Int → Hp → Prop} (h : te σ H fun x H1 => ∃ i, x = .int i ∧ R (some i) H1) : tPart te σ H R := h
theorem s_gsub {f : TSet} {N : L2.St → Hp → Prop} (h : to σ H fun o H1 => te σ H1 fun i H2 => f o i v H2 fun H3 => N σ H3) : gSub to te f v σ H N := h
theorem s_int {j : Int} {R : Int → Prop} (q : R j) : ∃ i, V.int j = .int i ∧ R i := ⟨j, rfl, q⟩
theorem s_ifT {A B : Prop} (h : A) : if true = true then A else B := by rw [if_pos rfl]; exact h
theorem s_ifF {A B : Prop} (h : B) : if false = true then A else B := by rw [if_neg Bool.false_ne_true]; exact h
theorem s_if {k : Bool} {A B : Prop} (h : k = true → A) (h' : k = false → B) : if k = true then A else B := by
  cases k with
  | true => exact s_ifT (h rfl)
  | false => exact s_ifF (h' rfl)
theorem q_setL {p : Addr} {xs : List V} {k : Int} {j : Nat} {R : Hp → Prop} (h : H p = some (.lst xs)) (hj : ixN xs.length k = some j) (q : R (upd H p (.lst (xs.set j v)))) : rSetL (.ref p) (.int k) v H R := ⟨p, xs, k, j, rfl, rfl, h, hj, q⟩
theorem s_if1 {k : Bool} {A B : Prop} (e : k = true) (h : A) : if k = true then A else B := by subst e; exact s_ifT h
theorem s_if0 {k : Bool} {A B : Prop} (e : k = false) (h : B) : if k = true then A else B := by subst e; exact s_ifF h
theorem s_ifD {p : Prop} {inst : Decidable p} {A B : Prop} (h : p → A) (h' : ¬ p → B) : if @decide p inst = true then A else B := by
  by_cases z : p
  · rw [decide_eq_true z]; exact s_ifT (h z)
  · rw [decide_eq_false z]; exact s_ifF (h' z)
end
end Bt
namespace Bt
open PySem PySem.Spec PyProof.Rows L2
section
variable {X : Cx}
/-! ### a power of any base -/
def CPowW (i j : Int) : Prop := 0 ≤ j ∧ (Builtin.Int.intBits i : Int) * j ≤ 2 ^ 27
theorem op_powW : OpR X (binaryOp .Pow) (rI CPowW fun i j => .int (i ^ j.toNat)) := opI fun _ _ _ _ _ _ _ hc q => pow_int hc.1 hc.2 q
/-! ### text[::-1] -/
def revT (z : Str) : Str := ⟨((Builtin.Str.strSliceIndices none none (-1) z.length).filterMap (z.cps[·]?)).toArray⟩
def tRevS (te : TE) : TE := fun σ H Q => te σ H fun x H1 => ∃ z, x = .str z ∧ (revT z).length ≤ sizeLine ∧ Q (.str (revT z)) H1
theorem pe_revS {e : Expr} {te : TE} {k : Nat} {p1 p2 p3 pos : Pos} (he : PE X e te) : PE X (.Subscript e (.Slice none none (some (.UnaryOp .USub (.Constant (.int 1) k p1) p2)) p3) pos) (tRevS te) := by
  refine ⟨fun pins s σ H Q I h => ?_⟩
  refine Subscript_ (thn (he.run pins s σ H _ I h) fun v s1 ⟨x, H1, I1, r1, q1⟩ => ?_)
  obtain ⟨z, ex, hz, q⟩ := q1
  subst ex
  obtain ⟨t, rfl⟩ := r1
  have hst : PO X (some (.UnaryOp .USub (.Constant (.int 1) k p1) p2)) (tPart (tUn (rU fun i => .int (-i)) (tC (.int 1)))) := po_some (pe_un un_neg pe_int)
  refine wpAny_Slice (thn (po_none.run pins s1 σ H1 (fun o H2 => o = none ∧ H2 = H1) I1 ⟨rfl, rfl⟩) fun vl s2 ⟨l, H2, I2, pl, el, e2⟩ => ?_)
  subst el e2
  refine thn (po_none.run pins s2 σ H2 (fun o H3 => o = none ∧ H3 = H2) I2 ⟨rfl, rfl⟩) fun vu s3 ⟨u, H3, I3, pu, eu, e3⟩ => ?_
  subst eu e3
  refine thn (hst.run pins s3 σ H3 (fun o H4 => o = some (-1) ∧ H4 = H3) I3 ⟨1, rfl, -1, rfl, rfl, rfl⟩) fun vs s4 ⟨o, H4, I4, ps, eo, e4⟩ => ?_
  subst eo e4
  have I5 : Inv X pins σ H4 { s4 with heap := s4.heap.push { cls := .type "slice", data := .fields #[vl, vu, vs] } } := I4.kept (t' := s4.toks) fun b ob q => Heap.get?_push_of_some _ q
  obtain ⟨l, rfl, el⟩ := IsPart.raw pl
  obtain ⟨u, rfl, eu⟩ := IsPart.raw pu
  obtain ⟨st, rfl, es⟩ := IsPart.raw ps
  show wpAny (model X.prog X.w) X.A (subscriptTail e (.Slice none none (some (.UnaryOp .USub (.Constant (.int 1) k p1) p2)) p3) (.str z t) (.ref s4.heap.objs.size)) (EP X pins σ Q) X.xe { s4 with heap := s4.heap.push { cls := .type "slice", data := .fields #[partValue l, partValue u, partValue st] } }
  have e1 : ((st.map (·.1)).getD 1) = -1 := by rw [es]; rfl
  refine tail_any (ops := [.ref s4.heap.objs.size, .str z t]) (typeIs_str _ _ _) (F.slot_str_getitem.lookup) ?_ (by with_unfolding_all rfl)
  refine wpAny_getItem_str_slice (l := l) (u := u) (st := st) (Heap.IsSliceOf.new _ _ _ _) (by rw [e1]; rfl) ?_
  show Made.post (if ((((st.map (·.1)).getD 1) == 1 && (Builtin.Str.strSliceIndices (l.map (·.1)) (u.map (·.1)) ((st.map (·.1)).getD 1) z.length).length == z.length) = true) then Made.val (.str z t)
    else Made.str ⟨((Builtin.Str.strSliceIndices (l.map (·.1)) (u.map (·.1)) ((st.map (·.1)).getD 1) z.length).filterMap (z.cps[·]?)).toArray⟩) (EP X pins σ Q) _
  rw [e1, el, eu, if_neg (by simp)]
  exact ⟨hz, .str _, H4, I5.tok _, ⟨_, rfl⟩, q⟩
end
/-! ### sorted(text) -/
/-- the signs of a text, each as a text -/
def signs (z : Str) : List Str := z.cps.toList.map fun c => ⟨#[c]⟩
theorem strs_of_signs {z : Str} {acc : Array Value} (h : ItemsOf (SignAt z) acc z.cps.size) : StrsAre acc.toList (signs z) := by
  have key : ∀ (l : List Value) (m : List Nat), l.length = m.length → (∀ (j : Nat) (v : Value) (c : Nat), l[j]? = some v → m[j]? = some c → ∃ u, v = .str ⟨#[c]⟩ u) → StrsAre l (m.map fun c => ⟨#[c]⟩) := by
    intro l
    induction l with
    | nil =>
      intro m hl _
      cases m with
      | nil => exact .nil
      | cons a r => cases hl
    | cons x l ih =>
      intro m hl hm
      cases m with
      | nil => cases hl
      | cons c r =>
        obtain ⟨u, e⟩ := hm 0 x c rfl rfl
        rw [e]
        exact .cons _ _ (ih r (Nat.succ.inj hl) fun j v d h1 h2 => hm (j + 1) v d (by simpa using h1) (by simpa using h2))
  refine key _ _ (by rw [Array.length_toList, Array.length_toList, h.1]) fun j v c h1 h2 => ?_
  obtain ⟨d, u, e1, e2⟩ := h.2 j v (by rw [← Array.getElem?_toList]; exact h1)
  rw [← Array.getElem?_toList, h2] at e1
  cases e1
  exact ⟨u, e2⟩
section
variable {X : Cx}
def rSortTx : List V → Hp → VK → Prop := fun vs H Q => ∃ z : Str, vs = [V.str z] ∧ z.length < 64 ∧ ∀ (ys : List Str) (p : Addr), ys.Perm (signs z) → sortedS ys = true → H p = none → Q (.ref p) (upd H p (.lst (ys.map V.str)))
theorem cr_sortedTx (hc : X.calm = true) : CallR X (.builtin "sorted") rSortTx := by
  intro pins s σ H vs us Q I r h
  obtain ⟨z, rfl, h64, q⟩ := h
  obtain ⟨u, rfl, rx⟩ := vals1 r
  obtain ⟨t, rfl⟩ := rx
  have hz : z.cps.size ≤ sizeLine := sz (Nat.le_of_lt (Nat.lt_trans h64 (by decide)))
  refine PySem.Calls.call_function_entry kind_sorted plain_sorted entry_sorted (args_sorted1 _) ?_
  unfold Builtin.«sorted»
  refine wpAny_bind (m := checkCount "sorted" 1 1 _) (wpAny_pure ?_)
  refine wpAny_bind (wpAny_collect_str (show X.A.in1.handled = none from I.ok.hd hc) z t (fun s' acc k eg ed eo hacc => ?_) hz)
  have hS := strs_of_signs hacc
  have hlen : acc.toList.length < 64 := by rw [Array.length_toList, hacc.1]; exact h64
  refine wpAny_bind (wpAny_newList ?_ (sz (by omega)))
  obtain ⟨hp, g, d, tk, os⟩ := s'
  dsimp only at eg ed eo
  subst eg ed eo
  have ho : (hp.push (seqObj "list" acc.toList.toArray 0)).get? hp.objs.size = some (seqObj "list" acc.toList.toArray 0) := Heap.get?_push_size _ rfl
  refine wpAny_bind (wpAny_holding (wpAny_call_entry slot_list_sort ⟨_, ho, rfl⟩ entry_list_sort (list_sort_treeK strKind_oneLt ho hS.keysOf (fun v₁ v₂ rest e => keyKind_strs (by rw [← e]; exact hS)) hlen fun st' a1 a2 => ⟨_, rfl, ?_⟩) (args_list_sort _)))
  obtain ⟨ss', h1, h2, h3⟩ := sorted_out_str hS a1 a2
  obtain ⟨ep, he⟩ := sortedHeap_at (vs := acc.toList) (out := (arrOf st').map (·.2)) (n := 0) ho
  have I1 : Inv X pins σ H ⟨hp, s.gens, s.drawn, tk, s.os⟩ := I.kept (t' := tk) k
  have old : ∀ b o, hp.get? b = some o → (sortedHeap (hp.push (seqObj "list" acc.toList.toArray 0)) hp.objs.size acc.toList ((arrOf st').map (·.2))).get? b = some o := fun b o e2 => by
    have hlt := Heap.lt_size e2
    rw [sortedHeap_old (Nat.ne_of_lt hlt) (by rw [size_push']; exact Nat.lt_succ_of_lt hlt), Heap.get?_push_ne _ _ _ (Nat.ne_of_lt hlt)]
    exact e2
  refine wpAny_pure ⟨_, rfl, ?_⟩
  have hl2 : (ss'.map V.str).length ≤ sizeLine := by rw [List.length_map, h2.length_eq]; exact sz (by unfold signs; rw [List.length_map, Array.length_toList]; exact Nat.le_of_lt (Nat.lt_trans h64 (by decide)))
  exact ⟨.ref _, upd H hp.objs.size (.lst (ss'.map V.str)), I1.laid (t' := tk) old (Nat.le_refl _) ⟨hl2, ((arrOf st').map (·.2)).toList, ep, vals_of_strs h1, he⟩, rfl, q ss' _ h2 h3 (I1.hok.fresh (Nat.le_refl _))⟩
end
end Bt
namespace Bt
open PySem PySem.Spec PyProof.Rows L2
variable {X : Cx}
/-! ### tuple(text) -/
theorem vals_of_signs {z : Str} {acc : Array Value} (h : ItemsOf (SignAt z) acc z.cps.size) : Vals ((signs z).map V.str) acc.toList := vals_of_strs (strs_of_signs h)
def rTupTx : List V → Hp → VK → Prop := fun vs H Q => ∃ z : Str, vs = [V.str z] ∧ z.length ≤ sizeLine ∧ ∀ p, H p = none → Q (.ref p) (upd H p (.tup ((signs z).map V.str)))
theorem q_tupTx {H : Hp} {Q : VK} {z : Str} (h : z.length ≤ sizeLine) (q : ∀ p H', H p = none → Same H H' → H' p = some (.tup ((signs z).map V.str)) → Q (.ref p) H') : rTupTx [.str z] H Q := ⟨z, rfl, h, fun p n => q p _ n (Same.new n) upd_same⟩
theorem call_tupleTx (hc : X.calm = true) : CallR X (.type "tuple") rTupTx := by
  intro pins s σ H vs us Q I r h
  obtain ⟨z, rfl, hz, q⟩ := h
  obtain ⟨u, rfl, rx⟩ := vals1 r
  obtain ⟨t, rfl⟩ := rx
  refine call_tuple_str (I.ok.hd hc) z t (fun h' tk acc k hacc => ?_) hz
  have I1 : Inv X pins σ H { s with heap := h', toks := tk } := I.kept (t' := tk) k
  have hl : ((signs z).map V.str).length ≤ sizeLine := by
    unfold signs
    rw [List.length_map, List.length_map, Array.length_toList]
    exact hz
  refine ⟨.ref h'.objs.size, _, I1.laid (t' := tk) (a := h'.objs.size) (o := .tup ((signs z).map V.str)) (fun b o e => Heap.get?_push_of_some _ e) (Nat.le_refl _) ⟨hl, acc.toList, vals_of_signs hacc, ?_⟩, rfl, q _ (I1.hok.fresh (Nat.le_refl _))⟩
  have e : acc.toList.toArray = acc := by simp
  rw [e]
  exact IsTup.new _ _
/-! ### C(e, ..), C's __init__ may raise; what is raised is wished for at the caller's slots -/
section
variable {CX : CXT} {k : Nat} {C f : Addr} {fd : FuncData} {ps : List Str} {sp : Sp} {dvs : List V} {ds : List Value} {E : L2.St → XK} {x : Str} {p pos : Pos} {e : Expr} {es : List Expr} {t : TA}
def tMakeS (C : Addr) (sp : Sp) (dvs : List V) (E : L2.St → XK) (t : TA) : TE := fun σ H Q => t σ H fun vs H1 => ∀ x dx, H1 x = none → H1 dx = none → dx ≠ x →
  sp (.ref x :: (vs ++ dvs)) (upd (upd H1 dx (.own x)) x (.ins C dx [])) (fun v H2 => v = .non ∧ Q (.ref x) H2) (E σ)
theorem run_makeS {pins : List (Addr × Obj)} {σ : L2.St} {H : Hp} {s : Shared} {Q : VK} {us : List Value} {vs : List V} (M : Mk X.K C f) (F : FnOk X.prog X.w X.K X.mg X.base CX k f fd ps sp) (hr : Room (k + 1) X.A) (hb : Binds X.K fd ps ds) (hd : Vals dvs ds)
    (hx : PassesAt CX X σ (E σ)) (I : Inv X pins σ H s) (r : Vals vs us)
    (h : ∀ x dx, H x = none → H dx = none → dx ≠ x → sp (.ref x :: (vs ++ dvs)) (upd (upd H dx (.own x)) x (.ins C dx [])) (fun v H2 => v = .non ∧ Q (.ref x) H2) (E σ)) :
    wpAny (model X.prog X.w) X.A (call (.ref C) us) (EP X pins σ Q) X.xe s := by
  have hq := h (s.heap.objs.size + 1) s.heap.objs.size (I.hok.fresh (Nat.le_succ _)) (I.hok.fresh (Nat.le_refl _)) (Nat.ne_of_lt (Nat.lt_succ_self _))
  have I2 := Inv.made (C := C) I
  have r2 : Vals (V.ref (s.heap.objs.size + 1) :: (vs ++ dvs)) (Value.ref (s.heap.objs.size + 1) :: (us ++ ds)) := .cons rfl (r.append hd)
  have hl : (Value.ref (s.heap.objs.size + 1) :: us ++ ds).length = ps.length := by
    have e := r2.length
    rw [F.len _ _ _ _ hq] at e
    exact e.symm
  refine wpAny_call (make_map (f := f) I.kIn M.makes M.init (beq_iff_eq.mp M.fn) (codeAny_mono (F.run _ X.stack _ _ ⟨Value.ref (s.heap.objs.size + 1) :: us, []⟩ (Value.ref (s.heap.objs.size + 1) :: (us ++ ds)) _ _ (E σ) (hr.make C us [])
    (I2.env0.make C us []) (hb _ (Value.ref (s.heap.objs.size + 1) :: us) I2.kIn hl) r2 hq) fun r s' hq' => ?_))
  cases r with
  | error e => exact hx pins _ _ e s' I2 hq'
  | ok fl =>
    cases fl with
    | ret u =>
      obtain ⟨v, H', I3, rv, ev, q3⟩ := I2.after hq'
      subst ev
      exact ⟨rv, ⟨V.ref (s.heap.objs.size + 1), H', I3, rfl, q3⟩⟩
    | next => exact False.elim hq'
    | brk => exact False.elim hq'
    | cont => exact False.elim hq'
theorem pe_makeS (M : Mk X.K C f) (F : FnOk X.prog X.w X.K X.mg X.base CX k f fd ps sp) (hr : Room (k + 1) X.A) (hg : Gl X x) (hm : X.mg x = some (.ref C)) (hb : Binds X.K fd ps ds) (hd : Vals dvs ds) (hx : ∀ σ, PassesAt CX X σ (E σ))
    (ha : PA X (e :: es) t) (hdb : (x == ("__debug__" : Str)) = false := by decide) (he : starEach (e :: es) X.env = (false, eval e X.env) :: starEach es X.env := by rfl) (hpl : (backTo pos (starEach es X.env)).any (·.1) = false := by rfl) :
    PE X (.Call (.Name x p) (e :: es) [] pos) (tMakeS C sp dvs E t) := by
  refine ⟨fun pins s σ H Q I h => ?_⟩
  refine wpAny_Call_Name_kw (ld_glob I hg hm ?_ hdb)
  refine PySem.W.callWith_K (h₀ := X.base) I.ok.mod.kin M.kp (thn (ha.run pos pins s σ H _ I h) fun us s1 ⟨vs, H1, I1, r, q⟩ => ⟨I1.kIn, ?_⟩) he hpl
  exact run_makeS M F hr hb hd (hx σ) I1 r q
end
/-! ### a comprehension over a text -/
theorem lc_str {z : Str} {g : TG} {tt : TT} {te : TE} {vs : List Nat} {σ : L2.St} {H1 : Hp} {D : Addr} {Qd : Hp → Prop} (Pv : Nat → Hp → Prop) (h0 : Pv 0 (upd H1 D (.lst [])))
    (hs : ∀ i (c : Nat) H, z.cps.toList[i]? = some c → Pv i H → g (.str ⟨#[c]⟩) (wipe σ vs) H fun σ2 H2 => wipe σ2 vs = wipe σ vs ∧ tt σ2 H2 fun b H3 =>
      if b = true then te σ2 H3 fun y H4 => ∃ acc, H4 D = some (.lst acc) ∧ acc.length < sizeLine ∧ Pv (i + 1) (upd H4 D (.lst (acc ++ [y]))) else Pv (i + 1) H3) (hd : ∀ H, Pv z.cps.size H → Qd H) :
    ∃ W : Nat → Nat → Hp → Prop, (∃ m, W 0 m (upd H1 D (.lst []))) ∧ ∀ i m H, W i m H →
      ((Its z).stop i H ∧ Qd H) ∨ ((Its z).go i H ∧ ∃ Nx : Hp → Prop, (∀ H', Nx H' → ∃ m', m' < m ∧ W (i + 1) m' H') ∧ ∀ x H', (Its z).yld i H x H' → g x (wipe σ vs) H' fun σ2 H2 => wipe σ2 vs = wipe σ vs ∧ tt σ2 H2 fun b H3 =>
        if b = true then te σ2 H3 fun y H4 => ∃ acc, H4 D = some (.lst acc) ∧ acc.length < sizeLine ∧ Nx (upd H4 D (.lst (acc ++ [y]))) else Nx H3) := by
  refine ⟨fun i m H => m = z.cps.size - i ∧ i ≤ z.cps.size ∧ Pv i H, ⟨z.cps.size, by simp, Nat.zero_le _, h0⟩, ?_⟩
  rintro i m H ⟨rfl, hi, p⟩
  by_cases hlt : i < z.cps.size
  · refine .inr ⟨hlt, Pv (i + 1), fun H' p' => ⟨z.cps.size - (i + 1), by omega, rfl, hlt, p'⟩, fun x H' y => ?_⟩
    obtain ⟨e, c, hc, ex⟩ := y
    subst e ex
    exact hs i c _ (by rw [Array.getElem?_toList]; exact hc) p
  · have e : i = z.cps.size := by omega
    subst e
    exact .inl ⟨Nat.le_refl _, hd H p⟩
theorem s_lc {wi : TI} {g : TG} {tt : TT} {te : TE} {vs : List Nat} {σ : L2.St} {H : Hp} {Q : VK} (h : wi σ H fun J H1 => ∀ D, H1 D = none → ∃ W : Nat → Nat → Hp → Prop, (∃ m, W 0 m (upd H1 D (.lst []))) ∧ ∀ i m H, W i m H →
  (J.stop i H ∧ Q (.ref D) H) ∨ (J.go i H ∧ ∃ Nx : Hp → Prop, (∀ H', Nx H' → ∃ m', m' < m ∧ W (i + 1) m' H') ∧ ∀ x H', J.yld i H x H' → g x (wipe σ vs) H' fun σ2 H2 => wipe σ2 vs = wipe σ vs ∧ tt σ2 H2 fun b H3 =>
    if b = true then te σ2 H3 fun y H4 => ∃ acc, H4 D = some (.lst acc) ∧ acc.length < sizeLine ∧ Nx (upd H4 D (.lst (acc ++ [y]))) else Nx H3)) : tLc wi g tt te vs σ H Q := h
theorem s_yes {σ : L2.St} {H : Hp} {R : Bool → Hp → Prop} (h : R true H) : tYes σ H R := h
theorem same_mut {H H' : Hp} {p : Addr} {o : HO} (e : Same H H') (h : H p = none) : Same H (upd H' p o) := fun a u ha => by
  rw [upd_ne (ne_of_none ha h)]
  exact e a u ha
theorem take_map_more {α β : Type} {f : α → β} {l : List α} {j : Nat} {x : α} (h : l[j]? = some x) : (l.take (j + 1)).map f = (l.take j).map f ++ [f x] := by
  rw [List.take_add_one, h, List.map_append]
  rfl
theorem s_iStr {te : TE} {σ : L2.St} {H : Hp} {R : It → Hp → Prop} (h : te σ H fun v H1 => ∃ x, v = .str x ∧ R (Its x) H1) : iStr te σ H R := h
theorem s_M0 {to : TE} {r : V → List V → Hp → VK → Prop} {σ : L2.St} {H : Hp} {Q : VK} (h : to σ H fun x H1 => (∃ a, x = .str a) ∧ r x [] H1 Q) : tM0 r to σ H Q := h
/-! ### x == y, x an instance of an own class with __eq__ -/
def rEqOwn (K : PySem.W.Frag) (C : Addr) (sp : Sp) (E : XK) : R2 := fun x y H Q => ∃ a dx fs t, x = .ref a ∧ H a = some (.ins C dx fs) ∧ TyX K H y t ∧ PySem.W.notFirst K C t = true ∧ sp [x, y] H (fun v H' => ∃ b, v = .bl b ∧ Q v H') E
theorem op_eqOwn {CX : CXT} {n : Nat} {C f : Addr} {fd : FuncData} {ps : List Str} {sp : Sp} {E : XK} (F : FnOk X.prog X.w X.K X.mg X.base CX n f fd ps sp) (hr : Room n X.A)
    (hs : PySem.W.findIn X.K (.ref C) "__eq__" = some (some (.ref f))) (hf : PySem.W.isFn X.K (.ref f) = true) (hb : Binds X.K fd ps []) (hx : Passes CX X E) : OpR X (compareOp .Eq) (rEqOwn X.K C sp E) := by
  intro pins s σ H x y v u Q I rx ry hq
  obtain ⟨a, dx, fs, t, rfl, ha, ty, hn, hsp⟩ := hq
  cases rx
  obtain ⟨mA, J, _⟩ := ins_get I.hok ha
  obtain ⟨od, J, _⟩ := J.look
  obtain ⟨m, hF⟩ := I.fr
  obtain ⟨P, Z, p, _⟩ := kit_of I ry ty
  show wpAny (model X.prog X.w) X.A (richCompare .Eq (.ref a) u) (EP X pins σ Q) X.xe s
  refine PySem.W.cmp_K (op := .Eq) (tb := t) hr.units0 hF I.ok.mod.kin J (Z.ty _ _ I.kIn p) hn hs hf ?_
  have hl := F.len _ _ _ _ hsp
  have r2 : Vals [V.ref a, y] [Value.ref a, u] := .cons rfl (.cons ry .nil)
  refine wpAny_call (codeAny_mono (F.run X.A X.stack s H ⟨[.ref a, u], []⟩ [.ref a, u] [.ref a, y] _ E hr I.env0 (by
    have := hb s [.ref a, u] I.kIn (by simpa using hl)
    simpa using this) r2 hsp) fun r s' hq => ?_)
  cases r with
  | error e => exact hx pins σ H s e s' I hq
  | ok fl =>
    cases fl with
    | ret w =>
      obtain ⟨z, H', I', rz, b, ez, q⟩ := I.after hq
      subst ez
      cases rz
      exact ⟨.bl b, H', I', rfl, q⟩
    | next => exact False.elim hq
    | brk => exact False.elim hq
    | cont => exact False.elim hq
end Bt
namespace Bt
open PySem PyProof.Rows
/-! ### letters -/
abbrev sg (c : Nat) : Str := ⟨#[c]⟩
def alphaS : Str := "abcdefghijklmnopqrstuvwxyz"
def alpha : List Nat := (List.range 26).map (97 + ·)
theorem alphaS_cps : alphaS.cps.toList = alpha := by decide +kernel
theorem alpha_len : alpha.length = 26 := by decide
theorem mem_alpha {c : Nat} : c ∈ alpha ↔ 97 ≤ c ∧ c ≤ 122 := by
  unfold alpha
  rw [List.mem_map]
  constructor
  · rintro ⟨a, h, rfl⟩
    have := List.mem_range.mp h
    omega
  · rintro ⟨h1, h2⟩
    exact ⟨c - 97, List.mem_range.mpr (by omega), by omega⟩
theorem alpha_nd : alpha.Nodup := by decide
/-- the letters of a form -/
def Letters (z : Str) : Prop := z.cps.toList.Perm alpha
instance {z : Str} : Decidable (Letters z) := inferInstanceAs (Decidable (List.Perm _ _))
theorem rising_pw : ∀ (cs : List Nat) (p : Nat), risingS (sg p) (cs.map sg) = true → (p :: cs).Pairwise (· ≤ ·)
  | [], p, _ => List.pairwise_singleton _ _
  | c :: cs, p, h => by
    have h' : (!Spec.ltCps [c] [p] && risingS (sg c) (cs.map sg)) = true := h
    obtain ⟨h1, h2⟩ := Bool.and_eq_true_iff.mp h'
    have ih := rising_pw cs c h2
    have hpc : p ≤ c := by
      rw [ltCps_eq] at h1
      rcases Nat.lt_or_ge c p with k | k
      · have : ([c] : List Nat) < [p] := List.Lex.rel k
        simp [this] at h1
      · exact k
    refine List.pairwise_cons.mpr ⟨fun a ha => ?_, ih⟩
    rcases List.mem_cons.mp ha with e | ha
    · rw [e]; exact hpc
    · exact Nat.le_trans hpc ((List.pairwise_cons.mp ih).1 a ha)
theorem sorted_pw (cs : List Nat) (h : sortedS (cs.map sg) = true) : cs.Pairwise (· ≤ ·) := by
  cases cs with
  | nil => exact List.Pairwise.nil
  | cons c cs => exact rising_pw cs c h
theorem sg_inj : Function.Injective sg := fun a b h => by
  have : (#[a] : Array Nat) = #[b] := congrArg Str.cps h
  simpa using this
theorem signs_eq (z : Str) : signs z = z.cps.toList.map sg := rfl
theorem perm_signs {z : Str} {ys : List Str} (h : ys.Perm (signs z)) : ∃ cs : List Nat, ys = cs.map sg ∧ cs.Perm z.cps.toList := by
  let f : Str → Nat := fun s => s.cps.toList.headD 0
  have fs : ∀ c, f (sg c) = c := fun c => rfl
  refine ⟨ys.map f, ?_, ?_⟩
  · rw [List.map_map]
    have : ∀ y ∈ ys, (sg ∘ f) y = y := fun y hy => by
      have := h.mem_iff.mp hy
      rw [signs_eq, List.mem_map] at this
      obtain ⟨c, _, rfl⟩ := this
      rfl
    exact ((List.map_congr_left this).trans (List.map_id _)).symm
  · have := h.map f
    rw [signs_eq, List.map_map] at this
    have e : (z.cps.toList).map (f ∘ sg) = z.cps.toList := (List.map_congr_left (fun c _ => fs c)).trans (List.map_id _)
    rw [e] at this
    exact this
theorem eqvAll_strs : ∀ (xs ys : List Str), PyData.eqvAll (xs.map .str) (ys.map .str) = decide (xs = ys)
  | [], [] => by simp [PyData.eqvAll]
  | [], y :: ys => by simp [PyData.eqvAll]
  | x :: xs, [] => by simp [PyData.eqvAll]
  | x :: xs, y :: ys => by
    have ih := eqvAll_strs xs ys
    simp only [List.map_cons, PyData.eqvAll, PyData.eqv, ih]
    by_cases h1 : x = y <;> by_cases h2 : xs = ys <;> simp [h1, h2]
theorem sorted_eq_iff {z w : Str} {ys ws : List Str} (h1 : ys.Perm (signs z)) (s1 : sortedS ys = true) (h2 : ws.Perm (signs w)) (s2 : sortedS ws = true) :
    PyData.eqv (.list (ys.map .str)) (.list (ws.map .str)) = decide (z.cps.toList.Perm w.cps.toList) := by
  obtain ⟨cs, rfl, p1⟩ := perm_signs h1
  obtain ⟨ds, rfl, p2⟩ := perm_signs h2
  have q1 := sorted_pw cs s1
  have q2 := sorted_pw ds s2
  show PyData.eqvAll _ _ = _
  rw [eqvAll_strs]
  apply decide_eq_decide.mpr
  constructor
  · intro e
    have e2 : cs = ds := by
      have := congrArg (List.map fun s : Str => s.cps.toList.headD 0) e
      simpa [List.map_map, Function.comp_def] using this
    subst e2
    exact p1.symm.trans p2
  · intro e
    have p : cs.Perm ds := (p1.trans e).trans p2.symm
    rw [p.eq_of_pairwise (fun a b _ _ h1 h2 => Nat.le_antisymm h1 h2) q1 q2]
end Bt
namespace Bt
open PySem PySem.Spec PyProof.Rows L2
/-! ### a def as it stands behind the top, by its name alone -/
structure Df (K : PySem.W.Frag) (mg : Str → Option Value) (x : Str) (st : Stmt) (ps : List Str) : Prop where
  ex : ∃ (f : Addr) (fd : FuncData), Fun K x x st f fd ∧ mg x = some (.ref f) ∧ Binds K fd ps []
/-- a def that raises nothing, with its promise -/
structure Cal (P : Program) (w : World) (K : PySem.W.Frag) (mg : Str → Option Value) (base : Heap) (k : Nat) (x : Str) (sp : Sp) : Prop where
  ex : ∃ (f : Addr) (fd : FuncData) (ps : List Str), FnOk P w K mg base CX0 k f fd ps sp ∧ mg x = some (.ref f) ∧ PySem.W.keepIn K (.ref f) = true ∧ Binds K fd ps []
/-- one that may raise -/
structure CalX (P : Program) (w : World) (K : PySem.W.Frag) (mg : Str → Option Value) (base : Heap) (k : Nat) (x : Str) (sp : Sp) : Prop where
  ex : ∃ (f : Addr) (fd : FuncData) (ps : List Str), FnOk P w K mg base (L2.CX P w) k f fd ps sp ∧ mg x = some (.ref f) ∧ PySem.W.keepIn K (.ref f) = true ∧ Binds K fd ps []
section
variable {P : Program} {w : World} {K : PySem.W.Frag} {mg : Str → Option Value} {base : Heap} {x : Str} {st : Stmt} {N ps : List Str} {k : Nat} {sp : Sp}
theorem Df.cal (D : Df K mg x st ps) (S : FnScope N ps (defScope st)) (len : ∀ vs H Q E, sp vs H Q E → vs.length = ps.length)
    (hbody : ∀ (f : Addr) (cdv : Value) (A : Around) (outer : List Env) (s : Shared) (H : Hp) (vs : List V) (Q : VK) (E : XK), Room k (A.deeper (envOfC x (defScope st) s.heap.objs.size f cdv)) → sp vs H Q E →
      ∃ t, PSs (cxOf CX0 P w K mg base N x (defScope st) f cdv A outer s H E).nox (defBody st) t ∧ t { nx := fun _ H' => Q .non H', rt := Q } (start N vs) H) : Cal P w K mg base (k + 1) x sp := by
  obtain ⟨f, fd, F, g, b⟩ := D.ex
  exact ⟨⟨f, fd, ps, F.ok S len (hbody f), g, F.kp, b⟩⟩
theorem Df.calX (D : Df K mg x st ps) (S : FnScope N ps (defScope st)) (len : ∀ vs H Q E, sp vs H Q E → vs.length = ps.length)
    (hbody : ∀ (f : Addr) (cdv : Value) (A : Around) (outer : List Env) (s : Shared) (H : Hp) (vs : List V) (Q : VK) (E : XK), Room k (A.deeper (envOfC x (defScope st) s.heap.objs.size f cdv)) → sp vs H Q E →
      ∃ t, PSs (cxOf (L2.CX P w) P w K mg base N x (defScope st) f cdv A outer s H E) (defBody st) t ∧ t { nx := fun _ H' => Q .non H', rt := Q } (start N vs) H) : CalX P w K mg base (k + 1) x sp := by
  obtain ⟨f, fd, F, g, b⟩ := D.ex
  exact ⟨⟨f, fd, ps, F.okX S len (hbody f), g, F.kp, b⟩⟩
end
section
variable {X : Cx} {k j : Nat} {x : Str} {sp : Sp} {p pos : Pos} {e : Expr} {es : List Expr} {t : TA}
theorem pe_c (c : Cal X.prog X.w X.K X.mg X.base k x sp) (hr : Room j X.A) (hk : k ≤ j) (hg : Gl X x) (ha : PA X (e :: es) t)
    (hdb : (x == ("__debug__" : Str)) = false := by decide) (he : starEach (e :: es) X.env = (false, eval e X.env) :: starEach es X.env := by rfl) (hpl : (backTo pos (starEach es X.env)).any (·.1) = false := by rfl) :
    PE X (.Call (.Name x p) (e :: es) [] pos) (tCall sp [] E0 t) := by
  obtain ⟨f, fd, ps, F, hm, kp, b⟩ := c.ex
  exact pe_call F (hr.mono hk) hg hm kp b .nil pass0 ha hdb he hpl
/-- a def that may raise, called where it does not -/
theorem pe_cx0 (c : CalX X.prog X.w X.K X.mg X.base k x sp) (hr : Room j X.A) (hk : k ≤ j) (hg : Gl X x) (ha : PA X (e :: es) t)
    (hdb : (x == ("__debug__" : Str)) = false := by decide) (he : starEach (e :: es) X.env = (false, eval e X.env) :: starEach es X.env := by rfl) (hpl : (backTo pos (starEach es X.env)).any (·.1) = false := by rfl) :
    PE X (.Call (.Name x p) (e :: es) [] pos) (tCall sp [] E0 t) := by
  obtain ⟨f, fd, ps, F, hm, kp, b⟩ := c.ex
  exact pe_call F (hr.mono hk) hg hm kp b .nil passL ha hdb he hpl
end
/-! ### kinds of values -/
/-- a value of a built-in kind, with its type's name -/
def Ty (K : PySem.W.Frag) (H : Hp) (x : V) (T : String) : Prop := TyX K H x (.type T)
theorem kit_is {K : PySem.W.Frag} {a b : String} (h : (a == b) = true) : PySem.W.kitOne K (.type a) (.type b) = some true := kit_ty (by
  have e : a = b := by simpa using h
  subst e
  unfold kitB
  rw [if_pos (by simp)])
/-- the kinds that data have, and what isinstance says of them -/
inductive Kd : String → Prop where
  | non : Kd "NoneType" | bl : Kd "bool" | int : Kd "int" | str : Kd "str" | lst : Kd "list" | tup : Kd "tuple" | dct : Kd "dict"
def subKd (a b : String) : Bool := a == b || (a == "bool" && b == "int")
theorem kit_kd {K : PySem.W.Frag} {a b : String} (ha : Kd a) (hb : Kd b) : PySem.W.kitOne K (.type a) (.type b) = some (subKd a b) := by
  cases ha <;> cases hb <;> exact kit_ty (by decide +kernel)
/-- a plain value: data at its top -/
def Pl (K : PySem.W.Frag) (H : Hp) (x : V) (T : String) : Prop := TyX K H x (.type T) ∧ Kd T
theorem q_isi {K : PySem.W.Frag} {H : Hp} {Q : VK} {x : V} {a b : String} (h : Pl K H x a) (hb : Kd b) (q : Q (.bl (subKd a b)) H) : rIsi K [x, .ty b] H Q :=
  ⟨x, .ty b, .type a, .type b, subKd a b, rfl, .ty b, h.1, kit_kd h.2 hb, q⟩
theorem Pl.non {K : PySem.W.Frag} {H : Hp} : Pl K H .non "NoneType" := ⟨.base .non, .non⟩
theorem Pl.bl {K : PySem.W.Frag} {H : Hp} {b : Bool} : Pl K H (.bl b) "bool" := ⟨.base (.bl b), .bl⟩
theorem Pl.int {K : PySem.W.Frag} {H : Hp} {i : Int} : Pl K H (.int i) "int" := ⟨.base (.int i), .int⟩
theorem Pl.str {K : PySem.W.Frag} {H : Hp} {z : Str} : Pl K H (.str z) "str" := ⟨.base (.str z), .str⟩
theorem Pl.lst {K : PySem.W.Frag} {H : Hp} {a : Addr} {xs : List V} (h : H a = some (.lst xs)) : Pl K H (.ref a) "list" := ⟨.base (.lst h), .lst⟩
theorem Pl.tup {K : PySem.W.Frag} {H : Hp} {a : Addr} {xs : List V} (h : H a = some (.tup xs)) : Pl K H (.ref a) "tuple" := ⟨.base (.tup h), .tup⟩
theorem TyX.mono {K : PySem.W.Frag} {H H' : Hp} {x : V} {t : Value} (S : Same H H') (h : TyX K H x t) : TyX K H' x t := by
  cases h with
  | base b =>
    cases b with
    | non => exact .base .non
    | bl z => exact .base (.bl z)
    | int z => exact .base (.int z)
    | str z => exact .base (.str z)
    | flt z => exact .base (.flt z)
    | lst e => exact .base (.lst (S _ _ e))
    | frz e => exact .base (.frz (S _ _ e))
    | tup e => exact .base (.tup (S _ _ e))
    | dK e => exact .base (.dK (S _ _ e))
    | dT e => exact .base (.dT (S _ _ e))
    | ins e cl ha hn htk hm => exact .base (.ins (S _ _ e) cl ha hn htk hm)
  | byt b => exact .byt b
  | set e => exact .set (S _ _ e)
  | kList e c => exact .kList e c
  | kTuple e c => exact .kTuple e c
  | kDict e c => exact .kDict e c
  | fTuple e => exact .fTuple (S _ _ e)
  | fDict e => exact .fDict (S _ _ e)
theorem Pl.mono {K : PySem.W.Frag} {H H' : Hp} {x : V} {T : String} (S : Same H H') (h : Pl K H x T) : Pl K H' x T := ⟨TyX.mono S h.1, h.2⟩
theorem ty_ne {a b : String} {p : Prop} (e : Value.type a = Value.type b) (h : a ≠ b) : p := absurd (Value.type.inj e) h
theorem Pl.is_str {K : PySem.W.Frag} {H : Hp} {z : Str} {T : String} (h : Pl K H (.str z) T) : T = "str" := by
  have key : ∀ t, TyX K H (.str z) t → t = .type "str" := fun t h => by
    cases h with
    | base b => cases b; rfl
  exact Value.type.inj (key _ h.1)
theorem Pl.is_int {K : PySem.W.Frag} {H : Hp} {z : Int} {T : String} (h : Pl K H (.int z) T) : T = "int" := by
  have key : ∀ t, TyX K H (.int z) t → t = .type "int" := fun t h => by
    cases h with
    | base b => cases b; rfl
  exact Value.type.inj (key _ h.1)
theorem Pl.is_bl {K : PySem.W.Frag} {H : Hp} {z : Bool} {T : String} (h : Pl K H (.bl z) T) : T = "bool" := by
  have key : ∀ t, TyX K H (.bl z) t → t = .type "bool" := fun t h => by
    cases h with
    | base b => cases b; rfl
  exact Value.type.inj (key _ h.1)
theorem Pl.of_str {K : PySem.W.Frag} {H : Hp} {x : V} {T : String} (h : Pl K H x T) (e : T = "str") : ∃ z, x = .str z := by
  have key : ∀ t, TyX K H x t → t = .type "str" → ∃ z, x = .str z := fun t h e => by
    cases h with
    | base b =>
      cases b with
      | str z => exact ⟨z, rfl⟩
      | ins _ _ _ _ _ _ => cases e
      | _ => exact ty_ne e (by decide)
    | _ => exact ty_ne e (by decide)
  exact key _ h.1 (by rw [e])
theorem Pl.of_int {K : PySem.W.Frag} {H : Hp} {x : V} {T : String} (h : Pl K H x T) (e : T = "int") : ∃ z, x = .int z := by
  have key : ∀ t, TyX K H x t → t = .type "int" → ∃ z, x = .int z := fun t h e => by
    cases h with
    | base b =>
      cases b with
      | int z => exact ⟨z, rfl⟩
      | ins _ _ _ _ _ _ => cases e
      | _ => exact ty_ne e (by decide)
    | _ => exact ty_ne e (by decide)
  exact key _ h.1 (by rw [e])
/-- the object at a stands where the abstract heap has grown -/
theorem q_sortTx {H : Hp} {Q : VK} {z : Str} (h : z.length < 64) (q : ∀ (ys : List Str) (p : Addr) H', H p = none → Same H H' → H' p = some (.lst (ys.map V.str)) → ys.Perm (signs z) → sortedS ys = true → Q (.ref p) H') : rSortTx [.str z] H Q :=
  ⟨z, rfl, h, fun ys p h1 h2 n => q ys p _ n (Same.new n) upd_same h1 h2⟩
theorem dp_strs {K : PySem.W.Frag} {H : Hp} : ∀ ys : List Str, DpAll K H (ys.map V.str) (ys.map PyData.str)
  | [] => .nil
  | y :: ys => .cons (.str y) (dp_strs ys)
theorem dp_lst_strs {K : PySem.W.Frag} {H : Hp} {p : Addr} {ys : List Str} (h : H p = some (.lst (ys.map V.str))) : Dp K H (.ref p) (.list (ys.map PyData.str)) := .lst (SqL.of h) (dp_strs ys)
def Asc (z : Str) : Prop := ∀ c ∈ z.cps.toList, c < 128
theorem Asc.ok {z : Str} (h : Asc z) : PyData.strOk z = true := by
  unfold PyData.strOk
  rw [← Array.all_toList, List.all_eq_true]
  intro c hc
  have := h c hc
  exact decide_eq_true (by omega)
theorem canLay_strs : ∀ (ys : List Str), (∀ y ∈ ys, Asc y) → PyData.canLayAll0 (ys.map PyData.str) = true
  | [], _ => rfl
  | y :: ys, h => by
    simp only [List.map_cons, PyData.canLayAll0, PyData.canLay0, Bool.and_eq_true]
    exact ⟨(h y List.mem_cons_self).ok, canLay_strs ys fun z hz => h z (List.mem_cons_of_mem _ hz)⟩
theorem depth_strs : ∀ (ys : List Str), PyData.depthAll (ys.map PyData.str) = 0
  | [] => rfl
  | y :: ys => by simp only [List.map_cons, PyData.depthAll, PyData.depth, depth_strs ys]; rfl
theorem shaped_strs {ys : List Str} (h : ∀ y ∈ ys, Asc y) : SeqAt.shaped (.list (ys.map PyData.str)) = true := by
  unfold SeqAt.shaped
  rw [Bool.and_eq_true]
  refine ⟨?_, ?_⟩
  · simp only [PyData.canLay0]; exact canLay_strs ys h
  · simp only [PyData.depth, depth_strs]; decide
theorem asc_signs {z : Str} (h : Asc z) : ∀ y ∈ signs z, Asc y := fun y hy c hc => by
  unfold signs at hy
  obtain ⟨d, hd, rfl⟩ := List.mem_map.mp hy
  have : c = d := by simpa using hc
  subst this
  exact h _ hd
theorem shaped_sorted {z : Str} {ys : List Str} (h : Asc z) (p : ys.Perm (signs z)) : SeqAt.shaped (.list (ys.map PyData.str)) = true := shaped_strs fun y hy => asc_signs h y (p.mem_iff.mp hy)
theorem asc_alpha : Asc alphaS := fun c hc => by
  rw [alphaS_cps] at hc
  have := (mem_alpha.mp hc).2
  omega
end Bt
namespace Bt
open PySem PySem.Spec PyProof.Rows L2
theorem SqT_mono {K : PySem.W.Frag} {H H' : Hp} {a : Addr} {xs : List V} (e : Same H H') (h : SqT K H a xs) : SqT K H' a xs := by
  rcases h with (h | ⟨o, h⟩) | h
  · exact .inl (.inl (e _ _ h))
  · exact .inl (.inr ⟨o, e _ _ h⟩)
  · exact .inr h
mutual
theorem Dp.mono {K : PySem.W.Frag} {H H' : Hp} (S : Same H H') : ∀ {v : V} {d : PyData}, Dp K H v d → Dp K H' v d
  | _, _, .non => .non
  | _, _, .bl b => .bl b
  | _, _, .int i => .int i
  | _, _, .str x => .str x
  | _, _, .lst h r => .lst (S.seq h) (DpAll.mono S r)
  | _, _, .tup h r => .tup (SqT_mono S h) (DpAll.mono S r)
theorem DpAll.mono {K : PySem.W.Frag} {H H' : Hp} (S : Same H H') : ∀ {vs : List V} {ds : List PyData}, DpAll K H vs ds → DpAll K H' vs ds
  | _, _, .nil => .nil
  | _, _, .cons h r => .cons (Dp.mono S h) (DpAll.mono S r)
end
/-! ### an own error with one field, stored by its __init__ -/
def spExc (C : Addr) (fld : Str) : Sp := fun vs H Q _ => ∃ a v, vs = [.ref a, v] ∧ H a = some (exo a C none) ∧ ∀ dx, H dx = none → dx ≠ a → Q .non (upd (upd H dx (exd dx [(fld, v)])) a (exo a C (some dx)))
structure ExcF (K : PySem.W.Frag) (mg : Str → Option Value) (x fld : Str) (C : Addr) : Prop where
  g : mg x = some (.ref C)
  T : OexC K C
  no : PySem.W.findIn K (.ref C) fld = some none
  xf : XfC K C
  te : PySem.W.exmOne K (.ref C) (.ref C) = some true
  init : ∃ (f : Addr) (fd : FuncData) (qual : Str) (params : Arguments) (scope : Scope) (q1 q2 q3 q4 : Pos),
    PySem.W.findIn K (.ref C) "__init__" = some (some (.ref f)) ∧ PySem.W.typeIn K (.ref f) = some (.type "function") ∧
    FunD K "__init__" qual params [.Assign [.Attribute (.Name "self" q1) fld q2] (.Name fld q3) q4] scope [.non] [] f fd ∧ FnScope ["self", fld] ["self", fld] scope ∧ Binds K fd ["self", fld] []
section
variable {P : Program} {w : World} {K : PySem.W.Frag} {mg : Str → Option Value} {base : Heap} {x fld : Str} {C : Addr}
theorem exc_init {f : Addr} {fd : FuncData} {qual : Str} {params : Arguments} {scope : Scope} {q1 q2 q3 q4 : Pos} (T : OexC K C) (no : PySem.W.findIn K (.ref C) fld = some none)
    (F : FunD K "__init__" qual params [.Assign [.Attribute (.Name "self" q1) fld q2] (.Name fld q3) q4] scope [.non] [] f fd) (S : FnScope ["self", fld] ["self", fld] scope) (hd : (fld == ("__debug__" : Str)) = false) (hcd : (fld == ("__classdict__" : Str)) = false) :
    FnOk P w K mg base CX0 1 f fd ["self", fld] (spExc C fld) := by
  refine F.ok S (fun vs H Q E h => ?_) (fun cdv A outer s H vs Q E hr h => ?_)
  · obtain ⟨a, v, rfl, _⟩ := h
    rfl
  · obtain ⟨a, v, rfl, ha, k⟩ := h
    have v1 : Vis scope "self" := (S.par "self" List.mem_cons_self).elim .inl fun z => .inr (.inl z)
    have v2 : Vis scope fld := (S.par fld (List.mem_cons_of_mem _ List.mem_cons_self)).elim .inl fun z => .inr (.inl z)
    refine ⟨_, pss_one (ps_ost (pe_var (i := 0) rfl v1 (by decide) (by decide)) (pe_var (i := 1) rfl v2 hd hcd) (by rfl)), ?_⟩
    exact ⟨v, rfl, .ref a, rfl, a, C, rfl, T, no, .inl ⟨ha, fun dx n ne => k dx n ne⟩⟩
end
section
variable {X : Cx} {x fld : Str} {C : Addr} {k : Nat} {W : WX} {e : Expr} {te : TE} {p pos pos2 : Pos}
/-- what is wished may be weakened -/
def tMono (te : TE) : TE := fun σ H Q => ∃ Q' : VK, te σ H Q' ∧ ∀ v H1, Q' v H1 → Q v H1
theorem PE.mono (he : PE X e te) : PE X e (tMono te) := ⟨fun pins s σ H Q I h => by
  obtain ⟨Q', h1, h2⟩ := h
  refine thn (he.run pins s σ H Q' I h1) fun u s' z => ?_
  obtain ⟨v, H', I', r, q⟩ := z
  exact ⟨v, H', I', r, h2 v H' q⟩⟩
/-- raise C(e) -/
def tRaise1 (C : Addr) (fld : Str) (W : WX) (te : TE) : TS := fun _ σ H => te σ H fun v H1 => ∀ d H3, H1 d = none → Same H1 H3 → H3 d = some (.xd [(fld, v)]) → W (.ref C) (some d) σ H3
theorem ps_raise1 (hc : X.calm = true) (B : ExcF X.K X.mg x fld C) (hr : Room k X.A) (hk : 2 ≤ k) (tk : Takes X W) (he : PE X e te) (hg : Gl X x := by rfl) (hd : (fld == ("__debug__" : Str)) = false := by decide) (hcd : (fld == ("__classdict__" : Str)) = false := by decide)
    (hdb : (x == ("__debug__" : Str)) = false := by decide) (h1 : starEach (e :: []) X.env = (false, eval e X.env) :: starEach [] X.env := by rfl) (h2 : (backTo pos (starEach [] X.env)).any (·.1) = false := by rfl) :
    PS X (.Raise (some (.Call (.Name x p) [e] [] pos)) none pos2) (tRaise1 C fld W te) := by
  obtain ⟨f, fd, qual, params, scope, q1, q2, q3, q4, i1, i2, F, S, b⟩ := B.init
  have m := pmk_oex (sp := spExc C fld) (dvs := []) (p := p) (pos := pos) B.T i1 i2 (exc_init B.T B.no F S hd hcd) (hr.mono hk) b .nil pass0 hg B.g (pa_cons (PE.mono he) pa_nil h1) hdb h1 h2
  have q := ps_raise (pos := pos2) hc tk m
  refine ⟨fun pins s σ H D I h => q.run pins s σ H D I ?_⟩
  have key : ∀ v H1, (∀ d H3, H1 d = none → Same H1 H3 → H3 d = some (.xd [(fld, v)]) → W (.ref C) (some d) σ H3) →
      ([v].length ≤ 1000 ∧ ∀ a, H1 a = none → spExc C fld (.ref a :: ([v] ++ [])) (upd H1 a (exo a C none))
        (fun v H2 => v = .non ∧ ∃ (d : Addr) (fs : List (Str × V)), H2 a = some (exo a C (some d)) ∧ H2 d = some (exd d fs) ∧ H1 d = none ∧ W (.ref C) (some d) σ (upd (del H2 a) d (.xd fs))) (fun _ _ _ => False)) := fun v H1 z => by
    refine ⟨by show 1 ≤ 1000; decide, fun a ha => ⟨a, v, rfl, upd_same, fun dx n ne => ⟨rfl, dx, _, upd_same, by rw [upd_ne ne, upd_same], ?_, ?_⟩⟩⟩
    · rw [upd_ne ne] at n; exact n
    · have n1 : H1 dx = none := by rw [upd_ne ne] at n; exact n
      refine z dx _ n1 (fun b o e => ?_) upd_same
      have nb : b ≠ dx := ne_of_none e n1
      have na : b ≠ a := ne_of_none e ha
      rw [upd_ne nb, del_ne na, upd_ne na, upd_ne nb, upd_ne na]
      exact e
  exact ⟨_, h, fun v H1 z => key v H1 z⟩
theorem s_raise1 {C : Addr} {fld : Str} {W : WX} {te : TE} {D : Ends} {σ : L2.St} {H : Hp} (h : te σ H fun v H1 => ∀ d H3, H1 d = none → Same H1 H3 → H3 d = some (.xd [(fld, v)]) → W (.ref C) (some d) σ H3) : tRaise1 C fld W te D σ H := h
end
end Bt
namespace Bt
open PySem PySem.Spec PyProof.Rows L2
theorem app_cps (a b : Str) : (a ++ b).cps.toList = a.cps.toList ++ b.cps.toList := by
  show (a.cps ++ b.cps).toList = _
  simp
theorem len_cps (z : Str) : z.length = z.cps.toList.length := (Array.length_toList).symm
theorem app_len (a b : Str) : (a ++ b).length = a.length + b.length := by
  rw [len_cps, len_cps, len_cps, app_cps, List.length_append]
theorem cut_cps (z : Str) (lo hi : Option Int) : (cutS z lo hi).cps.toList = (z.cps.toList.drop (HT.sIx z.length 0 lo)).take (HT.sIx z.length z.length hi - HT.sIx z.length 0 lo) := rfl
theorem cut_from {z : Str} {i : Int} (h0 : 0 ≤ i) : (cutS z (some i) none).cps.toList = z.cps.toList.drop i.toNat := by
  obtain ⟨k, rfl⟩ : ∃ k : Nat, i = k := ⟨i.toNat, by omega⟩
  rw [cut_cps, HT.sIx_nat, HT.sIx_none, Int.toNat_natCast, len_cps]
  rcases Nat.le_total k z.cps.toList.length with h | h
  · rw [Nat.min_eq_left h, List.take_of_length_le (by rw [List.length_drop]; omega)]
  · rw [Nat.min_eq_right h, List.drop_of_length_le (Nat.le_refl _), List.drop_of_length_le h, List.take_nil]
theorem cut_to {z : Str} {j : Int} (h0 : 0 ≤ j) : (cutS z none (some j)).cps.toList = z.cps.toList.take j.toNat := by
  obtain ⟨k, rfl⟩ : ∃ k : Nat, j = k := ⟨j.toNat, by omega⟩
  rw [cut_cps, HT.sIx_nat, HT.sIx_none, Int.toNat_natCast, len_cps, List.drop_zero, Nat.sub_zero]
  rcases Nat.le_total k z.cps.toList.length with h | h
  · rw [Nat.min_eq_left h]
  · rw [Nat.min_eq_right h, List.take_of_length_le (Nat.le_refl _), List.take_of_length_le h]
theorem cut_mid {z : Str} {i j : Int} (h0 : 0 ≤ i) (h1 : 0 ≤ j) (h2 : i ≤ z.length) (h3 : j ≤ z.length) : (cutS z (some i) (some j)).cps.toList = (z.cps.toList.drop i.toNat).take (j.toNat - i.toNat) := by
  obtain ⟨k, rfl⟩ : ∃ k : Nat, i = k := ⟨i.toNat, by omega⟩
  obtain ⟨m, rfl⟩ : ∃ k : Nat, j = k := ⟨j.toNat, by omega⟩
  rw [cut_cps, HT.sIx_nat, HT.sIx_nat, Int.toNat_natCast, Int.toNat_natCast, Nat.min_eq_left (by omega), Nat.min_eq_left (by omega)]
theorem Letters.len {z : Str} (h : Letters z) : z.length = 26 := by rw [len_cps, h.length_eq, alpha_len]
theorem Letters.asc {z : Str} (h : Letters z) : Asc z := fun c hc => by
  have := (mem_alpha.mp (h.mem_iff.mp hc)).2
  omega
theorem letters_alpha : Letters alphaS := by unfold Letters; rw [alphaS_cps]
theorem letters_rev : Letters (revT alphaS) := by decide +kernel
theorem perm_rot {l : List Nat} (k : Nat) : (l.drop k ++ l.take k).Perm l := by
  refine List.perm_append_comm.trans ?_
  rw [List.take_append_drop]
theorem letters_rot {z a b : Str} {k : Nat} (h : Letters z) (ha : a.cps.toList = z.cps.toList.drop k) (hb : b.cps.toList = z.cps.toList.take k) : Letters (a ++ b) := by
  unfold Letters
  rw [app_cps, ha, hb]
  exact (perm_rot k).trans h
theorem perm_pull {l : List Nat} {t a : Nat} {c : Nat} (hta : t ≤ a) (hc : l[a]? = some c) : (l.take t ++ [c] ++ ((l.drop t).take (a - t) ++ l.drop (a + 1))).Perm l := by
  obtain ⟨ha, ec⟩ := List.getElem?_eq_some_iff.mp hc
  have e1 : l = l.take t ++ ((l.drop t).take (a - t) ++ (c :: l.drop (a + 1))) := by
    have h1 : l.drop t = (l.drop t).take (a - t) ++ (l.drop t).drop (a - t) := (List.take_append_drop _ _).symm
    have h2 : (l.drop t).drop (a - t) = l.drop a := by rw [List.drop_drop]; congr 1; omega
    have h3 : l.drop a = c :: l.drop (a + 1) := by rw [List.drop_eq_getElem_cons ha, ec]
    rw [← h3, ← h2, ← h1, List.take_append_drop]
  have e2 : (l.take t ++ [c] ++ ((l.drop t).take (a - t) ++ l.drop (a + 1))).Perm (l.take t ++ ((l.drop t).take (a - t) ++ (c :: l.drop (a + 1)))) := by
    rw [List.append_assoc]
    refine List.Perm.append_left _ ?_
    show ([c] ++ ((l.drop t).take (a - t) ++ l.drop (a + 1))).Perm _
    exact (List.perm_middle (a := c) (l₁ := (l.drop t).take (a - t)) (l₂ := l.drop (a + 1))).symm
  rw [← e1] at e2
  exact e2
theorem letters_pull {z x y r : Str} {t a c : Nat} (h : Letters z) (hta : t ≤ a) (hc : z.cps.toList[a]? = some c) (hx : x.cps.toList = z.cps.toList.take t) (hy : y.cps.toList = [c]) (hr : r.cps.toList = (z.cps.toList.drop t).take (a - t) ++ z.cps.toList.drop (a + 1)) : Letters (x ++ y ++ r) := by
  unfold Letters
  rw [app_cps, app_cps, hx, hy, hr]
  exact (perm_pull hta hc).trans h
end Bt
namespace Bt
open PySem PySem.Spec PyProof.Rows L2
section
variable {X : Cx}
/-- a tuple == an instance of an own class: the class's own __eq__ answers -/
def rEqTupOwn (K : PySem.W.Frag) (C : Addr) (sp : Sp) (E : XK) : R2 := fun x y H Q => ∃ t xs a dx fs, x = .ref t ∧ H t = some (.tup xs) ∧ y = .ref a ∧ H a = some (.ins C dx fs) ∧ sp [y, x] H (fun v H' => ∃ b, v = .bl b ∧ Q v H') E
theorem op_eqTupOwn {CX : CXT} {n : Nat} {C f : Addr} {fd : FuncData} {ps : List Str} {sp : Sp} {E : XK} (F : FnOk X.prog X.w X.K X.mg X.base CX n f fd ps sp) (hr : Room n X.A)
    (hs : PySem.W.findIn X.K (.ref C) "__eq__" = some (some (.ref f))) (hf : PySem.W.isFn X.K (.ref f) = true) (hb : Binds X.K fd ps []) (hx : Passes CX X E)
    (hsub : PySem.W.subIn X.K (.ref C) (.type "tuple") = some false) (hmro : PySem.W.mroIn X.K C (.type "tuple") = some false) : OpR X (compareOp .Eq) (rEqTupOwn X.K C sp E) := by
  intro pins s σ H x y v u Q I rx ry hq
  obtain ⟨t, xs, a, dx, fs, rfl, ht, rfl, ha, hsp⟩ := hq
  cases rx
  cases ry
  obtain ⟨mA, J, _⟩ := ins_get I.hok ha
  obtain ⟨od, J, _⟩ := J.look
  obtain ⟨m, hF⟩ := I.fr
  obtain ⟨its, r, pl, hz⟩ := I.tuple (.inl (.inl ht))
  have XK := I.kIn
  have hT : s.TypeIs (.ref t) "tuple" := pl.typeIs
  show wpAny (model X.prog X.w) X.A (richCompare .Eq (.ref t) (.ref a)) (EP X pins σ Q) X.xe s
  have inst : PySem.W.Looks (model X.prog X.w) s.heap (isInstance (.ref a) (.type "tuple")) false := J.type.andThen (PySem.W.looks_mroIn XK hmro)
  unfold richCompare
  simp only [oneThing_ref]
  refine wpAny_holding (wpAny_bind (wpAny_cRoomFor hr.units0 ?_))
  refine wpAny_bind (wpAny_typeOf hT (wpAny_bind (J.type.here ?_)))
  rw [if_pos (by rfl)]
  refine wpAny_bind ((PySem.W.looks_subIn XK hsub).here ?_)
  simp only [Bool.false_eq_true, if_false]
  refine wpAny_bind (wpAny_tryCompare_declines hT PySem.F.slot_tuple_eq (wpAny_call_entry PySem.F.slot_tuple_eq hT PySem.F.entry_tuple_eq ?_ (PySem.F.args_tuple_eq_2 _ _)))
  have hl := F.len _ _ _ _ hsp
  have r2 : Vals [V.ref a, V.ref t] [Value.ref a, Value.ref t] := .cons rfl (.cons rfl .nil)
  have back : ∀ s' : Shared, s' = s → wpAny (model X.prog X.w) X.A (tryCompare (.ref a) "__eq__" (.ref t)) (fun r s' => ∃ v, r = some v ∧ EP X pins σ Q v s') X.xe s' := fun s' e => by
    subst e
    unfold tryCompare
    refine wpAny_bind (PySem.W.ifBound_K XK J hs hf (wpAny_call (codeAny_mono (F.run X.A X.stack s' H ⟨[.ref a, .ref t], []⟩ [.ref a, .ref t] [.ref a, .ref t] _ E hr I.env0 (by
      have := hb s' [.ref a, .ref t] I.kIn (by simpa using hl)
      simpa using this) r2 hsp) fun r s' hq => ?_)))
    cases r with
    | error e => exact hx pins σ H _ e s' I hq
    | ok fl =>
      cases fl with
      | ret w =>
        obtain ⟨z, H', I', rz, b, ez, q⟩ := I.after hq
        subst ez
        cases rz
        exact wpAny_pure ⟨_, rfl, .bl b, H', I', rfl, q⟩
      | next => exact False.elim hq
      | brk => exact False.elim hq
      | cont => exact False.elim hq
  have step : ∀ s' : Shared, s' = s → wpAny (model X.prog X.w) X.A.in1 (Builtin.«tuple.__eq__» ⟨[.ref t, .ref a], []⟩) (fun fin s'' => fin = Fin.done (Flow.ret Value.notImplemented) ∧ s'' = s) X.xe s' := fun s' e => by
    subst e
    obtain ⟨hp, g, d, tk, os⟩ := s'
    unfold Builtin.«tuple.__eq__»
    wp_delta
    repeat (first | with_reducible refine inst.at ?_ | wp_step)
    exact ⟨rfl, rfl⟩
  refine wpAny_mono (step s rfl) (fun fin s' z => ?_) fun _ _ x => x
  obtain ⟨e1, e2⟩ := z
  subst e1 e2
  refine ⟨_, rfl, rfl, ?_⟩
  rw [if_pos (by rfl)]
  refine wpAny_bind (wpAny_mono (back _ rfl) (fun r s' z => ?_) fun _ _ x => x)
  obtain ⟨v, rfl, q⟩ := z
  exact wpAny_pure q
end
/-- for i, x in enumerate(xs) -/
theorem for_enum {K : PySem.W.Frag} {a : Addr} {xs : List V} {g : TG} {tb : TS} {D : Ends} {σ : L2.St} {H : Hp} (Pv : Nat → L2.St → Hp → Prop) (h0 : Pv 0 σ H) (hl : ∀ i σ H, i ≤ xs.length → Pv i σ H → SqL K H a xs)
    (hs : ∀ i x σ H T, xs[i]? = some x → Pv i σ H → H T = none → g (.ref T) σ (upd H T (.tup [.int (i : Nat), x])) fun σ2 H2 => tb { D with nx := Pv (i + 1), ct := Pv (i + 1), bk := D.nx } σ2 H2) (hd : ∀ σ H, Pv xs.length σ H → D.nx σ H) :
    ∃ W : Nat → Nat → L2.St → Hp → Prop, (∃ m, W 0 m σ H) ∧ ∀ i m σ H, W i m σ H →
      ((Ite K a).stop i H ∧ D.nx σ H) ∨ ((Ite K a).go i H ∧ ∃ N : L2.St → Hp → Prop, (∀ σ' H', N σ' H' → ∃ m', m' < m ∧ W (i + 1) m' σ' H') ∧ ∀ x H', (Ite K a).yld i H x H' → g x σ H' fun σ2 H2 => tb { D with nx := N, ct := N, bk := D.nx } σ2 H2) := by
  refine ⟨fun i m σ H => m = xs.length - i ∧ i ≤ xs.length ∧ Pv i σ H, ⟨xs.length, by simp, Nat.zero_le _, h0⟩, ?_⟩
  rintro i m σ H ⟨rfl, hi, p⟩
  have q := hl i σ H hi p
  by_cases hlt : i < xs.length
  · refine .inr ⟨⟨xs, xs[i], q, by simp [hlt]⟩, Pv (i + 1), fun σ' H' p' => ⟨xs.length - (i + 1), by omega, rfl, hlt, p'⟩, fun x H' y => ?_⟩
    obtain ⟨T, x0, e1, nT, e2, y⟩ := y
    subst e1 e2
    exact hs i x0 σ _ T (y xs q) p nT
  · have e : i = xs.length := by omega
    subst e
    exact .inl ⟨⟨xs, q, Nat.le_refl _⟩, hd σ H p⟩
theorem s_iList {K : PySem.W.Frag} {te : TE} {σ : L2.St} {H : Hp} {R : It → Hp → Prop} (h : te σ H fun x H1 => ∃ a, x = .ref a ∧ (∃ xs, SqL K H1 a xs) ∧ R (Itl K a) H1) : iList K te σ H R := h
theorem s_iEnum {K : PySem.W.Frag} {ts : TA} {σ : L2.St} {H : Hp} {R : It → Hp → Prop} (h : ts σ H fun vs H1 => ∃ a xs, vs = [.ref a] ∧ SqL K H1 a xs ∧ R (Ite K a) H1) : iEnum K ts σ H R := h
theorem same_but {p : Addr} {H0 H1 H2 : Hp} (S : Same H0 H1) (n : H0 p = none) (b : But p H1 H2) : Same H0 H2 := fun c o h => b c o (ne_of_none h n) (S c o h)
theorem s_par {i j : Nat} {ta : TA} {D : Ends} {σ : L2.St} {H : Hp} (h : ta σ H fun vs H1 => ∃ v w, vs = [v, w] ∧ D.nx ((σ.set i (some v)).set j (some w)) H1) : tPar i j ta D σ H := h
theorem s_gcons {t : TG} {u : TGs} {v : V} {r : List V} {σ : L2.St} {H : Hp} {N : L2.St → Hp → Prop} (h : t v σ H fun σ' H' => u r σ' H' N) : gCons t u (v :: r) σ H N := ⟨v, r, rfl, h⟩
theorem s_gnil {σ : L2.St} {H : Hp} {N : L2.St → Hp → Prop} (h : N σ H) : gNil [] σ H N := ⟨rfl, h⟩
theorem q_gtup {K : PySem.W.Frag} {n : Nat} {t : TGs} {a : Addr} {xs : List V} {σ : L2.St} {H : Hp} {N : L2.St → Hp → Prop} (h : SqT K H a xs) (hl : xs.length = n) (q : t xs σ H N) : gTup K n t (.ref a) σ H N := ⟨a, xs, rfl, h, hl, q⟩
theorem q_slL {K : PySem.W.Frag} {a : Addr} {xs : List V} {lo hi : Option Int} {H : Hp} {Q : VK} (h : SqL K H a xs) (q : ∀ p H', H p = none → Same H H' → H' p = some (.lst (cutV xs lo hi)) → Q (.ref p) H') : rSlL K (.ref a) lo hi H Q := ⟨a, xs, rfl, h, fun p n => q p _ n (Same.new n) upd_same⟩
theorem q_append {l : Addr} {xs : List V} {y : V} {H : Hp} {Q : VK} (h : H l = some (.lst xs)) (hl : xs.length < sizeLine) (q : ∀ H', But l H H' → H' l = some (.lst (xs ++ [y])) → Q .non H') : rAppend (.ref l) [y] H Q := ⟨l, xs, y, rfl, rfl, h, hl, q _ But.upd upd_same⟩
/-- a for over J from here on -/
def ForIt (J : It) (g : TG) (tb : TS) (D : Ends) (σ : L2.St) (H : Hp) : Prop := ∃ W : Nat → Nat → L2.St → Hp → Prop, (∃ m, W 0 m σ H) ∧ ∀ i m σ H, W i m σ H →
  (J.stop i H ∧ D.nx σ H) ∨ (J.go i H ∧ ∃ N : L2.St → Hp → Prop, (∀ σ' H', N σ' H' → ∃ m', m' < m ∧ W (i + 1) m' σ' H') ∧ ∀ x H', J.yld i H x H' → g x σ H' fun σ2 H2 => tb { D with nx := N, ct := N, bk := D.nx } σ2 H2)
theorem s_for {wi : TI} {g : TG} {tb : TS} {D : Ends} {σ : L2.St} {H : Hp} (h : wi σ H fun J H1 => ForIt J g tb D σ H1) : tFor wi g tb D σ H := h
section
variable {K : PySem.W.Frag} {a : Addr} {xs : List V} {g : TG} {tb : TS} {D : Ends} {σ : L2.St} {H : Hp}
theorem q_forL (Pv : Nat → L2.St → Hp → Prop) (h0 : Pv 0 σ H) (hl : ∀ i σ H, i ≤ xs.length → Pv i σ H → SqL K H a xs)
    (hs : ∀ i x σ H, xs[i]? = some x → Pv i σ H → g x σ H fun σ2 H2 => tb { D with nx := Pv (i + 1), ct := Pv (i + 1), bk := D.nx } σ2 H2) (hd : ∀ σ H, Pv xs.length σ H → D.nx σ H) : ForIt (Itl K a) g tb D σ H := for_list Pv h0 hl hs hd
theorem q_forE (Pv : Nat → L2.St → Hp → Prop) (h0 : Pv 0 σ H) (hl : ∀ i σ H, i ≤ xs.length → Pv i σ H → SqL K H a xs)
    (hs : ∀ i x σ H T, xs[i]? = some x → Pv i σ H → H T = none → g (.ref T) σ (upd H T (.tup [.int (i : Nat), x])) fun σ2 H2 => tb { D with nx := Pv (i + 1), ct := Pv (i + 1), bk := D.nx } σ2 H2) (hd : ∀ σ H, Pv xs.length σ H → D.nx σ H) : ForIt (Ite K a) g tb D σ H := for_enum Pv h0 hl hs hd
theorem q_forR {lo : Int} {n : Nat} (Pv : Nat → L2.St → Hp → Prop) (h0 : Pv 0 σ H)
    (hs : ∀ i σ H, i < n → Pv i σ H → g (.int (lo + i)) σ H fun σ2 H2 => tb { D with nx := Pv (i + 1), ct := Pv (i + 1), bk := D.nx } σ2 H2) (hd : ∀ σ H, Pv n σ H → D.nx σ H) : ForIt (Itr lo n) g tb D σ H := for_range Pv h0 hs hd
end
theorem s_rng1 {ta : TA} {σ : L2.St} {H : Hp} {R : It → Hp → Prop} (h : ta σ H fun vs H1 => ∃ j : Int, vs = [.int j] ∧ -(2 ^ 62) ≤ j ∧ j < 2 ^ 62 ∧ R (Itr 0 j.toNat) H1) : iRng1 ta σ H R := h
end Bt
namespace Bt
open PySem PySem.Spec PyProof.Rows L2
/-! ### sum of a tuple of ints -/
theorem sum_tup {prog : Program} {w : World} {A : Around} {E : Value → Shared → Prop} {s : Shared} {l : Addr} {its : List Value} {ns : List Int} {Q : Value → Shared → Prop} (hh : A.handled = none) (hl : IsTup s.heap l its.toArray) (hi : IntsAre its ns)
    (h : ∀ h' tk t', (∀ b o, s.heap.get? b = some o → h'.get? b = some o) → Q (.int ns.sum t') { s with heap := h', toks := tk }) : wpAny (model prog w) A (call (.builtin "sum") [.ref l]) Q E s := by
  obtain ⟨xs, e⟩ := hi.allInts.items
  have hn : numsOf (intItems xs).toList = ns := by rw [← e]; exact hi.numsOf
  rw [nums_intItems] at hn
  rw [e] at hl
  have hlt : l < s.heap.objs.size := by obtain ⟨_, e, _⟩ := hl; exact Heap.lt_size e
  refine call_sum_walkG (iter_tuple hl ?_)
  refine ⟨_, _, _, _, _, _, numAt xs, rfl, Walks.tuple (A := A.in1) hh _ l (Nat.ne_of_lt hlt) (intItems xs), ⟨⟨_, Heap.get?_push_size _ rfl, rfl, rfl⟩, ?_⟩, fun b hb => ?_, (fun _ _ => intItems_at), fun h' tk t' hk => ?_⟩
  · obtain ⟨o, ho, hc, n, hd⟩ := hl
    exact ⟨o, Heap.get?_push_of_some _ ho, hc, n, hd⟩
  · show b < (s.heap.push _).objs.size
    rw [Heap.size_push]
    rcases List.mem_cons.mp hb with rfl | hb
    · exact Nat.lt_succ_self _
    · rw [List.mem_singleton.mp hb]
      exact Nat.lt_succ_of_lt hlt
  · have := h h' tk t' fun b o e => hk b o (fun hm => by
      rw [List.mem_singleton.mp hm] at e
      exact absurd (Heap.lt_size e) (Nat.lt_irrefl _)) (Heap.get?_push_of_some _ e)
    rw [preSum_eq, List.take_of_length_le (by simp [intItems]), hn]
    exact this
def rSumT (K : PySem.W.Frag) : List V → Hp → VK → Prop := fun vs H Q => ∃ (a : Addr) (ns : List Int), vs = [V.ref a] ∧ SqT K H a (ns.map V.int) ∧ Q (.int ns.sum) H
theorem cr_sumT {X : Cx} (hc : X.calm = true) : CallR X (.builtin "sum") (rSumT X.K) := by
  intro pins s σ H vs us Q I r h
  obtain ⟨a, ns, rfl, hs, q⟩ := h
  obtain ⟨its, rv, hl, _⟩ := I.tuple hs
  rw [Vals.ref1 r]
  exact sum_tup (I.ok.hd hc) hl rv.ints fun h' tk t' hk => ⟨.int _, H, I.kept hk, ⟨_, rfl⟩, q⟩
theorem q_sumT {K : PySem.W.Frag} {H : Hp} {Q : VK} {a : Addr} {ns : List Int} (h : SqT K H a (ns.map V.int)) (q : Q (.int ns.sum) H) : rSumT K [.ref a] H Q := ⟨a, ns, rfl, h, q⟩
def rSumL (K : PySem.W.Frag) : List V → Hp → VK → Prop := fun vs H Q => ∃ (a : Addr) (ns : List Int), vs = [V.ref a] ∧ SqL K H a (ns.map V.int) ∧ Q (.int ns.sum) H
theorem cr_sumL {X : Cx} (hc : X.calm = true) : CallR X (.builtin "sum") (rSumL X.K) := cr_sum hc
theorem q_sumL {K : PySem.W.Frag} {H : Hp} {Q : VK} {a : Addr} {ns : List Int} (h : SqL K H a (ns.map V.int)) (q : Q (.int ns.sum) H) : rSumL K [.ref a] H Q := ⟨a, ns, rfl, h, q⟩
def rTupL (K : PySem.W.Frag) : List V → Hp → VK → Prop := fun xs H Q => ∃ p ys, xs = [.ref p] ∧ ((SqL K H p ys ∧ ∀ l, H l = none → Q (.ref l) (upd H l (.tup ys))) ∨ (SqT K H p ys ∧ Q (.ref p) H))
theorem call_tupL {X : Cx} : CallR X (.type "tuple") (rTupL X.K) := call_tuple_of
theorem q_tupL {K : PySem.W.Frag} {H : Hp} {Q : VK} {p : Addr} {ys : List V} (h : SqL K H p ys) (q : ∀ l H', H l = none → Same H H' → H' l = some (.tup ys) → Q (.ref l) H') : rTupL K [.ref p] H Q := ⟨p, ys, rfl, .inl ⟨h, fun l n => q l _ n (Same.new n) upd_same⟩⟩
end Bt
namespace Bt
open PySem PySem.Spec PyProof.Rows L2
/-! ### o(e, ..), o an instance with an own __call__ that may raise; what is raised is wished for at the caller's slots -/
section
variable {X : Cx} {CX : CXT} {k : Nat} {C g : Addr} {fd : FuncData} {ps : List Str} {sp : Sp} {E : L2.St → XK} {pos : Pos} {fe e : Expr} {es : List Expr} {tf : TE} {t : TA}
def tCallOS (C : Addr) (sp : Sp) (E : L2.St → XK) (tf : TE) (t : TA) : TE := fun σ H Q => tf σ H fun y H1 => ∃ a, y = V.ref a ∧ t σ H1 fun vs H2 => (∃ dx fs, H2 a = some (.ins C dx fs)) ∧ sp (V.ref a :: vs) H2 Q (E σ)
theorem run_callOS {pins : List (Addr × Obj)} {σ : L2.St} {H : Hp} {s : Shared} {Q : VK} {a : Addr} {us : List Value} {vs : List V} (c : StX.CallO X.K C g) (F : FnOk X.prog X.w X.K X.mg X.base CX k g fd ps sp) (hr : Room k X.A) (hb : Binds X.K fd ps [])
    (hx : PassesAt CX X σ (E σ)) (I : Inv X pins σ H s) (hi : ∃ dx fs, H a = some (.ins C dx fs)) (r : Vals vs us) (h : sp (V.ref a :: vs) H Q (E σ)) : wpAny (model X.prog X.w) X.A (call (.ref a) us) (EP X pins σ Q) X.xe s := by
  obtain ⟨ox, od, J, hd⟩ := StX.insC_at I (.inr hi)
  have r2 : Vals (V.ref a :: vs) (Value.ref a :: us) := .cons rfl r
  have hl : ((Value.ref a :: us) ++ []).length = ps.length := by rw [List.append_nil, ← r2.length]; exact F.len _ _ _ _ h
  have hb' := hb s (Value.ref a :: us) I.kIn hl
  rw [List.append_nil] at hb'
  refine wpAny_call (PySem.W.kco_code I.kIn J hd c.at_ c.fn c.fi (codeAny_mono (F.run X.A X.stack s H ⟨Value.ref a :: us, []⟩ (Value.ref a :: us) (V.ref a :: vs) Q (E σ) hr I.env0 hb' r2 h) fun r s' hq => ?_))
  cases r with
  | error e => exact hx pins H s e s' I hq
  | ok fl =>
    cases fl with
    | ret u => exact I.after hq
    | next => exact False.elim hq
    | brk => exact False.elim hq
    | cont => exact False.elim hq
theorem pe_callOS (hf : PE X fe tf) (c : StX.CallO X.K C g) (F : FnOk X.prog X.w X.K X.mg X.base CX k g fd ps sp) (hr : Room k X.A) (hb : Binds X.K fd ps []) (hx : ∀ σ, PassesAt CX X σ (E σ)) (ha : PA X (e :: es) t)
    (ht : eval (.Call fe (e :: es) [] pos) X.env = (do callWith pos (← eval fe X.env) [] (backTo pos (starEach (e :: es) X.env)) (backToKw pos (keywordEach [] X.env))) := by rfl)
    (he : starEach (e :: es) X.env = (false, eval e X.env) :: starEach es X.env := by rfl) (hpl : (backTo pos (starEach es X.env)).any (·.1) = false := by rfl) : PE X (.Call fe (e :: es) [] pos) (tCallOS C sp E tf t) := by
  refine ⟨fun pins s σ H Q I h => ?_⟩
  refine Call_ (thn (hf.run pins s σ H _ I h) fun u s1 ⟨y, H1, I1, ry, a, ey, q⟩ => ?_) ht
  subst ey
  obtain rfl : u = Value.ref a := ry
  refine StX.callO_with (thn (ha.run pos pins s1 σ H1 _ I1 q) fun us s2 ⟨vs, H2, I2, r, hi, q2⟩ => ?_) he hpl
  obtain ⟨ox, od, J, hd⟩ := StX.insC_at I2 (.inr hi)
  exact ⟨⟨C, ox, od, J, hd⟩, run_callOS c F hr hb (hx σ) I2 hi r q2⟩
theorem s_callOS {σ : L2.St} {H : Hp} {Q : VK} (h : tf σ H fun y H1 => ∃ a, y = V.ref a ∧ t σ H1 fun vs H2 => (∃ dx fs, H2 a = some (.ins C dx fs)) ∧ sp (V.ref a :: vs) H2 Q (E σ)) : tCallOS C sp E tf t σ H Q := h
end
end Bt
namespace Bt
open PySem PySem.Spec PyProof.Rows L2 LamX NdefX
/-! ### a lambda as a value -/
structure LF where
  qual : Str
  params : Arguments
  body : Expr
  scope : Scope
  cl : List (Str × Addr)
  c : Addr
abbrev LF.fd (F : LF) (pm ctv : Value) : FuncData := PySem.W.kla_fn "<lambda>" F.qual F.params F.body F.scope F.cl pm (.ref F.c) ctv
def FnL (f : Addr) (F : LF) : HO := .ext fun h => ∃ (od : Option Addr) (sl : Array (Option Value)) (pm ctv : Value), h.get? f = some (⟨.type "function", od, .func (F.fd pm ctv), sl⟩ : Obj)
theorem fnL_at {P : Program} {w : World} {H : Hp} {h : Heap} {f : Addr} {F : LF} (hok : HOk P w H h) (e : H f = some (FnL f F)) : ∃ (od : Option Addr) (sl : Array (Option Value)) (pm ctv : Value), h.get? f = some (⟨.type "function", od, .func (F.fd pm ctv), sl⟩ : Obj) := by
  obtain ⟨z, _, _⟩ := hok f _ e
  exact z
section
variable {X : Cx} {pins : List (Addr × Obj)} {σ : L2.St} {H : Hp} {s : Shared}
theorem inv_lf {F : LF} {o : Obj} {t' : Nat} {pm ctv : Value} {h : Heap} (I : Inv X pins σ H { s with heap := h, toks := t' }) (ho : o = { cls := .type "function", data := .func (F.fd pm ctv) }) :
    Inv X pins σ (upd H h.objs.size (FnL h.objs.size F)) { s with heap := h.push o, toks := t' } := by
  subst ho
  refine I.laid (t' := t') (a := h.objs.size) (fun b u e => Heap.get?_push_of_some _ e) (Nat.le_refl _) ?_
  have e : (h.push ({ cls := .type "function", data := .func (F.fd pm ctv) } : Obj)).get? h.objs.size = some ({ cls := .type "function", data := .func (F.fd pm ctv) } : Obj) := Heap.get?_push_size _ rfl
  exact ⟨⟨_, _, pm, ctv, e⟩, ⟨_, e⟩, fun h1 h2 ⟨od, sl, p, t, z⟩ st => ⟨od, sl, p, t, st _ z⟩⟩
/-- the heap with one more row in the table at P: the code object c' of the place pos -/
def putT (H : Hp) (P c' : Addr) (ps : Array Value) (pos : Pos) (q : Str) : Hp := upd (upd H P (.tbl (ps ++ #[rawInt pos.line, rawInt pos.col, .ref c']))) c' (CodeO c' q)
section
variable {P c' : Addr} {ps : Array Value} {pos : Pos} {q : Str}
theorem putT_code : putT H P c' ps pos q c' = some (CodeO c' q) := upd_same
theorem putT_tab (hP : H P = some (.tbl ps)) (nC : H c' = none) : putT H P c' ps pos q P = some (.tbl (ps ++ #[rawInt pos.line, rawInt pos.col, .ref c'])) := (upd_ne (ne_of_none hP nC)).trans upd_same
theorem putT_ne {b : Addr} (h1 : b ≠ P) (h2 : b ≠ c') : putT H P c' ps pos q b = H b := (upd_ne h2).trans (upd_ne h1)
theorem putT_old (hP : H P = some (.tbl ps)) (nC : H c' = none) : ExtN H (putT H P c' ps pos q) := fun b o e n =>
  (putT_ne (fun z => by subst z; exact n ps (Option.some.inj (e.symm.trans hP))) (ne_of_none e nC)).trans e
theorem putT_none {b : Addr} (e : putT H P c' ps pos q b = none) : H b = none := upd_none (upd_none e)
theorem putT_tabs {T : List NTab} {nm : Nat → Nat → Str} (hT : TabsN T H) (hP : H P = some (.tbl ps)) (nC : H c' = none) (ok : TriplesOk ps.toList) (own : ∀ (p' : Pos) (cv : Value), codeAmong p' ps.toList = some cv → ∃ d, cv = .ref d ∧ H d = some (CodeO d (nm p'.line p'.col)))
    (hq : nm pos.line pos.col = q) (hu : ∀ p ∈ T, p.1 = P → p.2 = nm) : TabsN T (putT H P c' ps pos q) := by
  have lift : ∀ {d : Addr} {r : Str}, H d = some (CodeO d r) → putT H P c' ps pos q d = some (CodeO d r) := fun e => putT_old hP nC _ _ e codeO_ne
  rintro ⟨R, mm⟩ hp
  by_cases hR : R = P
  · subst hR
    obtain rfl : mm = nm := hu _ hp rfl
    refine ⟨_, putT_tab hP nC, ?_⟩
    rw [show (ps ++ #[rawInt pos.line, rawInt pos.col, Value.ref c']).toList = ps.toList ++ [rawInt pos.line, rawInt pos.col, .ref c'] by simp]
    refine ⟨TriplesOk_snoc _ _ _ _ ok, fun p' cv hcv => (among_app2 _ ok hcv).elim (fun old => ?_) (fun new => ?_)⟩
    · obtain ⟨d, ed, hd⟩ := own p' cv old
      exact ⟨d, ed, lift hd⟩
    · obtain ⟨ec, el, ek⟩ := new
      exact ⟨c', ec, by rw [putT_code, ← hq, el, ek]⟩
  · obtain ⟨qs, t1, t2, t3⟩ := hT _ hp
    refine ⟨qs, (putT_ne hR (ne_of_none t1 nC)).trans t1, t2, fun p' cv hcv => ?_⟩
    obtain ⟨d, ed, hd⟩ := t3 p' cv hcv
    exact ⟨d, ed, lift hd⟩
end
/-- what the maker of a lambda goes on with -/
def LamK (T : List NTab) (H : Hp) (mk : Addr → LF) (f c' : Addr) (H1 : Hp) : Prop :=
  ExtN H H1 ∧ (∀ b, H1 b = none → H b = none) ∧ TabsN T H1 ∧ H f = none ∧ H1 f = some (FnL f (mk c')) ∧ H1 c' = some (CodeO c' (mk c').qual)
theorem lamK_of {T : List NTab} {H H0 : Hp} {mk : Addr → LF} {f c' : Addr} (old : ExtN H H0) (bk : ∀ b, H0 b = none → H b = none) (ht : TabsN T H0) (hc : H0 c' = some (CodeO c' (mk c').qual)) (nf : H0 f = none) : LamK T H mk f c' (upd H0 f (FnL f (mk c'))) := by
  have st : ∀ {b : Addr} {o : HO}, H0 b = some o → upd H0 f (FnL f (mk c')) b = some o := fun e => (upd_ne (ne_of_none e nf)).trans e
  exact ⟨fun b o e n => st (old b o e n), fun b e => bk b (upd_none e), ht.ext fun _ _ e => st e, bk f nf, upd_same, st hc⟩
theorem lam_makeN {T : List NTab} {nm : Nat → Nat → Str} {c P : Addr} {params : Arguments} {body : Expr} {scope : Scope} {pos : Pos} {mk : Addr → LF} {E : Value → Shared → Prop} {Q : Value → Shared → Prop} (I : Inv X pins σ H s) (TB : TabB X.base X.mg c P) (hcode : X.env.code = .ref c)
    (hm : (P, nm) ∈ T) (hu : ∀ p ∈ T, p.1 = P → p.2 = nm) (hT : TabsN T H) (hdef : defaultsOf params X.env = ([], [])) (hfree : ∀ y ∈ scope.names, y.2 = .free → ∃ c, X.env.cells.lookup y.1 = some c)
    (hmk : ∀ d, mk d = ⟨X.env.qual ++ "<lambda>", params, body, scope, cloFrom X.env.cells scope.names [], d⟩) (hn : nm pos.line pos.col = X.env.qual ++ "<lambda>")
    (go : ∀ (f c' : Addr) (H1 : Hp) (s' : Shared), Inv X pins σ H1 s' → LamK T H mk f c' H1 → Q (.ref f) s') :
    wpAny (model X.prog X.w) X.A (eval (.Lambda params body scope pos) X.env) Q E s := by
  have tab := hT _ hm
  obtain ⟨ps, hP, ok, own⟩ := (tab : TabN H P nm)
  have gP := I.hok P _ hP
  have code := TB.code.keeps I.bk
  have glob := I.mod.glob.keeps I.bk
  have bm := TB.bm.keeps I.bk
  have qual : ∀ d, (mk d).qual = X.env.qual ++ "<lambda>" := fun d => by rw [hmk]
  refine PySem.W.kla_eval hdef ?_
  rcases hc : codeAmong pos ps.toList with _ | cv
  · refine PySem.W.kla_makeFunction (closure_ok hfree) I.ok.glob glob hcode code gP ok hc TB.gP bm ?_
    intro c' ctv g tk keep up lt rec_ row
    obtain ⟨d0, oc, vs, t, e0, l1, l2, l3⟩ := rec_
    cases e0
    have nC : H c' = none := I.hok.fresh up
    have J : Inv X pins σ (putT H P c' ps pos (X.env.qual ++ "<lambda>")) { s with heap := g, toks := tk } := inv_table I hP (fun b o n e => keep b o n e) row up ⟨oc, vs, t, l1, l2, l3⟩
    have nf := J.hok.fresh (Nat.le_refl g.objs.size)
    refine go _ c' _ _ (inv_lf (F := mk c') J (by rw [hmk])) (lamK_of (putT_old hP nC) (fun _ e => putT_none e) (putT_tabs hT hP nC ok own hn hu) ?_ nf)
    rw [qual]
    exact putT_code
  · obtain ⟨d, rfl, hd⟩ := own pos cv hc
    refine PySem.W.kla_makeFunctionHit (closure_ok hfree) I.ok.glob glob hcode code gP ok hc bm ?_
    intro ctv g tk keep _
    have J : Inv X pins σ H { s with heap := g, toks := tk } := I.kept keep
    refine go _ d _ _ (inv_lf (F := mk d) J (by rw [hmk])) (lamK_of (fun _ _ e _ => e) (fun _ e => e) hT ?_ (J.hok.fresh (Nat.le_refl g.objs.size)))
    rw [qual, ← hn]
    exact hd
end
def tLamV (T : List NTab) (mk : Addr → LF) : TE := fun σ H Q => TabsN T H ∧ ∀ (f c' : Addr) (H1 : Hp), LamK T H mk f c' H1 → Q (.ref f) H1
theorem pe_lambda {X : Cx} {T : List NTab} {nm : Nat → Nat → Str} {c P : Addr} {params : Arguments} {body : Expr} {scope : Scope} {pos : Pos} (TB : TabB X.base X.mg c P) (hcode : X.env.code = .ref c) (hm : (P, nm) ∈ T) (hn : nm pos.line pos.col = X.env.qual ++ "<lambda>") (hu : ∀ p ∈ T, p.1 = P → p.2 = nm)
    (hfree : ∀ y ∈ scope.names, y.2 = .free → X.env.scope.names.lookup y.1 = some .cell ∨ X.env.scope.names.lookup y.1 = some .free) (hdef : defaultsOf params X.env = ([], []) := by rfl) :
    PE X (.Lambda params body scope pos) (tLamV T fun d => ⟨X.env.qual ++ "<lambda>", params, body, scope, cloFrom X.env.cells scope.names [], d⟩) := by
  refine ⟨fun pins s σ H Q I h => ?_⟩
  obtain ⟨hT, go⟩ := h
  exact lam_makeN I TB hcode hm hu hT hdef (fun y hy e => (hfree y hy e).elim (fun z => I.ok.has _ (.inl z)) fun z => I.ok.has _ (.inr z)) (fun _ => rfl) hn fun f c' H1 s' J k => ⟨.ref f, H1, J, rfl, go f c' H1 k⟩
end Bt
namespace Bt
open PySem PySem.Spec PyProof.Rows L2 LamX NdefX
/-! ### a lambda's run -/
abbrev LF.nf (F : LF) : NF := ⟨"<lambda>", F.qual, F.params, [], F.scope, F.cl, F.c⟩
theorem lam_run {CX : CXT} {P : Program} {w : World} {K : PySem.W.Frag} {mg : Str → Option Value} {base : Heap} {N ps fr : List Str} {F : LF} {f : Addr} {k : Nat} {A : Around} {outer : List Env} {s : Shared} {H : Hp} {us : List Value} {vs : List V} {ws : List (Option V)} {Q : VK} {E : XK} {t : TE}
    (S : NScope N ps fr F.scope) (hb : ∀ (pm ctv : Value) (xs : List Value), xs.length = ps.length → bindArgs (F.fd pm ctv) ⟨xs, []⟩ = pure (ps.zip xs)) (hl : vs.length = ps.length) (hr : Room (k + 1) A) (e0 : Env0 P w K mg base A outer s H)
    (hf : H f = some (FnL f F)) (hc : H F.c = some (CodeO F.c F.qual)) (C : CellsAt F.cl fr ws s.heap H) (r : Vals vs us)
    (body : PE (ncx CX P w K mg base N F.nf f A outer s H E) F.body t) (q : t (startF N vs ws) H Q) : codeAny (model P w) A (.call (.ref f) ⟨us, []⟩) (CR CX outer P w H s Q E) s := by
  have lim := e0.mod.nolimit.keeps fun b o e => (e0.bs b o e).1
  obtain ⟨_, _, pm, ctv, at_⟩ := fnL_at e0.hok hf
  refine PySem.W.kla_callFunE hr.depth at_ rfl S.co S.gen rfl (codeO_at e0.hok hc) ?_
  rw [hb pm ctv us (r.length.symm.trans hl)]
  refine wpAny_pure (wpAny_newFunctionEnv S.nocell (fun y hy => S.par y.1 (List.of_mem_zip hy).1) (fun g hns hsb => ⟨lim.fresh _ hsb, ?_⟩) S.kind)
  have old : ∀ b o, s.heap.get? b = some o → g.get? b = some o := fun b o e => hsb.extBut b o (Nat.ne_of_lt (Heap.lt_size e)) (Heap.get?_push_of_some _ e)
  have J := inv_startN (CX := CX) (F := F.nf) (f := f) (E := E) (tk := s.toks + (ps.zip us).length) S hr.hd e0 hl r C hns old
  refine PySem.W.kla_codeExpr (wpAny_mono (body.run [] _ _ H Q J q) (fun v s' z => ?_) fun _ _ z => z)
  obtain ⟨x, H', J', rv, qv⟩ := z
  exact ⟨x, H', J'.os, J'.bare, J'.base, J'.hok, rv, qv⟩
end Bt
namespace Bt
open PySem PySem.Spec PyProof.Rows L2 LamX NdefX
open FbM (Rec rec_new)
open PySem.W (EachIs AllAlike Sortable KeyedOut KeepsBut dataLe dataKind sortVals copyHeap)
/-! ### sorted(xs, key=f), f an own def or lambda: the turns, the state carried by the frame's invariant -/
section
variable {X : Cx} {pins : List (Addr × Obj)} {σ : L2.St} {H : Hp} {s : Shared} {a kS : Addr} {e1 : Nat} {bs : List Str} {k : Str → PyData} {q : Addr}
/-- the state behind the keys ds -/
structure KeySt (X : Cx) (pins : List (Addr × Obj)) (σ : L2.St) (H : Hp) (a kS : Addr) (e1 : Nat) (ds : List PyData) (s : Shared) : Prop where
  ex : ∃ (Hn : Hp) (kA : Array Value) (e : Nat), Inv X pins σ Hn s ∧ Same H Hn ∧ Hn a = none ∧ Hn kS = none ∧ s.heap.get? a = some (seqObj "list" #[] e1) ∧ s.heap.get? kS = some (seqObj "list" kA e) ∧
    EachIs (fun v d => ∃ y, RelV y v ∧ Dp X.K Hn y d) kA.toList ds
/-- one key: from any state of the frame, the heap grown -/
def KeyRun (X : Cx) (pins : List (Addr × Obj)) (σ : L2.St) (H : Hp) (q : Addr) (bs : List Str) (k : Str → PyData) : Prop :=
  ∀ (b : Str) (u : Value), b ∈ bs → RelV (.str b) u → ∀ (s' : Shared) (Hn : Hp), Inv X pins σ Hn s' → Same H Hn →
    codeAny (model X.prog X.w) X.A.in1.in1 (.call (.ref q) ⟨[u], []⟩) (CR CX0 X.stack X.prog X.w Hn s' (fun y H2 => Same Hn H2 ∧ Dp X.K H2 y (k b)) E0) s'
theorem same_none {H H' : Hp} {b : Addr} (S : Same H H') (h : H' b = none) : H b = none := by
  cases e : H b with
  | none => rfl
  | some o =>
    rw [S b o e] at h
    cases h
theorem key_loop {P : PySem.Fin → Shared → Prop} {E : Value → Shared → Prop} (ra : Rec X pins a) (rk : Rec X pins kS) (hka : kS ≠ a) {us : List Value} (hv : Vals (bs.map V.str) us) (hz : us.length ≤ 1000) (turn : KeyRun X pins σ H q bs k)
    (st : KeySt X pins σ H a kS e1 [] s) (done : ∀ s' Hn kA e, Inv X pins σ Hn s' → Same H Hn → Hn a = none → Hn kS = none → s'.heap.get? a = some (seqObj "list" #[] e1) → s'.heap.get? kS = some (seqObj "list" kA e) →
      EachIs (fun v d => ∃ y, RelV y v ∧ Dp X.K Hn y d) kA.toList (bs.map k) → wpAny (model X.prog X.w) X.A.in1.in1 (ksk_end a false us.toArray e1 (.ref kS) kA) P E s') :
    wpAny (model X.prog X.w) X.A.in1.in1 (ksk_rest a (.ref q) false us.toArray e1 (.ref kS)) P E s := by
  have hlen : us.length = bs.length := by rw [← hv.length, List.length_map]
  unfold ksk_rest
  refine wpAny_bind (wpAny_rule ?_)
  first
    | rw [List.forIn_toArray]
    | rw [← Array.forIn_toList]
  refine wpAny_bind (ksk_fold (fun i s' => KeySt X pins σ H a kS e1 ((bs.map k).take i) s') us 0 s (by rw [List.take_zero]; exact st) ?turns ?last)
  case turns =>
    intro j u s' hu S
    simp only [Nat.zero_add] at S ⊢
    have hj : j < bs.length := by
      have := (List.getElem?_eq_some_iff.mp hu).1
      omega
    have hb : bs[j]? = some bs[j] := List.getElem?_eq_getElem hj
    have hx : (bs.map V.str)[j]? = some (V.str bs[j]) := by rw [List.getElem?_map, hb]; rfl
    obtain ⟨u', hu', ru⟩ := hv.get hx
    have e : u' = u := Option.some.inj (hu'.symm.trans hu)
    subst e
    obtain ⟨Hn, kA, e, I, sm, na, nk, ga, gk, ks⟩ := S
    have hkz : kA.size ≤ 1000 := by
      have h1 := ks.length
      rw [Array.length_toList, List.length_take] at h1
      omega
    refine wpAny_bind (wpAny_attempt (wpAny_call (codeAny_mono (turn _ _ (List.mem_of_getElem? hb) ru s' Hn I sm) fun rr s2 hrr => ?_)))
    cases rr with
    | error er => exact False.elim hrr
    | ok fl =>
      cases fl with
      | next => exact False.elim hrr
      | brk => exact False.elim hrr
      | cont => exact False.elim hrr
      | ret v =>
        obtain ⟨y, H2, os, bare, un, hok, ry, sm2, dy⟩ := (show CE X.stack X.prog X.w Hn s' _ v s2 from hrr)
        have I2 : Inv X pins σ H2 s2 := I.call' os un hok bare (fun b z => absurd z List.not_mem_nil)
        have ga2 := un.keep _ _ ga na ra.fr List.not_mem_nil
        have gk2 := un.keep _ _ gk nk rk.fr List.not_mem_nil
        have na2 : H2 a = none := un.free _ _ ga na List.not_mem_nil
        have nk2 : H2 kS = none := un.free _ _ gk nk List.not_mem_nil
        have sb := Heap.SameBut.update s2.heap kS (Obj.mapSeq (·.push v))
        obtain ⟨c2, hc2⟩ : ∃ c2, (s2.heap.update kS (Obj.mapSeq (·.push v))).get? kS = some (seqObj "list" (kA.push v) c2) := ⟨_, get?_update_seq gk2 (·.push v)⟩
        refine wpAny_bind (listUpdate_at gk2 rfl ?_ (sz (by omega)) (by rw [Array.size_push]; exact Nat.le_succ_of_le (szlt (by omega))))
        have I3 : Inv X pins σ H2 { s2 with heap := s2.heap.update kS (Obj.mapSeq (·.push v)) } := rk.turn (t' := s2.toks) I2 nk2 fun c o hc e => sb.extBut c o hc e
        refine wpAny_pure ⟨rfl, H2, kA.push v, c2, I3, fun b o z => sm2 _ _ (sm _ _ z), na2, nk2, (sb.2 a hka.symm).trans ga2, hc2, ?_⟩
        have ek : (bs.map k).take (j + 1) = (bs.map k).take j ++ [k bs[j]] := by
          rw [List.take_add_one, List.getElem?_map, hb]
          simp
        have ea : (kA.push v).toList = kA.toList ++ [v] := by simp
        rw [ea, ek]
        exact PySem.W.each_snoc ⟨y, ry, dy⟩ (ks.mono fun v d z => by
          obtain ⟨y', r', d'⟩ := z
          exact ⟨y', r', Dp.mono sm2 d'⟩)
  case last =>
    intro s' S
    obtain ⟨Hn, kA, e, I, sm, na, nk, ga, gk, ks⟩ := S
    have e3 : (bs.map k).take (0 + us.length) = bs.map k := List.take_of_length_le (by rw [List.length_map]; omega)
    rw [e3] at ks
    refine wpAny_bind (listItems_at gk rfl ?_)
    exact done s' Hn kA e I sm na nk ga gk ks
/-- the whole sort: the new list stands at D -/
theorem key_sorted {P : PySem.Fin → Shared → Prop} {E : Value → Shared → Prop} (ra : Rec X pins a) (rk : Rec X pins kS) (hka : kS ≠ a) {us : List Value} (hv : Vals (bs.map V.str) us) (hz : us.length ≤ 1000) (hal : AllAlike (bs.map k)) (hsk : Sortable (bs.map k)) (hu : ∀ b, b ∈ bs → X.A.in1.in1.units + (k b).depth < cLine) (turn : KeyRun X pins σ H q bs k)
    (st : KeySt X pins σ H a kS e1 [] s) (done : ∀ s' Hn, Inv X pins σ (upd Hn a (.lst ((bs.mergeSort (dataLe false k)).map V.str))) s' → Same H Hn → Hn a = none → P (.done (.ret .none)) s') :
    wpAny (model X.prog X.w) X.A.in1.in1 (ksk_rest a (.ref q) false us.toArray e1 (.ref kS)) P E s := by
  have hlen : us.length = bs.length := by rw [← hv.length, List.length_map]
  refine key_loop ra rk hka hv hz turn st fun s' Hn kA e I sm na nk ga gk ks => ?_
  have hsz : kA.size = us.length := by
    have h1 := ks.length
    rw [Array.length_toList, List.length_map] at h1
    omega
  have rd : EachIs (fun v d => ∃ as, Reads s'.heap v d as) kA.toList (bs.map k) := ks.mono fun v d z => by
    obtain ⟨y, r, dp⟩ := z
    exact Dp.reads I d y v dp r
  obtain ⟨G, g1, g2⟩ := restrict s'.heap fun b => decide (b ≠ kS) && decide (b ≠ a)
  obtain ⟨G0, f1, f2⟩ := restrict s'.heap fun b => decide (b ≠ kS)
  have gk0 : G.get? kS = none := g2 kS (by simp)
  have ga0 : G.get? a = none := g2 a (by simp)
  have gs : ∀ b o, b ≠ kS → b ≠ a → s'.heap.get? b = some o → G.get? b = some o := fun b o h1 h2 z => (g1 b (by simp [h1, h2])).trans z
  have gb : ∀ b o, G.get? b = some o → s'.heap.get? b = some o := fun b o z => by
    have h1 : b ≠ kS := fun q => by rw [q, gk0] at z; cases z
    have h2 : b ≠ a := fun q => by rw [q, ga0] at z; cases z
    exact (g1 b (by simp [h1, h2])).symm.trans z
  have fs : ∀ b o, b ≠ kS → s'.heap.get? b = some o → G0.get? b = some o := fun b o h1 z => (f1 b (by simp [h1])).trans z
  have fb : ∀ b o, G0.get? b = some o → b ≠ kS ∧ s'.heap.get? b = some o := fun b o z => by
    have h1 : b ≠ kS := fun q => by rw [q, f2 kS (by simp)] at z; cases z
    exact ⟨h1, (f1 b (by simp [h1])).symm.trans z⟩
  have I0 : Inv X pins σ Hn { s' with heap := G0 } := rk.turn (t' := s'.toks) I nk fs
  have I1 : Inv X pins σ Hn { s' with heap := G } := ra.turn (s := { s' with heap := G0 }) (h' := G) (t' := s'.toks) I0 na fun c o hc z => gs c o (fb c o z).1 hc (fb c o z).2
  have kp : KeepsBut a G s'.heap := fun b o _ z => gb b o z
  have eo : EachIs (fun v b => RelV (V.str b) v) us bs := by
    have key : ∀ {l : List Str} {vs : List Value}, Vals (l.map V.str) vs → EachIs (fun v b => RelV (V.str b) v) vs l := fun {l} => by
      induction l with
      | nil => intro vs r; cases r; exact .nil
      | cons x l ih => intro vs r; cases r with | cons h1 h2 => exact .cons h1 (ih h2)
    exact key hv
  have ou : EachIs (fun v b => RelV (V.str b) v) (sortVals (dataKind s'.heap (bs.map k)) false kA.toList us) (bs.mergeSort (dataLe false k)) := PySem.W.keyedOut_each k ⟨s'.heap, kA.toList, hal, rfl, rd⟩ eo
  refine PySem.W.keyH_end (κ := dataKind s'.heap (bs.map k)) (h₁ := G) (vs := us) kp gk0 gk ga hka (PySem.W.SortsAt.data (s := s') rd hal hsk fun d hd => ?_) hsz (sz (by omega)) fun h' tk c k3 n3 => ?_
  · obtain ⟨b, hb, rfl⟩ := List.mem_map.mp hd
    exact hu b hb
  · have J := Inv.laidN (t' := tk) (h' := h') (o := .lst ((bs.mergeSort (dataLe false k)).map V.str)) I1 (fun b u z => k3 b u (fun q => by rw [q] at z; exact nomatch (ga0.symm.trans z)) z) ga0 na ?_
    · exact done _ Hn J sm na
    · refine ⟨?_, _, c, ?_, n3⟩
      · rw [List.length_map, List.length_mergeSort]
        exact sz (by omega)
      · have key : ∀ {l : List Str} {vs : List Value}, EachIs (fun v b => RelV (V.str b) v) vs l → Vals (l.map V.str) vs := fun {l} => by
          induction l with
          | nil => intro vs r; cases r; exact .nil
          | cons x l ih => intro vs r; cases r with | cons h1 h2 => exact .cons h1 (ih h2)
        exact key ou
theorem sorted_key_inv {l : Addr} {Q : Value → Shared → Prop} {E : Value → Shared → Prop} (I : Inv X pins σ H s) (hl : SqL X.K H l (bs.map V.str)) (hz : bs.length ≤ 1000) (hal : AllAlike (bs.map k)) (hsk : Sortable (bs.map k)) (hu : ∀ b, b ∈ bs → X.A.in1.in1.units + (k b).depth < cLine) (turn : KeyRun X pins σ H q bs k)
    (go : ∀ D s' Hn, Inv X pins σ (upd Hn D (.lst ((bs.mergeSort (dataLe false k)).map V.str))) s' → Same H Hn → Hn D = none → Q (.ref D) s') :
    wpAny (model X.prog X.w) X.A (call (.builtin "sorted") [.ref l] [(Str.ofString "key", .ref q)]) Q E s := by
  obtain ⟨us, hv, pl, _⟩ := I.list hl
  have hlen : us.length = bs.length := by rw [← hv.length, List.length_map]
  refine PySem.W.sorted_of_sort pl.isList (sz (by omega)) (ksk_s1 _ _) (fun _ => ksk_l1 _ _) fun E' => ?_
  rw [ksk_t1]
  have ho := PySem.W.copyHeap_at s.heap us
  have old : ∀ b o, s.heap.get? b = some o → b ≠ s.heap.objs.size + 1 ∧ (copyHeap s.heap us).get? b = some o := fun b o e => ⟨Nat.ne_of_lt (Nat.lt_succ_of_lt (Heap.lt_size e)), PySem.W.copyHeap_old e⟩
  have la : s.heap.objs.size + 1 < (copyHeap s.heap us).objs.size := Heap.lt_size ho
  obtain ⟨e1, ho1⟩ : ∃ e1, ((copyHeap s.heap us).update (s.heap.objs.size + 1) (Obj.mapSeq fun _ => (#[] : Array Value))).get? (s.heap.objs.size + 1) = some (seqObj "list" #[] e1) := ⟨_, get?_update_seq ho fun _ => #[]⟩
  unfold ksk_tree
  refine wpAny_bind (listItems_at ho rfl ?_)
  refine wpAny_bind (listUpdate_at ho rfl ?_ (by rw [List.size_toArray]; exact sz (by omega)) (Nat.zero_le _))
  refine wpAny_bind (seqEpoch_at ho1 rfl ?_)
  refine wpAny_bind (wpAny_newTuple ?_ (by show us.length ≤ _; exact sz (by omega)))
  refine wpAny_bind (wpAny_newList ?_ (Nat.zero_le _))
  refine wpAny_holding ?_
  generalize hg : ((copyHeap s.heap us).update (s.heap.objs.size + 1) (Obj.mapSeq fun _ => (#[] : Array Value))).push (seqObj "tuple" us.toArray 0) = g
  have keep : ∀ b o, b ≠ s.heap.objs.size + 1 → (copyHeap s.heap us).get? b = some o → (g.push (seqObj "list" #[] 0)).get? b = some o := fun b o hb e => by
    rw [← hg]
    exact Heap.get?_push_of_some _ (Heap.get?_push_of_some _ ((Heap.get?_update_other _ _ (Ne.symm hb)).trans e))
  have ga : (g.push (seqObj "list" #[] 0)).get? (s.heap.objs.size + 1) = some (seqObj "list" #[] e1) := by
    rw [← hg]
    exact Heap.get?_push_of_some _ (Heap.get?_push_of_some _ ho1)
  have lg : (copyHeap s.heap us).objs.size ≤ g.objs.size := by
    rw [← hg, size_push', Heap.size_update]
    exact Nat.le_succ _
  have I1 : Inv X pins σ H { s with heap := g.push (seqObj "list" #[] 0) } := I.kept (t' := s.toks) fun b o e => keep b o (old b o e).1 (old b o e).2
  have na : H (s.heap.objs.size + 1) = none := I.hok.fresh (Nat.le_succ _)
  have nk : H g.objs.size = none := I.hok.fresh (Nat.le_trans (Nat.le_of_lt (Nat.lt_of_succ_lt la)) lg)
  refine key_sorted (a := s.heap.objs.size + 1) (kS := g.objs.size) (rec_new I (Nat.le_succ _)) (rec_new I (Nat.le_trans (Nat.le_of_lt (Nat.lt_of_succ_lt la)) lg)) (Nat.ne_of_gt (Nat.lt_of_lt_of_le la lg)) hv (by omega) hal hsk hu turn
    ⟨H, #[], 0, I1, fun _ _ e => e, na, nk, ga, Heap.get?_push_size _ rfl, .nil⟩ fun s' Hn J sm n => ⟨rfl, go _ s' Hn J sm n⟩
end
end Bt
namespace Bt
open PySem PySem.Spec PyProof.Rows L2 LamX NdefX
open PySem.W (AllAlike Sortable dataLe)
/-! ### the rule: sorted(xs, key=lambda x: ..) -/
/-- what the sort asks and gives: xs a list of texts, the keys by k -/
def rSK (K : PySem.W.Frag) (run : Hp → Str → VK → Prop) (x : V) (H : Hp) (Q : VK) : Prop := ∃ (l : Addr) (bs : List Str) (k : Str → PyData), x = .ref l ∧ SqL K H l (bs.map V.str) ∧ bs.length ≤ 1000 ∧ AllAlike (bs.map k) ∧ Sortable (bs.map k) ∧ (∀ b ∈ bs, (k b).depth ≤ 8) ∧
  (∀ b ∈ bs, ∀ Hn, Same H Hn → run Hn b fun y H3 => Same Hn H3 ∧ Dp K H3 y (k b)) ∧
  ∀ D Hn H3, Same H Hn → Hn D = none → Same Hn H3 → H3 D = some (.lst ((bs.mergeSort (dataLe false k)).map V.str)) → Q (.ref D) H3
def tSK (K : PySem.W.Frag) (T : List NTab) (mk : Addr → LF) (N' : List Str) (js : List Nat) (tb : TE) (ta : TA) : TE := fun σ H Q => ta σ H fun xs H1 => ∃ x, xs = [x] ∧ TabsN T H1 ∧ ∀ f c' H2, LamK T H1 mk f c' H2 → rSK K (fun Hn b R => tb (startF N' [.str b] (js.map (slotAt σ))) Hn R) x H2 Q
section
variable {X : Cx} {T : List NTab} {nm : Nat → Nat → Str} {c P : Addr} {params : Arguments} {body e : Expr} {scope : Scope} {p pos lpos kpos : Pos} {tb : TE} {ta : TA} {N' fr : List Str} {x : Str} {js : List Nat} {j : Nat}
theorem pe_sortKey (TB : TabB X.base X.mg c P) (hcode : X.env.code = .ref c) (hm : (P, nm) ∈ T) (hn : nm lpos.line lpos.col = X.env.qual ++ "<lambda>") (hu : ∀ p ∈ T, p.1 = P → p.2 = nm)
    (hfree : ∀ y ∈ scope.names, y.2 = .free → X.env.scope.names.lookup y.1 = some .cell ∨ X.env.scope.names.lookup y.1 = some .free) (S : NScope N' [x] fr scope) (hfr : ∀ y ∈ fr, (y, NameKind.free) ∈ scope.names) (hjs : js.map (fun j => X.N[j]?) = fr.map some)
    (hr : Room (j + 3) X.A) (hg : Gl X "sorted") (hs : X.mg "sorted" = none) (ha : PA X (e :: []) ta)
    (hbody : ∀ (d f : Addr) (s' : Shared) (Hn : Hp), Room j (X.A.in1.in1.deeper (envF (LF.nf ⟨X.env.qual ++ "<lambda>", params, body, scope, cloFrom X.env.cells scope.names [], d⟩) f s'.heap.objs.size)) →
      PE (ncx CX0 X.prog X.w X.K X.mg X.base N' (LF.nf ⟨X.env.qual ++ "<lambda>", params, body, scope, cloFrom X.env.cells scope.names [], d⟩) f X.A.in1.in1 X.stack s' Hn E0) body tb)
    (hb : ∀ (d : Addr) (pm ctv v : Value), bindArgs (LF.fd ⟨X.env.qual ++ "<lambda>", params, body, scope, cloFrom X.env.cells scope.names [], d⟩ pm ctv) ⟨[v], []⟩ = pure [(x, v)])
    (hdef : defaultsOf params X.env = ([], []) := by rfl) (h1 : backTo pos (starEach (e :: []) X.env) = (false, eval e X.env) :: backTo pos (starEach [] X.env) := by rfl) (h2 : (backTo pos (starEach (e :: []) X.env)).any (·.1) = false := by rfl)
    (h3 : (backToKw pos (keywordEach [⟨some "key", .Lambda params body scope lpos, kpos⟩] X.env)).all (·.1.isSome) = true := by rfl) (h4 : (backToKw pos (keywordEach [⟨some "key", .Lambda params body scope lpos, kpos⟩] X.env)).any (·.1.isNone) = false := by rfl)
    (h5 : (backToKw pos (keywordEach [⟨some "key", .Lambda params body scope lpos, kpos⟩] X.env)).filterMap (·.1) = [Str.ofString "key"] := by rfl) :
    PE X (.Call (.Name "sorted" p) [e] [⟨some "key", .Lambda params body scope lpos, kpos⟩] pos) (tSK X.K T (fun d => ⟨X.env.qual ++ "<lambda>", params, body, scope, cloFrom X.env.cells scope.names [], d⟩) N' js tb ta) := by
  have lam := pe_lambda (T := T) (params := params) (body := body) (pos := lpos) TB hcode hm hn hu hfree hdef
  refine ⟨fun pins s σ H Q I h => ?_⟩
  refine wpAny_Call_Name_kw (ld_blt I hg hs (by decide +kernel : bootBuiltins "sorted" = some (.builtin "sorted")) ?_ (by decide) (by decide))
  refine PyProof.Rows.callWith_kw (thn (ha.run pos pins s σ H _ I h) fun us s1 z1 => ?_) h1 h2 h3 h4
  obtain ⟨vs, H1, I1, r1, y, ey, tab, go⟩ := z1
  refine thn ((pk_cons lam pk_nil).run pos pins s1 σ H1 (fun zs H2 => ∃ f c', zs = [.ref f] ∧ LamK T H1 _ f c' H2) I1 ⟨tab, fun f c' H2 L => s_nil ⟨f, c', rfl, L⟩⟩) fun ws s2 z2 => ?_
  obtain ⟨zs, H2, I2, r2, f, c', ez, L⟩ := z2
  subst ey ez
  rw [h5]
  obtain ⟨l, bs, k, rfl, hl, hz, hal, hsk, hd, runs, fin⟩ := go f c' H2 L
  cases r1 with
  | @cons _ u _ ur ra rr =>
    cases rr
    cases r2 with
    | @cons _ w _ wr rf rw' =>
      cases rw'
      obtain rfl : u = Value.ref l := ra
      obtain rfl : w = Value.ref f := rf
      have ri : Room (j + 1) X.A.in1.in1 := (Room.in1 (k := j + 2) hr).in1
      refine sorted_key_inv I2 hl hz hal hsk (fun b hb => ?_) (fun b u hb' ru s' Hn J sm => ?_) fun D s' Hn J sm n => ⟨.ref D, _, J, rfl, fin D Hn _ sm n (Same.new n) upd_same⟩
      · have := hd b hb
        have := ri.units
        omega
      · have e0 := J.env0
        have e1 : Env0 X.prog X.w X.K X.mg X.base X.A.in1.in1 X.stack s' Hn := ⟨e0.1, e0.mod, e0.bs, e0.bsz, e0.funs, e0.frf, e0.hok, e0.bare⟩
        have Lf := L.2.2.2.2.1
        have Lc := L.2.2.2.2.2
        exact lam_run (us := [u]) (vs := [.str b]) S (fun pm ctv xs hx => by
          match xs, hx with
          | [v], _ => exact hb c' pm ctv v) rfl ri e1 (sm _ _ Lf) (sm _ _ Lc) (cells_of J (Caps.made J.ok hfree hfr hjs)) (.cons ru .nil) (hbody c' f s' Hn (ri.deeper _)) (runs b hb' Hn sm)
end
end Bt
namespace Bt
open PySem PySem.Spec PyProof.Rows L2 LamX NdefX
open PySem.W (AllAlike Sortable dataLe dataLt alike)
/-! ### heaps that grow but for the tables of code objects -/
theorem ext_lst {H H' : Hp} {a : Addr} {xs : List V} (S : ExtN H H') (h : H a = some (.lst xs)) : H' a = some (.lst xs) := S _ _ h fun _ z => nomatch z
theorem ext_tup {H H' : Hp} {a : Addr} {xs : List V} (S : ExtN H H') (h : H a = some (.tup xs)) : H' a = some (.tup xs) := S _ _ h fun _ z => nomatch z
theorem ext_ins {H H' : Hp} {a C dx : Addr} {fs : List (Str × V)} (S : ExtN H H') (h : H a = some (.ins C dx fs)) : H' a = some (.ins C dx fs) := S _ _ h fun _ z => nomatch z
theorem ext_xd {H H' : Hp} {a : Addr} {fs : List (Str × V)} (S : ExtN H H') (h : H a = some (.xd fs)) : H' a = some (.xd fs) := S _ _ h fun _ z => nomatch z
theorem ext_same {H H' : Hp} (S : Same H H') : ExtN H H' := ExtN.of S
theorem SqT_monoN {K : PySem.W.Frag} {H H' : Hp} {a : Addr} {xs : List V} (e : ExtN H H') (h : SqT K H a xs) : SqT K H' a xs := by
  rcases h with (h | ⟨o, h⟩) | h
  · exact .inl (.inl (ext_tup e h))
  · exact .inl (.inr ⟨o, e _ _ h fun _ z => nomatch z⟩)
  · exact .inr h
theorem SqL_monoN {K : PySem.W.Frag} {H H' : Hp} {a : Addr} {xs : List V} (e : ExtN H H') (h : SqL K H a xs) : SqL K H' a xs := by
  rcases h with (h | ⟨o, h⟩) | h
  · exact .inl (.inl (ext_lst e h))
  · exact .inl (.inr ⟨o, e _ _ h fun _ z => nomatch z⟩)
  · exact .inr h
mutual
theorem Dp.monoN {K : PySem.W.Frag} {H H' : Hp} (S : ExtN H H') : ∀ {v : V} {d : PyData}, Dp K H v d → Dp K H' v d
  | _, _, .non => .non
  | _, _, .bl b => .bl b
  | _, _, .int i => .int i
  | _, _, .str x => .str x
  | _, _, .lst h r => .lst (SqL_monoN S h) (DpAll.monoN S r)
  | _, _, .tup h r => .tup (SqT_monoN S h) (DpAll.monoN S r)
theorem DpAll.monoN {K : PySem.W.Frag} {H H' : Hp} (S : ExtN H H') : ∀ {vs : List V} {ds : List PyData}, DpAll K H vs ds → DpAll K H' vs ds
  | _, _, .nil => .nil
  | _, _, .cons h r => .cons (Dp.monoN S h) (DpAll.monoN S r)
end
theorem TyX.monoN {K : PySem.W.Frag} {H H' : Hp} {x : V} {t : Value} (S : ExtN H H') (h : TyX K H x t) : TyX K H' x t := by
  cases h with
  | base b =>
    cases b with
    | non => exact .base .non
    | bl z => exact .base (.bl z)
    | int z => exact .base (.int z)
    | str z => exact .base (.str z)
    | flt z => exact .base (.flt z)
    | lst e => exact .base (.lst (ext_lst S e))
    | frz e => exact .base (.frz (S _ _ e fun _ z => nomatch z))
    | tup e => exact .base (.tup (ext_tup S e))
    | dK e => exact .base (.dK (S _ _ e fun _ z => nomatch z))
    | dT e => exact .base (.dT (S _ _ e fun _ z => nomatch z))
    | ins e cl ha hn htk hm => exact .base (.ins (ext_ins S e) cl ha hn htk hm)
  | byt b => exact .byt b
  | set e => exact .set (S _ _ e fun _ z => nomatch z)
  | kList e c => exact .kList e c
  | kTuple e c => exact .kTuple e c
  | kDict e c => exact .kDict e c
  | fTuple e => exact .fTuple (S _ _ e fun _ z => nomatch z)
  | fDict e => exact .fDict (S _ _ e fun _ z => nomatch z)
theorem Pl.monoN {K : PySem.W.Frag} {H H' : Hp} {x : V} {T : String} (S : ExtN H H') (h : Pl K H x T) : Pl K H' x T := ⟨TyX.monoN S h.1, h.2⟩
/-- a list's object is written: the tables stay -/
theorem TabsN.but {T : List NTab} {H H' : Hp} {p : Addr} {xs : List V} (t : TabsN T H) (hp : H p = some (.lst xs)) (B : But p H H') : TabsN T H' := by
  rintro ⟨P, nm⟩ hm
  obtain ⟨ps, h1, h2, h3⟩ := t _ hm
  have ne : ∀ {b : Addr} {o : HO}, H b = some o → o ≠ .lst xs → b ≠ p := fun e n z => by
    rw [z, hp] at e
    exact n (Option.some.inj e).symm
  refine ⟨ps, B _ _ (ne h1 fun z => nomatch z) h1, h2, fun pos cv hc => ?_⟩
  obtain ⟨c, e1, e2⟩ := h3 pos cv hc
  exact ⟨c, e1, B _ _ (ne e2 fun z => by
    have z' : HO.ext _ = HO.lst xs := z
    cases z') e2⟩
/-! ### a def whose code object is known -/
structure FunC (K : PySem.W.Frag) (x qual : Str) (st : Stmt) (f : Addr) (fd : FuncData) (c : Addr) : Prop where
  ex : ∃ (oc : Value) (od : Option Addr) (kV doc pm : Value) (an : Option Addr) (ct : Value) (osl : Array (Option Value)),
    fd = PySem.W.fnOf x qual (defArgs st) (defBody st) (defScope st) .none kV doc pm an (.ref c) ct ∧ K.lookup f = some ⟨oc, od, .func fd, osl⟩ ∧ PySem.W.codeIn K (.ref c) qual = true
  kp : PySem.W.keepIn K (.ref f) = true
section
variable {P : Program} {w : World} {K : PySem.W.Frag} {mg : Str → Option Value} {base : Heap} {x qual : Str} {st : Stmt} {f c : Addr} {fd : FuncData} {N ps : List Str} {k : Nat} {sp : Sp}
theorem FunC.fn (F : FunC K x qual st f fd c) : Fun K x qual st f fd := by
  obtain ⟨oc, od, kV, doc, pm, an, ct, osl, rfl, lk, hc⟩ := F.ex
  exact ⟨⟨oc, od, kV, doc, pm, an, .ref c, ct, osl, rfl, lk, hc⟩, F.kp⟩
theorem FunC.ok (F : FunC K x qual st f fd c) (S : FnScope N ps (defScope st)) (len : ∀ vs H Q E, sp vs H Q E → vs.length = ps.length)
    (hbody : ∀ (A : Around) (outer : List Env) (s : Shared) (H : Hp) (vs : List V) (Q : VK) (E : XK), Room k (A.deeper (envOfC qual (defScope st) s.heap.objs.size f (.ref c))) → sp vs H Q E →
      ∃ t, PSs (cxOf CX0 P w K mg base N qual (defScope st) f (.ref c) A outer s H E).nox (defBody st) t ∧ t { nx := fun _ H' => Q .non H', rt := Q } (start N vs) H) : FnOk P w K mg base CX0 (k + 1) f fd ps sp := by
  obtain ⟨oc, od, kV, doc, pm, an, ct, osl, rfl, lk, hc⟩ := F.ex
  refine fn_of lk hc S len fun A outer s H vs Q E hr hs => ?_
  obtain ⟨t, h, q⟩ := hbody A outer s H vs Q E hr hs
  exact ⟨t, h.nox, q⟩
theorem FunC.okX (F : FunC K x qual st f fd c) (S : FnScope N ps (defScope st)) (len : ∀ vs H Q E, sp vs H Q E → vs.length = ps.length)
    (hbody : ∀ (A : Around) (outer : List Env) (s : Shared) (H : Hp) (vs : List V) (Q : VK) (E : XK), Room k (A.deeper (envOfC qual (defScope st) s.heap.objs.size f (.ref c))) → sp vs H Q E →
      ∃ t, PSs (cxOf (L2.CX P w) P w K mg base N qual (defScope st) f (.ref c) A outer s H E) (defBody st) t ∧ t { nx := fun _ H' => Q .non H', rt := Q } (start N vs) H) : FnOk P w K mg base (L2.CX P w) (k + 1) f fd ps sp := by
  obtain ⟨oc, od, kV, doc, pm, an, ct, osl, rfl, lk, hc⟩ := F.ex
  exact fn_of lk hc S len hbody
end
/-! ### keys of two kinds that sort alike -/
def kTup (g : Str → Int) (r : Str → List Int) (z : Str) : PyData := .tuple [.int (g z), .tuple ((r z).map .int)]
def kLst (g : Str → Int) (r : Str → List Int) (z : Str) : PyData := .tuple [.int (g z), .list ((r z).map .int)]
section
variable {g : Str → Int} {r : Str → List Int} {bs : List Str}
theorem alike_tup (xs ys : List Int) : alike (.tuple (xs.map .int)) (.tuple (ys.map .int)) = true := by simp [alike, PySem.W.alike_ints]
theorem alike_lst (xs ys : List Int) : alike (.list (xs.map .int)) (.list (ys.map .int)) = true := by simp [alike, PySem.W.alike_ints]
theorem kTup_alike : AllAlike (bs.map (kTup g r)) := AllAlike.of fun b b' => by
  show alike (.tuple [.int (g b), .tuple ((r b).map .int)]) (.tuple [.int (g b'), .tuple ((r b').map .int)]) = true
  rw [alike, PySem.W.alikeAll, PySem.W.alikeAll, alike_tup]
  simp [alike, PySem.W.alikeAll]
theorem kLst_alike : AllAlike (bs.map (kLst g r)) := AllAlike.of fun b b' => by
  show alike (.tuple [.int (g b), .list ((r b).map .int)]) (.tuple [.int (g b'), .list ((r b').map .int)]) = true
  rw [alike, PySem.W.alikeAll, PySem.W.alikeAll, alike_lst]
  simp [alike, PySem.W.alikeAll]
theorem kTup_sort : Sortable (bs.map (kTup g r)) := Sortable.tuples fun b => ⟨_, _, rfl⟩
theorem kLst_sort : Sortable (bs.map (kLst g r)) := Sortable.tuples fun b => ⟨_, _, rfl⟩
theorem kTup_depth (z : Str) : (kTup g r z).depth ≤ 8 := by
  show PyData.depth (.tuple [.int (g z), .tuple ((r z).map .int)]) ≤ 8
  simp only [PyData.depth, PyData.depthAll, PySem.W.depth_ints]
  decide
theorem kLst_depth (z : Str) : (kLst g r z).depth ≤ 8 := by
  show PyData.depth (.tuple [.int (g z), .list ((r z).map .int)]) ≤ 8
  simp only [PyData.depth, PyData.depthAll, PySem.W.depth_ints]
  decide
theorem key_lt (z z' : Str) : dataLt (kTup g r z) (kTup g r z') = dataLt (kLst g r z) (kLst g r z') := by
  unfold kTup kLst
  rw [PySem.W.dataLt_pair (by simp [alike]) (alike_tup _ _), PySem.W.dataLt_pair (by simp [alike]) (alike_lst _ _)]
  have e1 : PyData.eqv (.tuple ((r z).map .int)) (.tuple ((r z').map .int)) = PyData.eqv (.list ((r z).map .int)) (.list ((r z').map .int)) := by simp [PyData.eqv]
  have e2 : dataLt (.tuple ((r z).map .int)) (.tuple ((r z').map .int)) = dataLt (.list ((r z).map .int)) (.list ((r z').map .int)) := by rw [PySem.W.dataLt_tuple, PySem.W.dataLt_list]
  rw [e1, e2]
theorem key_le : dataLe false (kTup g r) = dataLe false (kLst g r) := by
  rw [PySem.W.dataLe_eq, PySem.W.dataLe_eq]
  funext a b
  show (!dataLt (kTup g r b) (kTup g r a)) = (!dataLt (kLst g r b) (kLst g r a))
  rw [key_lt]
end
end Bt
namespace Bt
open PySem PySem.Spec PyProof.Rows L2
/-! ### o.m(e, ..), m may raise: what is raised is wished for at the caller's slots -/
section
variable {X : Cx} {CX : CXT} {k : Nat} {C g : Addr} {fd : FuncData} {ps : List Str} {sp : Sp} {E : L2.St → XK} {pos apos : Pos} {o e : Expr} {es : List Expr} {to : TE} {t : TA} {m : Str}
def tMethE (C : Addr) (m : Str) (sp : Sp) (E : L2.St → XK) (to : TE) (t : TA) : TE := fun σ H Q => to σ H fun y H1 => ∃ a dx fs, y = V.ref a ∧ H1 a = some (.ins C dx fs) ∧ fs.lookup m = none ∧ t σ H1 fun vs H2 => sp (V.ref a :: vs) H2 Q (E σ)
theorem pe_methE {pl : Sem Bool} (ho : PE X o to) (c : Cls X.K C) (hm : Meth X.K C m g) (F : FnOk X.prog X.w X.K X.mg X.base CX k g fd ps sp) (hr : Room k X.A) (hb : Binds X.K fd ps []) (hx : ∀ σ, PassesAt CX X σ (E σ)) (ha : PA X (e :: es) t)
    (ht : eval (.Call (.Attribute o m apos) (e :: es) [] pos) X.env = (do
      let y ← eval o X.env
      standAt apos.atName
      let (f, first) ← holding [y] (getMethod y m pl)
      callWith pos f first (backTo pos (starEach (e :: es) X.env)) (backToKw pos (keywordEach [] X.env))) := by rfl)
    (hst : starEach (e :: es) X.env = (false, eval e X.env) :: starEach es X.env := by rfl) (hpl : (backTo pos (starEach es X.env)).any (·.1) = false := by rfl) :
    PE X (.Call (.Attribute o m apos) (e :: es) [] pos) (tMethE C m sp E to t) := by
  refine ⟨fun pins s σ H Q I h => ?_⟩
  refine PySem.W.methodCall_KW (pl := pl) (thn (ho.run pins s σ H _ I h) fun u s1 z => ?_) ht
  obtain ⟨y, H1, I1, ry, a, dx, fs, ey, ea, l, q⟩ := z
  subst ey
  obtain rfl : u = Value.ref a := ry
  refine getmeth_ok I1 ea c hm l (PySem.W.callWith_K (first := [.ref a]) (h₀ := X.base) I.ok.mod.kin hm.kp (thn (ha.run pos pins s1 σ H1 _ I1 q) fun us s2 z2 => ?_) hst hpl)
  obtain ⟨vs, H2, I2, r, q2⟩ := z2
  refine ⟨I2.kIn, ?_⟩
  exact run_fnSD (us := .ref a :: us) (vs := .ref a :: vs) (dvs := []) F hr hb .nil (hx σ) I2 (.cons rfl r) (by rw [List.append_nil]; exact q2)
theorem s_methE {σ : L2.St} {H : Hp} {Q : VK} (h : to σ H fun y H1 => ∃ a dx fs, y = V.ref a ∧ H1 a = some (.ins C dx fs) ∧ fs.lookup m = none ∧ t σ H1 fun vs H2 => sp (V.ref a :: vs) H2 Q (E σ)) : tMethE C m sp E to t σ H Q := h
end
end Bt
namespace Bt
open PySem PySem.Spec PyProof.Rows L2
open PySem.W (dataLt alike)
/-! ### a < b of data that are alike -/
def rLtD (K : PySem.W.Frag) : R2 := fun x y H Q => ∃ d e, Dp K H x d ∧ Dp K H y e ∧ alike d e = true ∧ d ≠ .none ∧ d.depth ≤ 60 ∧ Q (.bl (dataLt d e)) H
theorem op_ltD {X : Cx} (hu : X.A.units + 64 < cLine) : OpR X (compareOp .Lt) (rLtD X.K) := by
  intro pins s σ H x y v u Q I rx ry h
  obtain ⟨d, e, dx, dy, al, nn, dp, q⟩ := h
  obtain ⟨as, r1⟩ := Dp.reads I d x v dx rx
  obtain ⟨bs, r2⟩ := Dp.reads I e y u dy ry
  show wpAny (model X.prog X.w) X.A (richCompare .Lt v u) (EP X pins σ Q) X.xe s
  exact PySem.W.rcLt_alike d e X.A s v u as bs r1 r2 al nn (by omega) X.prog X.w _ _ ⟨.bl _, H, I, rfl, q⟩
theorem q_ltD {K : PySem.W.Frag} {x y : V} {H : Hp} {Q : VK} {d e : PyData} (dx : Dp K H x d) (dy : Dp K H y e) (al : alike d e = true) (nn : d ≠ .none) (dp : d.depth ≤ 60) (q : Q (.bl (dataLt d e)) H) : rLtD K x y H Q := ⟨d, e, dx, dy, al, nn, dp, q⟩
end Bt
namespace Bt
open PySem PySem.Spec PyProof.Rows L2
def top (i : Nat) : Stmt := PySem.Challenge.pw_betweenlists_k07_asks.main.body.getD i (.Pass ⟨0, 0, 0, 0⟩)
abbrev s__wall : Stmt := top 0
theorem sc__wall : FnScope ["k"] ["k"] (defScope s__wall) := ⟨rfl, rfl, rfl, by decide +kernel, rfl, by decide +kernel, by decide +kernel⟩
abbrev s_InvalidName___init__ : Stmt := inClass (top 3) 0
theorem sc_InvalidName___init__ : FnScope ["self", "value"] ["self", "value"] (defScope s_InvalidName___init__) := ⟨rfl, rfl, rfl, by decide +kernel, rfl, by decide +kernel, by decide +kernel⟩
abbrev s_InvalidPlace___init__ : Stmt := inClass (top 4) 0
theorem sc_InvalidPlace___init__ : FnScope ["self", "value"] ["self", "value"] (defScope s_InvalidPlace___init__) := ⟨rfl, rfl, rfl, by decide +kernel, rfl, by decide +kernel, by decide +kernel⟩
abbrev s_InvalidForm___init__ : Stmt := inClass (top 5) 0
theorem sc_InvalidForm___init__ : FnScope ["self", "value"] ["self", "value"] (defScope s_InvalidForm___init__) := ⟨rfl, rfl, rfl, by decide +kernel, rfl, by decide +kernel, by decide +kernel⟩
abbrev s_InvalidLook___init__ : Stmt := inClass (top 6) 0
theorem sc_InvalidLook___init__ : FnScope ["self", "value"] ["self", "value"] (defScope s_InvalidLook___init__) := ⟨rfl, rfl, rfl, by decide +kernel, rfl, by decide +kernel, by decide +kernel⟩
abbrev s_InvalidNumber___init__ : Stmt := inClass (top 7) 0
theorem sc_InvalidNumber___init__ : FnScope ["self", "value"] ["self", "value"] (defScope s_InvalidNumber___init__) := ⟨rfl, rfl, rfl, by decide +kernel, rfl, by decide +kernel, by decide +kernel⟩
abbrev s_is_whole : Stmt := top 11
theorem sc_is_whole : FnScope ["value"] ["value"] (defScope s_is_whole) := ⟨rfl, rfl, rfl, by decide +kernel, rfl, by decide +kernel, by decide +kernel⟩
abbrev s_is_name : Stmt := top 12
theorem sc_is_name : FnScope ["value", "letter"] ["value"] (defScope s_is_name) := ⟨rfl, rfl, rfl, by decide +kernel, rfl, by decide +kernel, by decide +kernel⟩
abbrev s_is_place : Stmt := top 13
theorem sc_is_place : FnScope ["value"] ["value"] (defScope s_is_place) := ⟨rfl, rfl, rfl, by decide +kernel, rfl, by decide +kernel, by decide +kernel⟩
abbrev s_is_name_list : Stmt := top 14
theorem sc_is_name_list : FnScope ["value", "item"] ["value"] (defScope s_is_name_list) := ⟨rfl, rfl, rfl, by decide +kernel, rfl, by decide +kernel, by decide +kernel⟩
abbrev s_check_name : Stmt := top 16
theorem sc_check_name : FnScope ["value"] ["value"] (defScope s_check_name) := ⟨rfl, rfl, rfl, by decide +kernel, rfl, by decide +kernel, by decide +kernel⟩
abbrev s_check_place : Stmt := top 17
theorem sc_check_place : FnScope ["value"] ["value"] (defScope s_check_place) := ⟨rfl, rfl, rfl, by decide +kernel, rfl, by decide +kernel, by decide +kernel⟩
abbrev s_check_least : Stmt := top 18
theorem sc_check_least : FnScope ["value", "least"] ["value", "least"] (defScope s_check_least) := ⟨rfl, rfl, rfl, by decide +kernel, rfl, by decide +kernel, by decide +kernel⟩
abbrev s_key_in : Stmt := top 21
theorem sc_key_in : FnScope ["form", "name", "ranks", "letter"] ["form", "name"] (defScope s_key_in) := ⟨rfl, rfl, rfl, by decide +kernel, rfl, by decide +kernel, by decide +kernel⟩
abbrev s__are_letters : Stmt := top 22
theorem sc__are_letters : FnScope ["value"] ["value"] (defScope s__are_letters) := ⟨rfl, rfl, rfl, by decide +kernel, rfl, by decide +kernel, by decide +kernel⟩
abbrev s__are_chains : Stmt := top 23
theorem sc__are_chains : FnScope ["value"] ["value"] (defScope s__are_chains) := ⟨rfl, rfl, rfl, by decide +kernel, rfl, by decide +kernel, by decide +kernel⟩
abbrev s_Form___init__ : Stmt := inClass (top 24) 0
theorem sc_Form___init__ : FnScope ["self", "letters", "chains"] ["self", "letters", "chains"] (defScope s_Form___init__) := ⟨rfl, rfl, rfl, by decide +kernel, rfl, by decide +kernel, by decide +kernel⟩
abbrev s_Form_letters : Stmt := inClass (top 24) 1
theorem sc_Form_letters : FnScope ["self"] ["self"] (defScope s_Form_letters) := ⟨rfl, rfl, rfl, by decide +kernel, rfl, by decide +kernel, by decide +kernel⟩
abbrev s_Form_chains : Stmt := inClass (top 24) 2
theorem sc_Form_chains : FnScope ["self"] ["self"] (defScope s_Form_chains) := ⟨rfl, rfl, rfl, by decide +kernel, rfl, by decide +kernel, by decide +kernel⟩
abbrev s_Form___call__ : Stmt := inClass (top 24) 3
theorem sc_Form___call__ : FnScope ["self", "name"] ["self", "name"] (defScope s_Form___call__) := ⟨rfl, rfl, rfl, by decide +kernel, rfl, by decide +kernel, by decide +kernel⟩
abbrev s_Form_ordered : Stmt := inClass (top 24) 4
theorem sc_Form_ordered : FnScope ["self", "names"] ["self", "names"] (defScope s_Form_ordered) := ⟨rfl, rfl, rfl, by decide +kernel, rfl, by decide +kernel, by decide +kernel⟩
abbrev s_Form___mul__ : Stmt := inClass (top 24) 5
theorem sc_Form___mul__ : FnScope ["self", "other"] ["self", "other"] (defScope s_Form___mul__) := ⟨rfl, rfl, rfl, by decide +kernel, rfl, by decide +kernel, by decide +kernel⟩
abbrev s_Form___rmul__ : Stmt := inClass (top 24) 6
theorem sc_Form___rmul__ : FnScope ["self", "other"] ["self", "other"] (defScope s_Form___rmul__) := ⟨rfl, rfl, rfl, by decide +kernel, rfl, by decide +kernel, by decide +kernel⟩
abbrev s_Form___floordiv__ : Stmt := inClass (top 24) 7
theorem sc_Form___floordiv__ : FnScope ["self", "other"] ["self", "other"] (defScope s_Form___floordiv__) := ⟨rfl, rfl, rfl, by decide +kernel, rfl, by decide +kernel, by decide +kernel⟩
abbrev s_Form___eq__ : Stmt := inClass (top 24) 8
theorem sc_Form___eq__ : FnScope ["self", "other"] ["self", "other"] (defScope s_Form___eq__) := ⟨rfl, rfl, rfl, by decide +kernel, rfl, by decide +kernel, by decide +kernel⟩
abbrev s__rise : Stmt := top 26
theorem sc__rise : FnScope ["form", "mark", "names", "row", "keys", "name", "low", "high"] ["form", "mark", "names"] (defScope s__rise) := ⟨rfl, rfl, rfl, by decide +kernel, rfl, by decide +kernel, by decide +kernel⟩
abbrev s__is_piece : Stmt := top 27
theorem sc__is_piece : FnScope ["folder", "form", "mark", "names", "ended"] ["folder", "form", "mark", "names", "ended"] (defScope s__is_piece) := ⟨rfl, rfl, rfl, by decide +kernel, rfl, by decide +kernel, by decide +kernel⟩
abbrev s__is_answer : Stmt := top 28
theorem sc__is_answer : FnScope ["value"] ["value"] (defScope s__is_answer) := ⟨rfl, rfl, rfl, by decide +kernel, rfl, by decide +kernel, by decide +kernel⟩
abbrev s__are_answers : Stmt := top 29
theorem sc__are_answers : FnScope ["value", "item", "place", "_"] ["value"] (defScope s__are_answers) := ⟨rfl, rfl, rfl, by decide +kernel, rfl, by decide +kernel, by decide +kernel⟩
abbrev s_Look___init__ : Stmt := inClass (top 30) 0
theorem sc_Look___init__ : FnScope ["self"] ["self"] (defScope s_Look___init__) := ⟨rfl, rfl, rfl, by decide +kernel, rfl, by decide +kernel, by decide +kernel⟩
abbrev s_Piece___init__ : Stmt := inClass (top 31) 0
theorem sc_Piece___init__ : FnScope ["self", "folder", "form", "mark", "names", "ended"] ["self", "folder", "form", "mark", "names", "ended"] (defScope s_Piece___init__) := ⟨rfl, rfl, rfl, by decide +kernel, rfl, by decide +kernel, by decide +kernel⟩
abbrev s_Piece_folder : Stmt := inClass (top 31) 1
theorem sc_Piece_folder : FnScope ["self"] ["self"] (defScope s_Piece_folder) := ⟨rfl, rfl, rfl, by decide +kernel, rfl, by decide +kernel, by decide +kernel⟩
abbrev s_Piece_form : Stmt := inClass (top 31) 2
theorem sc_Piece_form : FnScope ["self"] ["self"] (defScope s_Piece_form) := ⟨rfl, rfl, rfl, by decide +kernel, rfl, by decide +kernel, by decide +kernel⟩
abbrev s_Piece_mark : Stmt := inClass (top 31) 3
theorem sc_Piece_mark : FnScope ["self"] ["self"] (defScope s_Piece_mark) := ⟨rfl, rfl, rfl, by decide +kernel, rfl, by decide +kernel, by decide +kernel⟩
abbrev s_Piece_names : Stmt := inClass (top 31) 4
theorem sc_Piece_names : FnScope ["self"] ["self"] (defScope s_Piece_names) := ⟨rfl, rfl, rfl, by decide +kernel, rfl, by decide +kernel, by decide +kernel⟩
abbrev s_Piece_ended : Stmt := inClass (top 31) 5
theorem sc_Piece_ended : FnScope ["self"] ["self"] (defScope s_Piece_ended) := ⟨rfl, rfl, rfl, by decide +kernel, rfl, by decide +kernel, by decide +kernel⟩
abbrev s_Piece_says : Stmt := inClass (top 31) 6
theorem sc_Piece_says : FnScope ["self", "place"] ["self", "place"] (defScope s_Piece_says) := ⟨rfl, rfl, rfl, by decide +kernel, rfl, by decide +kernel, by decide +kernel⟩
abbrev s_Piece_standing : Stmt := inClass (top 31) 7
theorem sc_Piece_standing : FnScope ["self", "name"] ["self"] (defScope s_Piece_standing) := ⟨rfl, rfl, rfl, by decide +kernel, rfl, by decide +kernel, by decide +kernel⟩
abbrev s_Piece___contains__ : Stmt := inClass (top 31) 8
theorem sc_Piece___contains__ : FnScope ["self", "place", "key", "behind"] ["self", "place"] (defScope s_Piece___contains__) := ⟨rfl, rfl, rfl, by decide +kernel, rfl, by decide +kernel, by decide +kernel⟩
abbrev s_Piece___eq__ : Stmt := inClass (top 31) 9
theorem sc_Piece___eq__ : FnScope ["self", "other"] ["self", "other"] (defScope s_Piece___eq__) := ⟨rfl, rfl, rfl, by decide +kernel, rfl, by decide +kernel, by decide +kernel⟩
abbrev s_Ask___init__ : Stmt := inClass (top 32) 0
theorem sc_Ask___init__ : FnScope ["self", "answers"] ["self", "answers"] (defScope s_Ask___init__) := ⟨rfl, rfl, rfl, by decide +kernel, rfl, by decide +kernel, by decide +kernel⟩
abbrev s_Ask_answers : Stmt := inClass (top 32) 1
theorem sc_Ask_answers : FnScope ["self"] ["self"] (defScope s_Ask_answers) := ⟨rfl, rfl, rfl, by decide +kernel, rfl, by decide +kernel, by decide +kernel⟩
abbrev s_Ask_says : Stmt := inClass (top 32) 2
theorem sc_Ask_says : FnScope ["self", "place"] ["self", "place"] (defScope s_Ask_says) := ⟨rfl, rfl, rfl, by decide +kernel, rfl, by decide +kernel, by decide +kernel⟩
abbrev s_Ask_standing : Stmt := inClass (top 32) 3
theorem sc_Ask_standing : FnScope ["self", "place", "stands"] ["self"] (defScope s_Ask_standing) := ⟨rfl, rfl, rfl, by decide +kernel, rfl, by decide +kernel, by decide +kernel⟩
abbrev s_Ask___contains__ : Stmt := inClass (top 32) 4
theorem sc_Ask___contains__ : FnScope ["self", "place"] ["self", "place"] (defScope s_Ask___contains__) := ⟨rfl, rfl, rfl, by decide +kernel, rfl, by decide +kernel, by decide +kernel⟩
abbrev s_Ask___eq__ : Stmt := inClass (top 32) 5
theorem sc_Ask___eq__ : FnScope ["self", "other"] ["self", "other"] (defScope s_Ask___eq__) := ⟨rfl, rfl, rfl, by decide +kernel, rfl, by decide +kernel, by decide +kernel⟩
abbrev s__law_purse : Stmt := top 34
theorem sc__law_purse : FnScope ["_law_script", "_law_at", "_law_cell"] ["_law_script", "_law_at"] (defScope s__law_purse) := ⟨rfl, rfl, rfl, by decide +kernel, rfl, by decide +kernel, by decide +kernel⟩
abbrev s__law_draw : Stmt := top 35
theorem sc__law_draw : FnScope ["_law_purse_here", "_law_many", "_law_drawn", "_law_number"] ["_law_purse_here", "_law_many"] (defScope s__law_draw) := ⟨rfl, rfl, rfl, by decide +kernel, rfl, by decide +kernel, by decide +kernel⟩
abbrev s__law_name : Stmt := top 36
theorem sc__law_name : FnScope ["_law_purse_here", "_law_name_here", "_law_turn"] ["_law_purse_here"] (defScope s__law_name) := ⟨rfl, rfl, rfl, by decide +kernel, rfl, by decide +kernel, by decide +kernel⟩
abbrev s__law_names : Stmt := top 37
theorem sc__law_names : FnScope ["_law_purse_here", "_law_many", "_law_names_here", "_law_turn", "_law_name_here"] ["_law_purse_here", "_law_many"] (defScope s__law_names) := ⟨rfl, rfl, rfl, by decide +kernel, rfl, by decide +kernel, by decide +kernel⟩
abbrev s__law_key : Stmt := top 38
theorem sc__law_key : FnScope ["_law_form", "_law_name_here", "_law_ranks", "_law_letter"] ["_law_form", "_law_name_here"] (defScope s__law_key) := ⟨rfl, rfl, rfl, by decide +kernel, rfl, by decide +kernel, by decide +kernel⟩
abbrev s__law_world : Stmt := top 39
theorem sc__law_world : FnScope ["_law_purse_here", "_law_folders", "_law_names_here", "_law_places", "_law_folder", "_law_name_here"] ["_law_purse_here"] (defScope s__law_world) := ⟨rfl, rfl, rfl, by decide +kernel, rfl, by decide +kernel, by decide +kernel⟩
abbrev s__law_says : Stmt := top 40
theorem sc__law_says : FnScope ["_law_look", "_law_place", "_law_one", "_law_stands", "_law_word", "_law_folder", "_law_form", "_law_mark", "_law_names_here", "_law_ended", "_law_rank"] ["_law_look", "_law_place"] (defScope s__law_says) := ⟨rfl, rfl, rfl, by decide +kernel, rfl, by decide +kernel, by decide +kernel⟩
abbrev s__law_refused : Stmt := top 41
theorem sc__law_refused : FnScope ["_law_answers", "_law_given", "_law_found", "e"] ["_law_answers"] (defScope s__law_refused) := ⟨rfl, rfl, rfl, by decide +kernel, rfl, by decide +kernel, by decide +kernel⟩
abbrev s__law_raises : Stmt := top 42
theorem sc__law_raises : FnScope ["_law_look", "_law_value", "_law_found", "e"] ["_law_look", "_law_value"] (defScope s__law_raises) := ⟨rfl, rfl, rfl, by decide +kernel, rfl, by decide +kernel, by decide +kernel⟩
abbrev s__law_shuffled : Stmt := top 43
theorem sc__law_shuffled : FnScope ["_law_purse_here", "_law_rows", "_law_found", "_law_row", "_law_at"] ["_law_purse_here", "_law_rows"] (defScope s__law_shuffled) := ⟨rfl, rfl, rfl, by decide +kernel, rfl, by decide +kernel, by decide +kernel⟩
abbrev s__law_bad : Stmt := top 44
theorem sc__law_bad : FnScope ["_law_purse_here", "_law_answers", "_law_place", "_law_at", "_law_rows", "_law_one", "_law_bad_here", "_law_stands"] ["_law_purse_here", "_law_answers", "_law_place"] (defScope s__law_bad) := ⟨rfl, rfl, rfl, by decide +kernel, rfl, by decide +kernel, by decide +kernel⟩
abbrev s__law_told : Stmt := top 45
theorem sc__law_told : FnScope ["_law_ask", "_law_answers", "_law_told_here", "_law_due", "_law_one", "_law_stands"] ["_law_ask", "_law_answers"] (defScope s__law_told) := ⟨rfl, rfl, rfl, by decide +kernel, rfl, by decide +kernel, by decide +kernel⟩
abbrev s__law_heard : Stmt := top 46
theorem sc__law_heard : FnScope ["_law_ask", "_law_answers", "_law_places", "_law_place", "_law_due", "_law_heard_here"] ["_law_ask", "_law_answers", "_law_places"] (defScope s__law_heard) := ⟨rfl, rfl, rfl, by decide +kernel, rfl, by decide +kernel, by decide +kernel⟩
abbrev s_law : Stmt := top 47
theorem sc_law : FnScope ["_law_script", "_law_at", "_law_purse_here", "_law_places", "_law_chosen", "_law_answers", "_law_handed", "_law_ask", "_law_twin", "_law_around", "_law_k", "_law_rest", "_law_one", "_law_home", "_law_name_here", "_law_odd", "_law_place"] ["_law_script"] (defScope s_law) := ⟨rfl, rfl, rfl, by decide +kernel, rfl, by decide +kernel, by decide +kernel⟩
theorem words_ : True := by
  k_with "s_P7" => first
    | ((with_reducible refine' s_var ?hv ?_); (case hv => exact rfl))
    | with_reducible first
      | refine' s_c ?_ | refine' s_op ?_ | refine' s_asg ?_ | refine' s_gname ?_ | refine' s_seq ?_ | refine' s_next ?_ | refine' s_ret ?_ | refine' s_ifS ?_ | refine' s_drop ?_ | refine' s_retN ?_
      | refine' s_test ?_ | refine' s_B ?_ | refine' q_test ?_ | refine' s_int ?_ | refine' s_cons ?_ | refine' s_nil ?_ | refine' s_call ?_ | refine' s_CB ?_ | refine' s_andT ?_ | refine' s_orT ?_ | refine' s_notT ?_
      | refine' s_andV ?_ | refine' s_orV ?_ | refine' s_notV ?_ | refine' s_ifV ?_ | refine' s_chain ?_ | refine' s_sl ?_ | refine' s_noPart ?_ | refine' s_part ?_ | refine' s_gsub ?_ | refine' s_BM ?_ | refine' s_tup ?_ | refine' s_lst ?_
      | refine' q_add ?_ | refine' q_sub ?_ | refine' q_lt ?_ | refine' q_le ?_ | refine' q_gt ?_ | refine' q_ge ?_ | refine' s_ifT ?_ | refine' s_ifF ?_
      | (refine' q_mod ?hm ?_; (case hm => first | omega | decide)) | (refine' q_fdiv ?hm ?hn ?_; (case hm => first | omega | decide); (case hn => first | omega | decide))
      | (refine' q_mulR ?hm ?_; (case hm => first | omega | decide)) | (refine' q_mulL ?hm ?_; (case hm => first | omega | decide))
    | dsimp only
  k_with "r_P7" => repeat (k_extra "s_P7")
  trivial
structure Txt (K : PySem.W.Frag) (mg : Str → Option Value) : Prop where
  n_isinstance : mg "isinstance" = none
  n_int : mg "int" = none
  n_bool : mg "bool" = none
  n_str : mg "str" = none
  n_sorted : mg "sorted" = none
  v_LETTERS : ∃ t, mg "LETTERS" = some (.str alphaS t)
  v_MOST_CHAINS : ∃ t, mg "MOST_CHAINS" = some (.int 1000 t)
  n_tuple : mg "tuple" = none
  d_is_whole : Df K mg "is_whole" s_is_whole ["value"]
  d__are_letters : Df K mg "_are_letters" s__are_letters ["value"]
  d__are_chains : Df K mg "_are_chains" s__are_chains ["value"]
/-- what a Form stores -/
def frm (l c : V) : List (Str × V) := putF "_chains" c (putF "_letters" l [])
theorem lc_ne : ¬ (("_letters" : Str) = "_chains") := by decide +kernel
theorem frm_l (l c : V) : (frm l c).lookup ("_letters" : Str) = some l := by
  unfold frm
  rw [lookup_putF, if_neg lc_ne, lookup_putF, if_pos rfl]
theorem frm_c (l c : V) : (frm l c).lookup ("_chains" : Str) = some c := by
  unfold frm
  rw [lookup_putF, if_pos rfl]
structure FormC (K : PySem.W.Frag) (mg : Str → Option Value) (C : Addr) : Prop where
  cl : Cls K C
  g : mg "Form" = some (.ref C)
  makes : PySem.W.makesIn K C = true
  kp : PySem.W.keepIn K (.ref C) = true
  nL : NoAttr K C "_letters"
  nC : NoAttr K C "_chains"
  init : ∃ (f : Addr) (fd : FuncData) (d1 d2 : List Value), PySem.W.findIn K (.ref C) "__init__" = some (some (.ref f)) ∧ PySem.W.isFn K (.ref f) = true ∧
    FunD K "__init__" "Form.__init__" (defArgs s_Form___init__) (defBody s_Form___init__) (defScope s_Form___init__) [.str alphaS, .int 1] [] f fd ∧
    Binds K fd ["self", "letters", "chains"] [] ∧ Vals [.int 1] d1 ∧ Binds K fd ["self", "letters", "chains"] d1 ∧ Vals [.str alphaS, .int 1] d2 ∧ Binds K fd ["self", "letters", "chains"] d2
  pL : ∃ (p f : Addr) (fd : FuncData), PropOf K C "letters" p f ∧ Fun K "letters" "Form.letters" s_Form_letters f fd ∧ Binds K fd ["self"] []
  pC : ∃ (p f : Addr) (fd : FuncData), PropOf K C "chains" p f ∧ Fun K "chains" "Form.chains" s_Form_chains f fd ∧ Binds K fd ["self"] []
  eq : ∃ (f : Addr) (fd : FuncData), PySem.W.findIn K (.ref C) "__eq__" = some (some (.ref f)) ∧ PySem.W.isFn K (.ref f) = true ∧ Fun K "__eq__" "Form.__eq__" s_Form___eq__ f fd ∧ Binds K fd ["self", "other"] []
  i1 : PySem.W.findIn K (.ref C) "__class__" = some (some (.builtin "object.__class__"))
  i2 : PySem.W.specialIn K (.builtin "object.__class__") "__get__" = some (some (.builtin "getset_descriptor.__get__"))
  i3 : PySem.W.takesIn K (.builtin "object.__class__") = some true
  i4 : PySem.W.mroIn K C (.type "object") = some true
  kY : PySem.W.kitOne K (.ref C) (.ref C) = some true
  kN : ∀ T, Kd T → PySem.W.kitOne K (.type T) (.ref C) = some false
  nf : ∀ T, Kd T → PySem.W.notFirst K C (.type T) = true
  nfS : PySem.W.notFirst K C (.ref C) = true
section
variable {P : Program} {w : World} {K : PySem.W.Frag} {mg : Str → Option Value} {base : Heap}
/-! ### is_whole -/
def wholeV : V → Bool
  | .int _ => true
  | _ => false
def spWhole (K : PySem.W.Frag) : Sp := fun vs H Q _ => ∃ x T, vs = [x] ∧ Pl K H x T ∧ Q (.bl (T == "int")) H
theorem ok_is_whole (T : Txt K mg) : Cal P w K mg base 1 "is_whole" (spWhole K) := by
  refine T.d_is_whole.cal sc_is_whole (fun vs H Q E h => ?_) (fun f cdv A outer s H vs Q E hr h => ?_)
  · obtain ⟨x, T, rfl, _⟩ := h
    rfl
  · obtain ⟨x, ty, rfl, hx, k⟩ := h
    refine ⟨_, (pss_one (ps_ret (pe_and (pe_callB call_isi (by rfl) T.n_isinstance (by decide +kernel) (pa_cons (pv 0) (pa_cons (pe_bltn (v := .ty "int") (by rfl) T.n_int (by decide +kernel) rfl) pa_nil))) (pe_one (pe_not (pe_callB call_isi (by rfl) T.n_isinstance (by decide +kernel) (pa_cons (pv 0) (pa_cons (pe_bltn (v := .ty "bool") (by rfl) T.n_bool (by decide +kernel) rfl) pa_nil)))))))), ?_⟩
    k_extra "r_P7"
    refine q_isi hx .int ?_
    k_extra "r_P7"
    cases hx.2 <;> k_extra "r_P7" <;> first | exact k | (refine s_if (fun _ => ?_) (fun z => absurd z (by decide)); k_extra "r_P7"; refine q_isi hx .bl ?_; k_extra "r_P7"; exact k)
/-! ### _are_letters -/
def spLetters (K : PySem.W.Frag) : Sp := fun vs H Q _ => ∃ x T, vs = [x] ∧ Pl K H x T ∧ (∀ z, x = .str z → z.length < 64 ∧ Asc z) ∧ ((∀ z, x = .str z → ¬ Letters z) → ∀ H', Same H H' → Q (.bl false) H') ∧ ((∃ z, x = .str z ∧ Letters z) → ∀ H', Same H H' → Q (.bl true) H')
theorem ok__are_letters (T : Txt K mg) : Cal P w K mg base 1 "_are_letters" (spLetters K) := by
  refine T.d__are_letters.cal sc__are_letters (fun vs H Q E h => ?_) (fun f cdv A outer s H vs Q E hr h => ?_)
  · obtain ⟨x, T, rfl, _⟩ := h
    rfl
  · obtain ⟨x, ty, rfl, hx, hz, kN, kY⟩ := h
    have hu := hr.units
    refine ⟨_, (pss_one (ps_ret (pe_and (pe_callB call_isi (by rfl) T.n_isinstance (by decide +kernel) (pa_cons (pv 0) (pa_cons (pe_bltn (v := .ty "str") (by rfl) T.n_str (by decide +kernel) rfl) pa_nil)))
      (pe_one (pe_cmpR (op_eqU hu) (pe_callB (cr_sortedTx (by rfl)) (by rfl) T.n_sorted (by decide +kernel) (pa_cons (pv 0) pa_nil)) (pe_callB (cr_sortedTx (by rfl)) (by rfl) T.n_sorted (by decide +kernel) (pa_cons (pe_glob (v := .str alphaS) (by rfl) T.v_LETTERS.choose_spec ⟨_, rfl⟩) pa_nil)) (by rfl)))))), ?_⟩
    k_extra "r_P7"
    refine q_isi hx .str ?_
    by_cases e : ty = "str"
    · obtain ⟨z, rfl⟩ := hx.of_str e
      obtain ⟨h64, asc⟩ := hz z rfl
      subst e
      k_extra "r_P7"
      refine s_if1 rfl ?_
      k_extra "r_P7"
      refine q_sortTx h64 fun ys p1 H1 n1 S1 h1 q1 q2 => ?_
      k_extra "r_P7"
      refine q_sortTx (by decide) fun ws p2 H2 n2 S2 h2 r1 r2 => ?_
      refine q_eqD (dp_lst_strs (S2 _ _ h1)) (dp_lst_strs h2) (shaped_sorted asc q1) (shaped_sorted asc_alpha r1) ?_
      rw [sorted_eq_iff q1 q2 r1 r2, alphaS_cps]
      by_cases l : Letters z
      · rw [decide_eq_true (show z.cps.toList.Perm alpha from l)]
        exact kY ⟨z, rfl, l⟩ _ (S1.trans S2)
      · rw [decide_eq_false (show ¬ z.cps.toList.Perm alpha from l)]
        exact kN (fun z' e => by cases e; exact l) _ (S1.trans S2)
    · have e2 : subKd ty "str" = false := by
        cases hx.2 <;> first | rfl | exact absurd rfl e
      rw [e2]
      k_extra "r_P7"
      refine kN (fun z ez => ?_) H (Same.refl H)
      subst ez
      exact absurd hx.is_str e
/-! ### _are_chains -/
def spChains (K : PySem.W.Frag) : Sp := fun vs H Q _ => ∃ x T, vs = [x] ∧ Pl K H x T ∧ ((∀ i, x = .int i → ¬ (1 ≤ i ∧ i ≤ 1000)) → Q (.bl false) H) ∧ ((∃ i, x = .int i ∧ 1 ≤ i ∧ i ≤ 1000) → Q (.bl true) H)
theorem ok__are_chains (T : Txt K mg) : Cal P w K mg base 2 "_are_chains" (spChains K) := by
  refine T.d__are_chains.cal sc__are_chains (fun vs H Q E h => ?_) (fun f cdv A outer s H vs Q E hr h => ?_)
  · obtain ⟨x, T, rfl, _⟩ := h
    rfl
  · obtain ⟨x, ty, rfl, hx, kN, kY⟩ := h
    refine ⟨_, (pss_one (ps_ret (pe_and (pe_c (ok_is_whole T) hr (by decide) rfl (pa_cons (pv 0) pa_nil)) (pe_one (pe_chain op_leI op_leI pe_int (pv 0) (pe_glob (v := .int 1000) (by rfl) T.v_MOST_CHAINS.choose_spec ⟨_, rfl⟩)))))), ?_⟩
    k_extra "r_P7"
    refine ⟨x, ty, rfl, hx, ?_⟩
    by_cases e : ty = "int"
    · obtain ⟨i, rfl⟩ := hx.of_int e
      subst e
      k_extra "r_P7"
      refine s_if1 rfl ?_
      k_extra "r_P7"
      by_cases h1 : 1 ≤ i
      · rw [decide_eq_true h1]
        k_extra "r_P7"
        by_cases h2 : i ≤ 1000
        · rw [decide_eq_true h2]
          exact kY ⟨i, rfl, h1, h2⟩
        · rw [decide_eq_false h2]
          exact kN fun j ej => by cases ej; omega
      · rw [decide_eq_false h1]
        k_extra "r_P7"
        exact kN fun j ej => by cases ej; omega
    · k_extra "r_P7"
      refine s_if0 (beq_eq_false_iff_ne.mpr e) ?_
      refine kN fun i ei => ?_
      subst ei
      exact absurd hx.is_int e
/-! ### Form.__init__ -/
def Valid (l c : V) : Prop := (∃ z, l = .str z ∧ Letters z) ∧ ∃ i, c = .int i ∧ 1 ≤ i ∧ i ≤ 1000
theorem valid_dec (l c : V) : Valid l c ∨ ¬ Valid l c := Classical.em _
def spFormInit (K : PySem.W.Frag) (C CI : Addr) : Sp := fun vs H Q E => ∃ p dx l c T1 T2, vs = [.ref p, l, c] ∧ H p = some (.ins C dx []) ∧ Pl K H l T1 ∧ Pl K H c T2 ∧ (∀ z, l = .str z → z.length < 64 ∧ Asc z) ∧
  (Valid l c → ∀ H', H' p = some (.ins C dx (frm l c)) → But p H H' → Q .non H') ∧
  (¬ Valid l c → ∀ H' t d, Same H H' → H t = none → H d = none → H' d = some (.xd [("value", .ref t)]) → H' t = some (.tup [l, c]) → E (.ref CI) (some d) H')
theorem ok_form_init {C CI f : Addr} {fd : FuncData} (T : Txt K mg) (FC : FormC K mg C) (XI : ExcF K mg "InvalidForm" "value" CI)
    (F : FunD K "__init__" "Form.__init__" (defArgs s_Form___init__) (defBody s_Form___init__) (defScope s_Form___init__) [.str alphaS, .int 1] [] f fd) :
    FnOk P w K mg base (L2.CX P w) 4 f fd ["self", "letters", "chains"] (spFormInit K C CI) := by
  refine F.ok sc_Form___init__ (fun vs H Q E h => ?_) (fun cdv A outer s H vs Q E hr h => ?_)
  · obtain ⟨p, dx, l, c, _, _, rfl, _⟩ := h
    rfl
  · obtain ⟨p, dx, l, c, T1, T2, rfl, hp, hl, hc, hz, kY, kN⟩ := h
    refine ⟨_, (pss_cons (ps_if (pt_not (PW.pt (pw_and (pt_val (pe_c (ok__are_letters T) hr (by decide) rfl (pa_cons (pv 1) pa_nil))) (pw_and1 (pt_val (pe_c (ok__are_chains T) hr (by decide) rfl (pa_cons (pv 2) pa_nil))))))) (pss_one (ps_raise1 rfl XI hr (by decide) (takes_of rfl rfl rfl rfl) (pe_tup (pa_cons (pv 1) (pa_cons (pv 2) pa_nil))))) pss_nil)
      (pss_cons (ps_fld (pv 0) (pv 1) rfl)
      (pss_one (ps_fld (pv 0) (pv 2) rfl)))), ?_⟩
    have raise : ¬ Valid l c → ∀ H1, Same H H1 → ∀ Z : Ends, tRaise1 CI "value" (fun cls d σ H => E cls d H) (tTup (tCons (tVar 1) (tCons (tVar 2) tNil))) Z (start ["self", "letters", "chains"] [.ref p, l, c]) H1 := fun nv H1 S1 Z => by
      refine s_raise1 ?_
      k_extra "r_P7"
      refine ⟨by show 2 ≤ sizeLine; decide, fun t nt d H3 nd S3 hd => ?_⟩
      have n1 : H1 d = none := by
        cases e : H1 d with
        | none => rfl
        | some o => exact absurd ((Same.new nt) d o e) (by rw [nd]; intro z; cases z)
      exact kN nv H3 t d (fun b o e => S3 _ _ (Same.new nt _ _ (S1 _ _ e))) (S1.free nt) (S1.free n1) hd (S3 _ _ upd_same)
    k_extra "r_P7"
    refine ⟨l, T1, rfl, hl, hz, fun hno H1 S1 => ?_, fun hyes H1 S1 => ?_⟩
    · k_extra "r_P7"
      exact raise (fun v => by obtain ⟨⟨z, ez, lz⟩, _⟩ := v; exact hno z ez lz) H1 S1 ⟨fun _ _ => False, Q, fun _ _ => False, fun _ _ => False⟩
    · k_extra "r_P7"
      refine ⟨c, T2, rfl, hc.mono S1, fun hno => ?_, fun hyc => ?_⟩
      · k_extra "r_P7"
        exact raise (fun v => by obtain ⟨_, i, ei, li⟩ := v; exact hno i ei li) H1 S1 ⟨fun _ _ => False, Q, fun _ _ => False, fun _ _ => False⟩
      · k_extra "r_P7"
        refine ⟨_, rfl, _, rfl, p, C, dx, [], rfl, S1 _ _ hp, FC.cl, FC.nL, (by show 0 < 1000; decide), ?_⟩
        refine ⟨_, rfl, _, rfl, p, C, dx, _, rfl, upd_same, FC.cl, FC.nC, (by show 1 < 1000; decide), ?_⟩
        refine kY ⟨hyes, hyc⟩ _ upd_same fun b o n e => ?_
        rw [upd_ne n, upd_ne n]
        exact S1 _ _ e
/-! ### a form that stands -/
def FormAt (C : Addr) (H : Hp) (a : Addr) (z : Str) (c : Int) : Prop := ∃ dx, H a = some (.ins C dx (frm (.str z) (.int c)))
theorem FormAt.mono {C : Addr} {H H' : Hp} {a : Addr} {z : Str} {c : Int} (S : Same H H') (h : FormAt C H a z c) : FormAt C H' a z c := let ⟨dx, e⟩ := h; ⟨dx, S _ _ e⟩
theorem FormAt.ty {C : Addr} {H : Hp} {a : Addr} {z : Str} {c : Int} (FC : FormC K mg C) (h : FormAt C H a z c) : TyX K H (.ref a) (.ref C) := let ⟨_, e⟩ := h; .base (.ins e FC.cl FC.i1 FC.i2 FC.i3 FC.i4)
theorem ok_form_letters {C f : Addr} {fd : FuncData} (FC : FormC K mg C) (F : Fun K "letters" "Form.letters" s_Form_letters f fd) : FnOk P w K mg base CX0 1 f fd ["self"] (getSp C "_letters") := by
  obtain ⟨oc, od, kV, doc, pm, an, cdv, ct, osl, rfl, lk, hcd⟩ := F.ex
  exact fn_getter lk hcd sc_Form_letters rfl rfl FC.cl FC.nL
theorem ok_form_chains {C f : Addr} {fd : FuncData} (FC : FormC K mg C) (F : Fun K "chains" "Form.chains" s_Form_chains f fd) : FnOk P w K mg base CX0 1 f fd ["self"] (getSp C "_chains") := by
  obtain ⟨oc, od, kV, doc, pm, an, cdv, ct, osl, rfl, lk, hcd⟩ := F.ex
  exact fn_getter lk hcd sc_Form_chains rfl rfl FC.cl FC.nC
end
section
variable {X : Cx} {C : Addr} {e : Expr} {pos : Pos} {te : TE} {k : Nat}
theorem pe_letters (FC : FormC X.K X.mg C) (hr : Room k X.A) (hk : 2 ≤ k) (he : PE X e te) (hab : attributeBase e "letters" X.env (eval e X.env) = eval e X.env := by rfl) : PE X (.Attribute e "letters" pos) (tProp C (getSp C "_letters") [] E0 te) := by
  obtain ⟨p, f, fd, hp, F, b⟩ := FC.pL
  exact pe_prop he FC.cl hp (ok_form_letters FC F) (hr.mono hk) b .nil pass0 hab
theorem pe_chains (FC : FormC X.K X.mg C) (hr : Room k X.A) (hk : 2 ≤ k) (he : PE X e te) (hab : attributeBase e "chains" X.env (eval e X.env) = eval e X.env := by rfl) : PE X (.Attribute e "chains" pos) (tProp C (getSp C "_chains") [] E0 te) := by
  obtain ⟨p, f, fd, hp, F, b⟩ := FC.pC
  exact pe_prop he FC.cl hp (ok_form_chains FC F) (hr.mono hk) b .nil pass0 hab
theorem s_letters {σ : L2.St} {H : Hp} {Q : VK} (h : te σ H fun x H1 => ∃ a z c, x = .ref a ∧ FormAt C H1 a z c ∧ Q (.str z) H1) : ∃ Q', te σ H Q' ∧ ∀ x H1, Q' x H1 → (∃ a dx fs, x = .ref a ∧ H1 a = some (.ins C dx fs) ∧ getSp C "_letters" (.ref a :: []) H1 Q E0) :=
  ⟨_, h, fun x H1 ⟨a, z, c, ex, ⟨dx, ea⟩, q⟩ => ⟨a, dx, _, ex, ea, a, dx, _, _, rfl, ea, frm_l _ _, q⟩⟩
end
theorem q_letters {C a : Addr} {H : Hp} {Q : VK} {z : Str} {c : Int} (h : FormAt C H a z c) (q : Q (.str z) H) : ∃ b dx fs, V.ref a = .ref b ∧ H b = some (.ins C dx fs) ∧ getSp C "_letters" (.ref b :: []) H Q E0 :=
  let ⟨dx, e⟩ := h; ⟨a, dx, _, rfl, e, a, dx, _, _, rfl, e, frm_l _ _, q⟩
theorem q_chains {C a : Addr} {H : Hp} {Q : VK} {z : Str} {c : Int} (h : FormAt C H a z c) (q : Q (.int c) H) : ∃ b dx fs, V.ref a = .ref b ∧ H b = some (.ins C dx fs) ∧ getSp C "_chains" (.ref b :: []) H Q E0 :=
  let ⟨dx, e⟩ := h; ⟨a, dx, _, rfl, e, a, dx, _, _, rfl, e, frm_c _ _, q⟩
theorem s_prop {C : Addr} {sp : Sp} {dvs : List V} {E : XK} {ta : TE} {σ : L2.St} {H : Hp} {Q : VK} (h : ta σ H fun x H1 => ∃ a dx fs, x = .ref a ∧ H1 a = some (.ins C dx fs) ∧ sp (.ref a :: dvs) H1 Q E) : tProp C sp dvs E ta σ H Q := h
section
variable {P : Program} {w : World} {K : PySem.W.Frag} {mg : Str → Option Value} {base : Heap}
/-! ### Form.__eq__ -/
def spFormEq (K : PySem.W.Frag) (C : Addr) : Sp := fun vs H Q _ => ∃ a y z c, vs = [.ref a, y] ∧ FormAt C H a z c ∧ ((∃ b z' c', y = .ref b ∧ FormAt C H b z' c' ∧ Q (.bl (decide (z = z' ∧ c = c'))) H) ∨ ∃ T, Pl K H y T ∧ Q (.bl false) H)
theorem ok_form_eq {C f : Addr} {fd : FuncData} (T : Txt K mg) (FC : FormC K mg C) (F : Fun K "__eq__" "Form.__eq__" s_Form___eq__ f fd) : FnOk P w K mg base CX0 3 f fd ["self", "other"] (spFormEq K C) := by
  refine F.ok sc_Form___eq__ (fun vs H Q E h => ?_) (fun cdv A outer s H vs Q E hr h => ?_)
  · obtain ⟨a, y, z, c, rfl, _⟩ := h
    rfl
  · obtain ⟨a, y, z, c, rfl, ha, hy⟩ := h
    refine ⟨_, (pss_one (ps_ret (pe_and (pe_callB call_isi (by rfl) T.n_isinstance (by decide +kernel) (pa_cons (pv 1) (pa_cons (pe_glob (v := .ref C) (by rfl) FC.g rfl) pa_nil)))
      (pe_and (pe_cmpR op_eq (pe_letters FC hr (by decide) (pv 0)) (pe_letters FC hr (by decide) (pv 1)) (by rfl)) (pe_one (pe_cmpR op_eq (pe_chains FC hr (by decide) (pv 0)) (pe_chains FC hr (by decide) (pv 1)) (by rfl))))))), ?_⟩
    k_extra "r_P7"
    rcases hy with ⟨b, z', c', rfl, hb, q⟩ | ⟨ty, hy, q⟩
    · refine ⟨.ref b, .ref C, .ref C, .ref C, true, rfl, .own C, hb.ty FC, FC.kY, ?_⟩
      k_extra "r_P7"
      refine s_prop ?_
      k_extra "r_P7"
      refine q_letters ha ?_
      refine s_prop ?_
      k_extra "r_P7"
      refine q_letters hb ⟨rfl, ?_⟩
      k_extra "r_P7"
      by_cases e1 : z = z'
      · subst e1
        refine s_if1 (by simp) ?_
        refine s_prop ?_
        k_extra "r_P7"
        refine q_chains ha ?_
        refine s_prop ?_
        k_extra "r_P7"
        refine q_chains hb ⟨rfl, ?_⟩
        have : decide (V.int c = V.int c') = decide (z = z ∧ c = c') := decide_eq_decide.mpr ⟨fun e => ⟨rfl, by cases e; rfl⟩, fun e => by rw [e.2]⟩
        rw [this]
        exact q
      · refine s_if0 (by simp [e1]) ?_
        have : decide (z = z' ∧ c = c') = false := decide_eq_false fun e => e1 e.1
        rw [this] at q
        exact q
    · refine ⟨y, .ref C, .type ty, .ref C, false, rfl, .own C, hy.1, FC.kN _ hy.2, ?_⟩
      k_extra "r_P7"
      exact q
end
end Bt
namespace Bt
open PySem PySem.Spec PyProof.Rows L2
theorem words2_ : True := by
  k_with "s_D7" => first
    | ((with_reducible refine' s_var ?hv ?_); (case hv => exact rfl))
    | with_reducible first
      | refine' s_c ?_ | refine' s_op ?_ | refine' s_asg ?_ | refine' s_gname ?_ | refine' s_seq ?_ | refine' s_next ?_ | refine' s_ret ?_ | refine' s_ifS ?_ | refine' s_drop ?_ | refine' s_retN ?_
      | refine' s_test ?_ | refine' s_B ?_ | refine' q_test ?_ | refine' s_int ?_ | refine' s_cons ?_ | refine' s_nil ?_ | refine' s_call ?_ | refine' s_CB ?_ | refine' s_andT ?_ | refine' s_orT ?_ | refine' s_notT ?_
      | refine' s_andV ?_ | refine' s_orV ?_ | refine' s_notV ?_ | refine' s_ifV ?_ | refine' s_chain ?_ | refine' s_sl ?_ | refine' s_noPart ?_ | refine' s_part ?_ | refine' s_gsub ?_ | refine' s_BM ?_ | refine' s_tup ?_ | refine' s_lst ?_
      | refine' q_add ?_ | refine' q_sub ?_ | refine' q_lt ?_ | refine' q_le ?_ | refine' q_gt ?_ | refine' q_ge ?_ | refine' s_ifT ?_ | refine' s_ifF ?_
      | (refine' q_mod ?hm ?_; (case hm => first | omega | decide)) | (refine' q_fdiv ?hm ?hn ?_; (case hm => first | omega | decide); (case hn => first | omega | decide))
      | (refine' q_mulR ?hm ?_; (case hm => first | omega | decide)) | (refine' q_mulL ?hm ?_; (case hm => first | omega | decide))
    | dsimp only
  k_with "r_D7" => repeat (k_extra "s_D7")
  trivial
/-! ### the purse -/
def Purse (H : Hp) (p : Addr) : Prop := ∃ a b c : Int, H p = some (.lst [.int a, .int b, .int c]) ∧ 0 ≤ b ∧ b < 2147483629
theorem Purse.mono {H H' : Hp} {p : Addr} (S : Same H H') (h : Purse H p) : Purse H' p := let ⟨a, b, c, e, h⟩ := h; ⟨a, b, c, S _ _ e, h⟩
def spDraw : Sp := fun vs H Q _ => ∃ (p : Addr) (m : Int), vs = [.ref p, .int m] ∧ Purse H p ∧ 0 < m ∧ m < 1073741824 ∧ ∀ n H', 0 ≤ n → n < m → Purse H' p → But p H H' → Q (.int n) H'
structure TxtL (K : PySem.W.Frag) (mg : Str → Option Value) : Prop where
  n_range : mg "range" = none
  n_sum : mg "sum" = none
  d__law_purse : Df K mg "_law_purse" s__law_purse ["_law_script", "_law_at"]
  d__law_draw : Df K mg "_law_draw" s__law_draw ["_law_purse_here", "_law_many"]
section
variable {P : Program} {w : World} {K : PySem.W.Frag} {mg : Str → Option Value} {base : Heap}
theorem ok__law_draw (L : TxtL K mg) : Cal P w K mg base 1 "_law_draw" spDraw := by
  refine L.d__law_draw.cal sc__law_draw (fun vs H Q E h => ?_) (fun f cdv A outer s H vs Q E hr h => ?_)
  · obtain ⟨p, m, rfl, _⟩ := h
    rfl
  · obtain ⟨p, m, rfl, ⟨a, b, c, hp, b0, b1⟩, m0, m1, k⟩ := h
    refine ⟨_, (pss_cons (ps_if (pt_cmpR op_gtI (pe_ix ix_seq (pv 0) pe_int (fun _ _ => rfl)) pe_int (by rfl)) (pss_cons (ps_set (i := 2) sc__law_draw.nd rfl (.inl rfl) (pe_op op_modU (pe_ix ix_seq (pv 0) pe_int (fun _ _ => rfl)) (pv 1)))
        (pss_cons (ps_asg (pe_op op_fdivU (pe_ix ix_seq (pv 0) pe_int (fun _ _ => rfl)) (pv 1)) (pg_sub (pv 0) pe_int set_list))
        (pss_one (ps_ret (pv 2))))) pss_nil)
      (pss_cons (ps_asg (pe_op op_addU (pe_ix ix_seq (pv 0) pe_int (fun _ _ => rfl)) pe_int) (pg_sub (pv 0) pe_int set_list))
      (pss_cons (ps_set (i := 3) sc__law_draw.nd rfl (.inl rfl) (pe_op op_modU (pe_op op_addU (pe_op op_addU (pe_op op_mulU (pe_ix ix_seq (pv 0) pe_int (fun _ _ => rfl)) pe_int) (pe_op op_mulU (pe_ix ix_seq (pv 0) pe_int (fun _ _ => rfl)) pe_int)) pe_int) pe_int))
      (pss_cons (ps_set (i := 3) sc__law_draw.nd rfl (.inl rfl) (pe_op op_modU (pe_op op_addU (pe_op op_mulU (pv 3) (pv 3)) (pe_ix ix_seq (pv 0) pe_int (fun _ _ => rfl))) pe_int))
      (pss_cons (ps_set (i := 3) sc__law_draw.nd rfl (.inl rfl) (pe_op op_modU (pe_op op_addU (pe_op op_mulU (pv 3) (pv 3)) pe_int) pe_int))
      (pss_one (ps_ret (pe_op op_modU (pe_op op_fdivU (pv 3) pe_int) (pv 1))))))))), ?_⟩
    k_extra "r_D7"
    refine q_ixL (SqL.of hp) (at_of (j := 0) rfl rfl) ?_
    k_extra "r_D7"
    refine s_ifD (fun c0 => ?_) (fun c0 => ?_)
    · k_extra "r_D7"
      refine q_ixL (SqL.of hp) (at_of (j := 0) rfl rfl) ?_
      k_extra "r_D7"
      refine q_ixL (SqL.of hp) (at_of (j := 0) rfl rfl) ?_
      k_extra "r_D7"
      refine q_setL hp rfl ?_
      k_extra "r_D7"
      exact k _ _ (Int.emod_nonneg _ (by omega)) (Int.emod_lt_of_pos _ m0) ⟨_, _, _, upd_same, b0, b1⟩ But.upd
    · k_extra "r_D7"
      refine q_ixL (SqL.of hp) (at_of (j := 2) rfl rfl) ?_
      k_extra "r_D7"
      refine q_setL hp rfl ?_
      have hp2 : (upd H p (.lst ([V.int a, V.int b, V.int c].set 2 (.int (c + 1))))) p = some (.lst [.int a, .int b, .int (c + 1)]) := upd_same
      k_extra "r_D7"
      refine q_ixL (SqL.of hp2) (at_of (j := 1) rfl rfl) ?_
      k_extra "r_D7"
      refine q_ixL (SqL.of hp2) (at_of (j := 2) rfl rfl) ?_
      k_extra "r_D7"
      have g1 := Int.emod_nonneg (b * 48271 + (c + 1) * 1299709 + 907) (show (2147483629 : Int) ≠ 0 by decide)
      have g2 := Int.emod_lt_of_pos (b * 48271 + (c + 1) * 1299709 + 907) (show (0 : Int) < 2147483629 by decide)
      generalize (b * 48271 + (c + 1) * 1299709 + 907) % 2147483629 = x1 at g1 g2 ⊢
      k_extra "r_D7"
      refine q_ixL (SqL.of hp2) (at_of (j := 2) rfl rfl) ?_
      k_extra "r_D7"
      have g3 := Int.emod_nonneg (x1 * x1 + (c + 1)) (show (2147483587 : Int) ≠ 0 by decide)
      have g4 := Int.emod_lt_of_pos (x1 * x1 + (c + 1)) (show (0 : Int) < 2147483587 by decide)
      generalize (x1 * x1 + (c + 1)) % 2147483587 = x2 at g3 g4 ⊢
      k_extra "r_D7"
      exact k _ _ (Int.emod_nonneg _ (by omega)) (Int.emod_lt_of_pos _ m0) ⟨_, _, _, hp2, b0, b1⟩ But.upd
theorem cutV_ints {ns : List Int} {lo hi : Option Int} : ∃ ms : List Int, cutV (ns.map V.int) lo hi = ms.map V.int := ⟨_, by unfold cutV; rw [← List.map_drop, ← List.map_take]⟩
theorem big_pos : (0 : Int) < ((10 : Int) ^ (60 : Int).toNat) ^ (10 : Int).toNat := Int.pow_pos (Int.pow_pos (by decide))
def spPurse (K : PySem.W.Frag) : Sp := fun vs H Q _ => ∃ (a : Addr) (ns : List Int) (k : Int), vs = [.ref a, .int k] ∧ SqL K H a (ns.map V.int) ∧ 0 ≤ k ∧ k < 1000 ∧ ∀ p H', H p = none → Same H H' → Purse H' p → Q (.ref p) H'
theorem ok__law_purse (T : Txt K mg) (L : TxtL K mg) : Cal P w K mg base 1 "_law_purse" (spPurse K) := by
  refine L.d__law_purse.cal sc__law_purse (fun vs H Q E h => ?_) (fun f cdv A outer s H vs Q E hr h => ?_)
  · obtain ⟨a, ns, k, rfl, _⟩ := h
    rfl
  · obtain ⟨a, ns, at_, rfl, hs, k0, k1, k⟩ := h
    refine ⟨_, (pss_cons (ps_set (i := 2) sc__law_purse.nd rfl (.inl rfl) (pe_callTy call_int1 (by rfl) T.n_int (by decide +kernel) (pa_cons (pe_callB (cr_sum rfl) (by rfl) L.n_sum (by decide +kernel) (pa_cons (pe_slice sl_list (pv 0) (po_some (pv 1)) (po_some (pe_op op_addU (pv 1) pe_int))) pa_nil)) pa_nil)))
      (pss_one (ps_ret (pe_lst (pa_cons (pe_op op_mulU (pe_callTy call_int1 (by rfl) T.n_int (by decide +kernel) (pa_cons (pe_cmpR op_geI (pv 2) (pe_op op_powW pe_int pe_int) (by rfl)) pa_nil)) (pe_op op_modU (pv 2) (pe_op op_powW (pe_op op_powW pe_int pe_int) pe_int))) (pa_cons (pe_op op_modU (pv 2) pe_int) (pa_cons (pe_op op_mulU pe_int (pv 1)) pa_nil))))))), ?_⟩
    k_extra "r_D7"
    refine ⟨a, _, rfl, hs, fun l hl => ?_⟩
    obtain ⟨ms, em⟩ := cutV_ints (ns := ns) (lo := some at_) (hi := some (at_ + 1))
    rw [em]
    k_extra "r_D7"
    refine ⟨l, ms, rfl, SqL.of upd_same, ?_⟩
    k_extra "r_D7"
    refine .inl ⟨_, rfl, ?_⟩
    k_extra "r_D7"
    refine ⟨_, _, rfl, rfl, ⟨by decide, by decide +kernel⟩, ?_⟩
    k_extra "r_D7"
    refine .inr ⟨_, rfl, ?_⟩
    k_extra "r_D7"
    refine ⟨_, _, rfl, rfl, ⟨by decide, by decide +kernel⟩, ?_⟩
    k_extra "r_D7"
    refine ⟨_, _, rfl, rfl, ⟨by decide, by decide +kernel⟩, ?_⟩
    refine q_mod big_pos ?_
    refine q_mulL ?_ ?_
    · split <;> decide
    k_extra "r_D7"
    refine ⟨by show 3 ≤ sizeLine; decide, fun p np => ?_⟩
    refine k p _ (by rw [upd_ne (fun e => by rw [e, upd_same] at np; cases np)] at np; exact np) (fun b o e => ?_) ⟨_, _, _, upd_same, Int.emod_nonneg _ (by decide), Int.emod_lt_of_pos _ (by decide)⟩
    exact Same.new np _ _ (Same.new hl _ _ e)
/-! ### the form's draw -/
def spForm : Sp := fun vs H Q _ => ∃ (p : Addr), vs = [.ref p] ∧ Purse H p ∧ ∀ t H' z c, H t = none → H' t = some (.tup [.str z, .int c]) → Letters z → 1 ≤ c → c ≤ 1000 → Purse H' p → But p H H' → Q (.ref t) H'
end
end Bt
namespace Bt
open PySem PySem.Spec PyProof.Rows L2
theorem words6_ : True := by
  k_with "s_N7" => first
    | ((with_reducible refine' s_var ?hv ?_); (case hv => exact rfl))
    | with_reducible first
      | refine' s_c ?_ | refine' s_op ?_ | refine' s_asg ?_ | refine' s_gname ?_ | refine' s_seq ?_ | refine' s_next ?_ | refine' s_ret ?_ | refine' s_ifS ?_ | refine' s_drop ?_ | refine' s_retN ?_
      | refine' s_test ?_ | refine' s_B ?_ | refine' q_test ?_ | refine' s_int ?_ | refine' s_cons ?_ | refine' s_nil ?_ | refine' s_call ?_ | refine' s_CB ?_ | refine' s_andT ?_ | refine' s_orT ?_ | refine' s_notT ?_
      | refine' s_andV ?_ | refine' s_orV ?_ | refine' s_notV ?_ | refine' s_ifV ?_ | refine' s_chain ?_ | refine' s_sl ?_ | refine' s_noPart ?_ | refine' s_part ?_ | refine' s_gsub ?_ | refine' s_BM ?_ | refine' s_tup ?_ | refine' s_lst ?_
      | refine' q_add ?_ | refine' q_sub ?_ | refine' q_lt ?_ | refine' q_le ?_ | refine' q_gt ?_ | refine' q_ge ?_ | refine' s_ifT ?_ | refine' s_ifF ?_ | refine' s_yes ?_ | refine' s_iStr ?_ | refine' s_M0 ?_ | refine' s_make ?_ | refine' s_makeS ?_ | refine' s_prop ?_ | refine' s_raise1 ?_ | refine' s_for ?_ | refine' s_rng1 ?_ | refine' s_par ?_ | refine' s_gcons ?_ | refine' s_gnil ?_ | refine' s_iList ?_ | refine' s_iEnum ?_
      | (refine' q_mod ?hm ?_; (case hm => first | omega | decide)) | (refine' q_fdiv ?hm ?hn ?_; (case hm => first | omega | decide); (case hn => first | omega | decide))
      | (refine' q_mulR ?hm ?_; (case hm => first | omega | decide)) | (refine' q_mulL ?hm ?_; (case hm => first | omega | decide))
    | dsimp only
  k_with "r_N7" => repeat (k_extra "s_N7")
  trivial
/-! ### names -/
def Nm (z : Str) : Prop := 1 ≤ z.length ∧ z.length ≤ 8 ∧ ∀ c ∈ z.cps.toList, c ∈ alpha
theorem Nm.asc {z : Str} (h : Nm z) : Asc z := fun c hc => by
  have := mem_alpha.mp (h.2.2 c hc)
  omega
theorem Nm.sz {z : Str} (h : Nm z) : z.length ≤ sizeLine := Bt.sz (by have := h.2.1; omega)
def NmV (x : V) : Prop := ∃ z, x = .str z ∧ Nm z
structure TxtN (K : PySem.W.Frag) (mg : Str → Option Value) : Prop where
  n_len : mg "len" = none
  n_all : mg "all" = none
  v_LONGEST_NAME : ∃ t, mg "LONGEST_NAME" = some (.int 8 t)
  d_is_name : Df K mg "is_name" s_is_name ["value"]
  d__law_name : Df K mg "_law_name" s__law_name ["_law_purse_here"]
  d__law_names : Df K mg "_law_names" s__law_names ["_law_purse_here", "_law_many"]
section
variable {P : Program} {w : World} {K : PySem.W.Frag} {mg : Str → Option Value} {base : Heap}
theorem s_ifND {p : Prop} {inst : Decidable p} {A B : Prop} (h : p → B) (h' : ¬ p → A) : if (!@decide p inst) = true then A else B := by
  by_cases c : p
  · rw [decide_eq_true c]; exact h c
  · rw [decide_eq_false c]; exact h' c
theorem take_all (z : Str) : z.cps.toList.take z.cps.size = z.cps.toList := List.take_of_length_le (by rw [Array.length_toList]; exact Nat.le_refl _)
def rLenS : List V → Hp → VK → Prop := fun xs H Q => ∃ z, xs = [.str z] ∧ z.length ≤ sizeLine ∧ Q (.int z.length) H
theorem call_lenS {X : Cx} : CallR X (.builtin "len") rLenS := call_len_str
theorem q_lenS {H : Hp} {Q : VK} {z : Str} (h : z.length ≤ sizeLine) (q : Q (.int z.length) H) : rLenS [.str z] H Q := ⟨z, rfl, h, q⟩
def rInC : R2 := fun x y H Q => ∃ (c : Nat) (z : Str), x = .str ⟨#[c]⟩ ∧ y = .str z ∧ Q (.bl (decide (c ∈ z.cps.toList))) H
theorem op_inC {X : Cx} : OpR X (compareOp .In) rInC := op_in_sign
theorem q_inC {H : Hp} {Q : VK} {c : Nat} {z : Str} (q : Q (.bl (decide (c ∈ z.cps.toList))) H) : rInC (.str ⟨#[c]⟩) (.str z) H Q := ⟨c, z, rfl, rfl, q⟩
def rAllB (K : PySem.W.Frag) : List V → Hp → VK → Prop := fun vs H Q => ∃ (a : Addr) (bs : List Bool), vs = [V.ref a] ∧ SqL K H a (bs.map V.bl) ∧ Q (.bl (bs.all id)) H
theorem call_allB {X : Cx} (hc : X.calm = true) : CallR X (.builtin "all") (rAllB X.K) := cr_all hc
theorem q_allB {H : Hp} {Q : VK} {a : Addr} {bs : List Bool} (h : SqL K H a (bs.map V.bl)) (q : Q (.bl (bs.all id)) H) : rAllB K [.ref a] H Q := ⟨a, bs, rfl, h, q⟩
def spName (K : PySem.W.Frag) : Sp := fun vs H Q _ => ∃ x T, vs = [x] ∧ Pl K H x T ∧ (∀ z, x = .str z → z.length < 64) ∧ (¬ NmV x → ∀ H', Same H H' → Q (.bl false) H') ∧ (NmV x → ∀ H', Same H H' → Q (.bl true) H')
theorem ok_is_name (T : Txt K mg) (N : TxtN K mg) : Cal P w K mg base 1 "is_name" (spName K) := by
  refine N.d_is_name.cal sc_is_name (fun vs H Q E h => ?_) (fun f cdv A outer s H vs Q E hr h => ?_)
  · obtain ⟨x, T, rfl, _⟩ := h
    rfl
  · obtain ⟨x, ty, rfl, hx, hz, kN, kY⟩ := h
    refine ⟨_, (pss_cons (ps_if (pt_not (PW.pt (pw_and (pt_val (pe_callB call_isi (by rfl) T.n_isinstance (by decide +kernel) (pa_cons (pv 0) (pa_cons (pe_bltn (v := .ty "str") (by rfl) T.n_str (by decide +kernel) rfl) pa_nil)))) (pw_and1 (pt_chain op_leI op_leI pe_int (pe_callB call_lenS (by rfl) N.n_len (by decide +kernel) (pa_cons (pv 0) pa_nil)) (pe_glob (v := .int 8) (by rfl) N.v_LONGEST_NAME.choose_spec ⟨_, rfl⟩)))))) (pss_one (ps_ret pe_bl)) pss_nil)
      (pss_one (ps_ret (pe_callB (call_allB rfl) (by rfl) N.n_all (by decide +kernel) (pa_cons (pe_lc (own := [("letter", 1)]) (g := gName 1) (tt := tYes) rfl sc_is_name.nd (pi_str (pv 0)) (blkOk_by (own := [("letter", 1)]) (N := ["value", "letter"]) (sc := defScope s_is_name) (by decide +kernel)) (fun _ _ _ _ _ => pg_name (i := 1) sc_is_name.nd rfl (Or.inl rfl)) (fun _ _ _ _ _ => pts_nil) (fun _ _ _ _ _ => (pe_cmpR op_inC (pv 1) (pe_glob (v := .str alphaS) (by rfl) T.v_LETTERS.choose_spec ⟨_, rfl⟩) (by rfl)))) pa_nil))))), ?_⟩
    k_extra "r_N7"
    refine q_isi hx .str ?_
    by_cases e : ty = "str"
    · obtain ⟨z, rfl⟩ := hx.of_str e
      have h64 := hz z rfl
      have hs : z.length ≤ sizeLine := Bt.sz (by omega)
      subst e
      k_extra "r_N7"
      refine s_if1 rfl ?_
      k_extra "r_N7"
      refine q_lenS hs ?_
      k_extra "r_N7"
      have inv : Nm z → z.length ≥ 1 ∧ z.length ≤ 8 := fun h => ⟨h.1, h.2.1⟩
      refine s_ifD (fun c1 => ?_) (fun c1 => ?_)
      · k_extra "r_N7"
        refine s_ifND (fun c2 => ?_) (fun c2 => ?_)
        · k_extra "r_N7"
          refine s_lc ?_
          k_extra "r_N7"
          refine ⟨z, rfl, fun D nD => lc_str (z := z) (fun i H' => Same H H' ∧ H' D = some (.lst (((z.cps.toList.take i).map fun c => decide (c ∈ alphaS.cps.toList)).map V.bl))) ⟨Same.new nD, upd_same⟩ ?_ ?_⟩
          · rintro j d H' hj ⟨S', hD⟩
            k_extra "r_N7"
            refine ⟨rfl, ?_⟩
            k_extra "r_N7"
            refine q_inC ⟨_, hD, ?_, same_mut S' nD, ?_⟩
            · rw [List.length_map, List.length_map, List.length_take]
              exact szlt (by have := (List.getElem?_eq_some_iff.mp hj).1; rw [← len_cps] at this; omega)
            · rw [upd_same, take_map_more hj, List.map_append]
              rfl
          · rintro H2 ⟨S2, h2⟩
            rw [take_all] at h2
            k_extra "r_N7"
            refine q_allB (SqL.of h2) ?_
            by_cases v : Nm z
            · rw [show (List.all _ id : Bool) = true from ?_]
              · exact kY ⟨z, rfl, v⟩ _ S2
              · rw [List.all_map, List.all_eq_true]
                intro c hc
                show decide _ = true
                rw [alphaS_cps]
                exact decide_eq_true (v.2.2 c hc)
            · rw [show (List.all _ id : Bool) = false from ?_]
              · exact kN (fun u => by obtain ⟨_, e, u⟩ := u; cases e; exact v u) _ S2
              · rw [Bool.eq_false_iff]
                intro hall
                rw [List.all_map, List.all_eq_true] at hall
                refine v ⟨by omega, by omega, fun c hc => ?_⟩
                have := of_decide_eq_true (show decide _ = true from hall c hc)
                rw [alphaS_cps] at this
                exact this
        · k_extra "r_N7"
          exact kN (fun v => by obtain ⟨_, e, v⟩ := v; cases e; have := v.2.1; omega) _ (Same.refl H)
      · k_extra "r_N7"
        exact kN (fun v => by obtain ⟨_, e, v⟩ := v; cases e; have := v.1; omega) _ (Same.refl H)
    · have e2 : subKd ty "str" = false := by
        cases hx.2 <;> first | rfl | exact absurd rfl e
      rw [e2]
      k_extra "r_N7"
      refine kN (fun v => ?_) H (Same.refl H)
      obtain ⟨z, ez, _⟩ := v
      subst ez
      exact absurd hx.is_str e
def AlC (z : Str) : Prop := ∀ c ∈ z.cps.toList, c ∈ alpha
def spName1 : Sp := fun vs H Q _ => ∃ p, vs = [.ref p] ∧ Purse H p ∧ ∀ z H', Nm z → Purse H' p → But p H H' → Q (.str z) H'
theorem ok__law_name (L : TxtL K mg) (N : TxtN K mg) : Cal P w K mg base 2 "_law_name" spName1 := by
  refine N.d__law_name.cal sc__law_name (fun vs H Q E h => ?_) (fun f cdv A outer s H vs Q E hr h => ?_)
  · obtain ⟨p, rfl, _⟩ := h
    rfl
  · obtain ⟨p, rfl, hp, k⟩ := h
    refine ⟨_, (pss_cons (ps_set (i := 1) sc__law_name.nd rfl (.inl rfl) pe_str)
      (pss_cons (ps_for PassesOwn.never rfl (pi_range1 rfl L.n_range (pa_cons (pe_op op_addU pe_int (pe_c (ok__law_draw L) hr (by decide) rfl (pa_cons (pv 0) (pa_cons pe_int pa_nil)))) pa_nil)) (pg_name (i := 2) sc__law_name.nd rfl (.inl rfl))
        (pss_one (ps_set (i := 1) sc__law_name.nd rfl (.inl rfl) (pe_op op_addU (pv 1) (pe_ix ix_seq pe_str (pe_c (ok__law_draw L) hr (by decide) rfl (pa_cons (pv 0) (pa_cons pe_int pa_nil))) (fun _ _ => rfl))))))
      (pss_one (ps_ret (pv 1))))), ?_⟩
    k_extra "r_N7"
    refine ⟨p, 8, rfl, hp, by decide, by decide, fun n H1 n0 n1 p1 b1 => ?_⟩
    k_extra "r_N7"
    refine ⟨_, rfl, by omega, by omega, q_forR (fun i σ H2 => ∃ z v, σ = [some (.ref p), some (.str z), v] ∧ z.length = i ∧ AlC z ∧ Purse H2 p ∧ But p H H2) ⟨_, none, rfl, rfl, (fun c hc => by cases hc), p1, b1⟩ ?_ ?_⟩
    · rintro i σ H2 hi ⟨z, v, rfl, hz, az, p2, b2⟩
      k_extra "r_N7"
      refine ⟨p, 26, rfl, p2, by decide, by decide, fun m H3 m0 m1 p3 b3 => ?_⟩
      obtain ⟨j, rfl⟩ : ∃ j : Nat, m = j := ⟨m.toNat, by omega⟩
      have hj : j < 26 := by omega
      have ej : alphaS.cps.toList[j]? = some (97 + j) := by
        rw [alphaS_cps]
        unfold alpha
        rw [List.getElem?_map, List.getElem?_range hj]
        rfl
      refine q_ixS (by show alphaS.length ≤ sizeLine; exact Bt.sz (by decide)) (atI_nat ej) ?_
      refine q_addS (Bt.sz (by rw [hz]; show i + 1 ≤ 100000; omega)) ?_
      k_extra "r_N7"
      refine ⟨_, _, rfl, ?_, ?_, p3, b2.trans b3⟩
      · rw [app_len, hz]
        rfl
      · intro c hc
        rw [app_cps, List.mem_append] at hc
        rcases hc with hc | hc
        · exact az c hc
        · have ec : c = 97 + j := by simpa using hc
          exact mem_alpha.mpr (by omega)
    · rintro σ H2 ⟨z, v, rfl, hz, az, p2, b2⟩
      k_extra "r_N7"
      exact k z H2 ⟨by omega, by omega, az⟩ p2 b2
theorem eqv_strs (xs ys : List Str) : PyData.eqv (.list (xs.map .str)) (.list (ys.map .str)) = decide (xs = ys) := by
  rw [← eqvAll_strs]
  simp only [PyData.eqv]
theorem inV_strs (z : Str) (zs : List Str) : inV (.str z) (zs.map V.str) = decide (z ∈ zs) := by
  unfold inV
  rw [List.any_map, Bool.eq_iff_iff, List.any_eq_true, decide_eq_true_iff]
  constructor
  · rintro ⟨y, hy, e⟩
    have e2 : (y == z) = true := e
    rw [← eq_of_beq e2]
    exact hy
  · intro h
    exact ⟨z, h, (beq_self_eq_true z : (z == z) = true)⟩
theorem flat_strs (zs : List Str) : (zs.map V.str).all flatV = true := by
  rw [List.all_map, List.all_eq_true]
  exact fun _ _ => rfl
theorem q_notinStrs {H : Hp} {Q : VK} {l : Addr} {z : Str} {zs : List Str} (h : H l = some (.lst (zs.map V.str))) (q : Q (.bl (!decide (z ∈ zs))) H) : rIn K true (.str z) (.ref l) H Q :=
  ⟨l, _, rfl, .inl (SqL.of h), rfl, flat_strs zs, by rw [inV_strs]; exact q⟩
theorem atI_last {α : Type} (xs : List α) (x : α) : atI (xs ++ [x]) (-1) = some x := by
  unfold atI
  have e : ixN (xs ++ [x]).length (-1) = some xs.length := by
    rw [List.length_append]
    unfold ixN
    rw [if_neg (by decide), if_pos (by show (-(((xs.length + 1 : Nat)) : Int)) ≤ -1; omega)]
    congr 1
    show (-1 + (((xs.length + 1 : Nat)) : Int)).toNat = xs.length
    omega
  rw [e]
  simp
def spNames : Sp := fun vs H Q _ => ∃ (p : Addr) (m : Nat), vs = [.ref p, .int m] ∧ Purse H p ∧ m ≤ 1000 ∧
  ∀ l H' zs, H l = none → H' l = some (.lst (zs.map V.str)) → (∀ z ∈ zs, Nm z) → zs.Nodup → zs.length ≤ m → (1 ≤ m → zs ≠ []) → Purse H' p → But p H H' → Q (.ref l) H'
theorem ok__law_names (L : TxtL K mg) (N : TxtN K mg) : Cal P w K mg base 3 "_law_names" spNames := by
  refine N.d__law_names.cal sc__law_names (fun vs H Q E h => ?_) (fun f cdv A outer s H vs Q E hr h => ?_)
  · obtain ⟨p, m, rfl, _⟩ := h
    rfl
  · obtain ⟨p, m, rfl, hp, hm, k⟩ := h
    have hu := hr.units
    refine ⟨_, (pss_cons (ps_set (i := 2) sc__law_names.nd rfl (.inl rfl) (pe_lst pa_nil))
      (pss_cons (ps_for PassesOwn.never rfl (pi_range1 rfl L.n_range (pa_cons (pv 1) pa_nil)) (pg_name (i := 3) sc__law_names.nd rfl (.inl rfl))
        (pss_cons (ps_set (i := 4) sc__law_names.nd rfl (.inl rfl) (pe_c (ok__law_name L N) hr (by decide) rfl (pa_cons (pv 0) pa_nil)))
          (C8.pss_cut (ps_if (PW.pt (pw_and (pt_cmpR (op_neU hu) (pv 2) (pe_lst pa_nil) (by rfl)) (pw_and1 (pt_cmpR (op_eqU hu) (pe_c (ok__law_draw L) hr (by decide) rfl (pa_cons (pv 0) (pa_cons pe_int pa_nil))) pe_int (by rfl))))) (pss_one (ps_set (i := 4) sc__law_names.nd rfl (.inl rfl) (pe_slice sl_str (pe_op op_addU (pe_ix ix_seq (pv 2) (pe_un un_neg pe_int) (fun _ _ => rfl)) (pv 4)) po_none (po_some (pe_op op_addU pe_int (pe_c (ok__law_draw L) hr (by decide) rfl (pa_cons (pv 0) (pa_cons pe_int pa_nil)))))))) pss_nil)
          (pss_one (ps_if (pt_cmpR op_notIn_seq (pv 4) (pv 2) (by rfl)) (pss_one (ps_expr (pe_bm PySem.F.plainAttrs_list PySem.F.slot_list_append PySem.F.type_list_append mt_append (pv 2) (pa_cons (pv 4) pa_nil)))) pss_nil)))))
      (pss_one (ps_ret (pv 2))))), ?_⟩
    k_extra "r_N7"
    refine q_newL (by show 0 ≤ sizeLine; decide) fun l H1 n1 S1 h1 => ?_
    k_extra "r_N7"
    have hlp : l ≠ p := by
      obtain ⟨_, _, _, e, _⟩ := hp
      exact fun z => by rw [z, e] at n1; cases n1
    refine ⟨_, rfl, by omega, by omega, q_forR (fun i σ H2 => ∃ zs v u, σ = [some (.ref p), some (.int m), some (.ref l), v, u] ∧ H2 l = some (.lst (zs.map V.str)) ∧ (∀ z ∈ zs, Nm z) ∧ zs.Nodup ∧ zs.length ≤ i ∧ (1 ≤ i → zs ≠ []) ∧ Purse H2 p ∧ But p H H2)
      ⟨[], none, none, rfl, h1, (fun z hz => by cases hz), .nil, Nat.le_refl _, (fun z => absurd z (by decide)), hp.mono S1, But.of S1⟩ ?_ ?_⟩
    · rintro i σ H2 hi ⟨zs, v, u, rfl, h2, nz, nd, hl, hne, p2, b2⟩
      k_extra "r_N7"
      refine ⟨p, rfl, p2, fun z H3 hz p3 b3 => ?_⟩
      have h3 := b3 _ _ hlp h2
      k_extra "r_N7"
      refine ⟨fun σ H4 => ∃ z v, σ = [some (.ref p), some (.int m), some (.ref l), v, some (.str z)] ∧ Nm z ∧ H4 l = some (.lst (zs.map V.str)) ∧ Purse H4 p ∧ But p H H4, ?_, ?_⟩
      · k_extra "r_N7"
        refine q_newL (by show 0 ≤ sizeLine; decide) fun l0 H4 n4 S4 h4 => ?_
        refine q_neD (dp_lst_strs (S4 _ _ h3)) (dp_lst_strs (ys := []) h4) (shaped_strs fun y hy => (nz y hy).asc) (shaped_strs fun y hy => by cases hy) ?_
        rw [eqv_strs]
        k_extra "r_N7"
        refine s_ifND (fun c => ?_) (fun c => ?_)
        · k_extra "r_N7"
          exact ⟨z, _, rfl, hz, S4 _ _ h3, p3.mono S4, b2.trans (b3.trans (But.of S4))⟩
        · k_extra "r_N7"
          refine ⟨p, 3, rfl, p3.mono S4, by decide, by decide, fun n5 H5 n50 n51 p5 b5 => ?_⟩
          refine q_eq rfl ?_
          k_extra "r_N7"
          refine s_if (fun _ => ?_) (fun _ => ?_)
          · k_extra "r_N7"
            obtain ⟨zs0, y, rfl⟩ : ∃ zs0 y, zs = zs0 ++ [y] := ⟨zs.dropLast, zs.getLast c, (List.dropLast_concat_getLast c).symm⟩
            have ny := nz y (by simp)
            have h5 := b5 _ _ hlp (S4 _ _ h3)
            refine ⟨_, rfl, ?_⟩
            rw [List.map_append] at h5
            refine q_ixL (SqL.of h5) (atI_last _ _) ?_
            k_extra "r_N7"
            have hsum : (y ++ z).length ≤ 16 := by rw [app_len]; have := ny.2.1; have := hz.2.1; omega
            refine q_addS (by rw [← app_len]; exact Bt.sz (by omega)) ?_
            k_extra "r_N7"
            refine ⟨p, 8, rfl, p5, by decide, by decide, fun n6 H6 n60 n61 p6 b6 => ?_⟩
            k_extra "r_N7"
            refine ⟨_, rfl, Bt.sz (by omega), ?_⟩
            k_extra "r_N7"
            have ecut : (cutS (y ++ z) none (some (1 + n6))).cps.toList = (y ++ z).cps.toList.take (1 + n6).toNat := cut_to (by omega)
            refine ⟨_, _, rfl, ⟨?_, ?_, fun c2 hc2 => ?_⟩, ?_, p6, ?_⟩
            · rw [len_cps, ecut, List.length_take, ← len_cps, app_len]
              have := ny.1
              omega
            · rw [len_cps, ecut, List.length_take]
              omega
            · rw [ecut] at hc2
              have hc3 := List.mem_of_mem_take hc2
              rw [app_cps, List.mem_append] at hc3
              rcases hc3 with hc3 | hc3
              · exact ny.2.2 _ hc3
              · exact hz.2.2 _ hc3
            · rw [List.map_append]
              exact b6 _ _ hlp h5
            · exact b2.trans (b3.trans ((But.of S4).trans (b5.trans b6)))
          · k_extra "r_N7"
            exact ⟨z, _, rfl, hz, b5 _ _ hlp (S4 _ _ h3), p5, b2.trans (b3.trans ((But.of S4).trans b5))⟩
      · rintro σ H4 ⟨z4, v4, rfl, hz4, h4, p4, b4⟩
        k_extra "r_N7"
        refine q_notinStrs h4 ?_
        k_extra "r_N7"
        refine s_ifND (fun c => ?_) (fun c => ?_)
        · k_extra "r_N7"
          exact ⟨zs, _, _, rfl, h4, nz, nd, by omega, (fun _ e => by rw [e] at c; cases c), p4, b4⟩
        · k_extra "r_N7"
          refine ⟨.inl ⟨rfl, _, SqL.of h4⟩, ?_⟩
          k_extra "r_N7"
          refine q_append h4 (by rw [List.length_map]; exact szlt (by omega)) fun H5 b5 h5 => ?_
          k_extra "r_N7"
          have h5' : H5 l = some (.lst ((zs ++ [z4]).map V.str)) := by rw [h5, List.map_append]; rfl
          refine ⟨zs ++ [z4], _, _, rfl, h5', fun y hy => ?_, ?_, by rw [List.length_append]; show zs.length + 1 ≤ i + 1; omega, (fun _ e => by simp at e), ?_, ?_⟩
          · rcases List.mem_append.mp hy with hy | hy
            · exact nz y hy
            · rw [List.mem_singleton.mp hy]; exact hz4
          · refine List.nodup_append.mpr ⟨nd, by simp, fun a ha b hb e => ?_⟩
            rw [List.mem_singleton.mp hb] at e
            exact c (e ▸ ha)
          · obtain ⟨a, b, c, e, h⟩ := p4
            exact ⟨a, b, c, b5 _ _ hlp.symm e, h⟩
          · exact fun b o hb e => b5 b o (fun z => by rw [z] at e; rw [e] at n1; cases n1) (b4 b o hb e)
    · rintro σ H2 ⟨zs, v, u, rfl, h2, nz, nd, hl, hne, p2, b2⟩
      k_extra "r_N7"
      exact k l H2 zs n1 h2 nz nd hl hne p2 b2
end
end Bt
namespace Bt
open PySem PySem.Spec PyProof.Rows L2
theorem words8_ : True := by
  k_with "s_S7" => first
    | ((with_reducible refine' s_var ?hv ?_); (case hv => exact rfl))
    | with_reducible first
      | refine' s_c ?_ | refine' s_op ?_ | refine' s_asg ?_ | refine' s_gname ?_ | refine' s_seq ?_ | refine' s_next ?_ | refine' s_ret ?_ | refine' s_ifS ?_ | refine' s_drop ?_ | refine' s_retN ?_
      | refine' s_test ?_ | refine' s_B ?_ | refine' q_test ?_ | refine' s_int ?_ | refine' s_cons ?_ | refine' s_nil ?_ | refine' s_call ?_ | refine' s_CB ?_ | refine' s_andT ?_ | refine' s_orT ?_ | refine' s_notT ?_
      | refine' s_andV ?_ | refine' s_orV ?_ | refine' s_notV ?_ | refine' s_ifV ?_ | refine' s_chain ?_ | refine' s_sl ?_ | refine' s_noPart ?_ | refine' s_part ?_ | refine' s_gsub ?_ | refine' s_BM ?_ | refine' s_tup ?_ | refine' s_lst ?_
      | refine' q_add ?_ | refine' q_sub ?_ | refine' q_lt ?_ | refine' q_le ?_ | refine' q_gt ?_ | refine' q_ge ?_ | refine' s_ifT ?_ | refine' s_ifF ?_ | refine' s_yes ?_ | refine' s_prop ?_ | refine' s_iList ?_ | refine' s_iStr ?_ | refine' s_M0 ?_ | refine' s_make ?_ | refine' s_makeS ?_ | refine' s_prop ?_ | refine' s_raise1 ?_ | refine' s_for ?_ | refine' s_rng1 ?_ | refine' s_par ?_ | refine' s_gcons ?_ | refine' s_gnil ?_ | refine' s_iList ?_ | refine' s_iEnum ?_
      | (refine' q_mod ?hm ?_; (case hm => first | omega | decide)) | (refine' q_fdiv ?hm ?hn ?_; (case hm => first | omega | decide); (case hn => first | omega | decide))
      | (refine' q_mulR ?hm ?_; (case hm => first | omega | decide)) | (refine' q_mulL ?hm ?_; (case hm => first | omega | decide))
    | dsimp only
  k_with "r_S7" => repeat (k_extra "s_S7")
  trivial
/-! ### lists of names -/
open Classical in
noncomputable def nmB (x : V) : Bool := decide (NmV x)
theorem nmB_t {x : V} (h : NmV x) : nmB x = true := by unfold nmB; simp [h]
theorem nmB_f {x : V} (h : ¬ NmV x) : nmB x = false := by unfold nmB; simp [h]
def NameArg (K : PySem.W.Frag) (H : Hp) (y : V) : Prop := ∃ T, Pl K H y T ∧ ∀ z, y = .str z → z.length < 64
theorem NameArg.mono {K : PySem.W.Frag} {H H' : Hp} {y : V} (S : Same H H') (h : NameArg K H y) : NameArg K H' y := let ⟨T, a, b⟩ := h; ⟨T, a.mono S, b⟩
structure TxtS (K : PySem.W.Frag) (mg : Str → Option Value) : Prop where
  n_list : mg "list" = none
  d_is_name_list : Df K mg "is_name_list" s_is_name_list ["value"]
section
variable {P : Program} {w : World} {K : PySem.W.Frag} {mg : Str → Option Value} {base : Heap}
def spNameList (K : PySem.W.Frag) : Sp := fun vs H Q _ => ∃ x T, vs = [x] ∧ Pl K H x T ∧ ((T ≠ "list" ∧ Q (.bl false) H) ∨ (T = "list" ∧ ∃ a xs, x = .ref a ∧ H a = some (.lst xs) ∧ xs.length ≤ 100 ∧ (∀ y ∈ xs, NameArg K H y) ∧ ∀ H', Same H H' → Q (.bl (xs.all nmB)) H'))
theorem ok_is_name_list (T : Txt K mg) (N : TxtN K mg) (TS : TxtS K mg) : Cal P w K mg base 2 "is_name_list" (spNameList K) := by
  refine TS.d_is_name_list.cal sc_is_name_list (fun vs H Q E h => ?_) (fun f cdv A outer s H vs Q E hr h => ?_)
  · obtain ⟨x, ty, rfl, _⟩ := h
    rfl
  · obtain ⟨x, ty, rfl, hx, k⟩ := h
    refine ⟨_, (pss_one (ps_ret (pe_and (pe_callB call_isi (by rfl) T.n_isinstance (by decide +kernel) (pa_cons (pv 0) (pa_cons (pe_bltn (v := .ty "list") (by rfl) TS.n_list (by decide +kernel) rfl) pa_nil))) (pe_one (pe_callB (call_allB rfl) (by rfl) N.n_all (by decide +kernel) (pa_cons (pe_lc (own := [("item", 1)]) (g := gName 1) (tt := tYes) (te := tCall (spName K) [] E0 (tCons (tVar 1) tNil)) rfl sc_is_name_list.nd (pi_list (pv 0)) (blkOk_by (own := [("item", 1)]) (N := ["value", "item"]) (sc := defScope s_is_name_list) (by decide +kernel)) (fun _ _ _ _ _ => pg_name (i := 1) sc_is_name_list.nd rfl (Or.inl rfl)) (fun _ _ _ _ _ => pts_nil) (fun _ _ _ _ _ => by exact (pe_c (ok_is_name T N) hr (by decide) rfl (pa_cons (pv 1) pa_nil)))) pa_nil)))))), ?_⟩
    k_extra "r_S7"
    refine q_isi hx .lst ?_
    rcases k with ⟨hn, k⟩ | ⟨e, a, xs, rfl, ha, hl, hy, k⟩
    · have e2 : subKd ty "list" = false := by
        cases hx.2 <;> first | rfl | exact absurd rfl hn
      rw [e2]
      k_extra "r_S7"
      exact k
    · subst e
      k_extra "r_S7"
      refine s_if1 rfl ?_
      k_extra "r_S7"
      refine s_lc ?_
      k_extra "r_S7"
      refine ⟨a, rfl, ⟨xs, SqL.of ha⟩, fun D nD => lc_list (K := K) (a := a) (xs := xs) (fun i H' => Same H H' ∧ H' D = some (.lst (((xs.take i).map nmB).map V.bl))) ⟨Same.new nD, upd_same⟩ (fun i H' _ h => SqL.of (h.1 _ _ ha)) ?_ ?_⟩
      · rintro j y H' hj ⟨S', hD⟩
        k_extra "r_S7"
        refine ⟨rfl, ?_⟩
        k_extra "r_S7"
        obtain ⟨ty, hp, h64⟩ := (hy y (List.mem_of_getElem? hj)).mono S'
        have hlen : (((xs.take j).map nmB).map V.bl).length < sizeLine := by
          rw [List.length_map, List.length_map, List.length_take]
          exact szlt (by omega)
        have htk : (((xs.take j).map nmB).map V.bl) ++ [V.bl (nmB y)] = ((xs.take (j + 1)).map nmB).map V.bl := by
          rw [take_map_more hj, List.map_append]
          rfl
        refine ⟨y, ty, rfl, hp, h64, fun hn H2 S2 => ?_, fun hn H2 S2 => ?_⟩
        · exact ⟨_, S2 _ _ hD, hlen, same_mut (S'.trans S2) nD, by rw [upd_same, ← htk, nmB_f hn]⟩
        · exact ⟨_, S2 _ _ hD, hlen, same_mut (S'.trans S2) nD, by rw [upd_same, ← htk, nmB_t hn]⟩
      · rintro H2 ⟨S2, h2⟩
        rw [List.take_length] at h2
        k_extra "r_S7"
        refine q_allB (SqL.of h2) ?_
        rw [List.all_map]
        exact k H2 S2
end
end Bt
namespace Bt
open PySem PySem.Spec PyProof.Rows L2 LamX NdefX
theorem words22_ : True := by
  k_with "s_I7" => first
    | ((with_reducible refine' s_var ?hv ?_); (case hv => exact rfl))
    | with_reducible first
      | refine' s_c ?_ | refine' s_op ?_ | refine' s_asg ?_ | refine' s_gname ?_ | refine' s_seq ?_ | refine' s_next ?_ | refine' s_ret ?_ | refine' s_ifS ?_ | refine' s_drop ?_ | refine' s_retN ?_
      | refine' s_test ?_ | refine' s_B ?_ | refine' q_test ?_ | refine' s_int ?_ | refine' s_cons ?_ | refine' s_nil ?_ | refine' s_call ?_ | refine' s_CB ?_ | refine' s_andT ?_ | refine' s_orT ?_ | refine' s_notT ?_
      | refine' s_andV ?_ | refine' s_orV ?_ | refine' s_notV ?_ | refine' s_ifV ?_ | refine' s_chain ?_ | refine' s_sl ?_ | refine' s_noPart ?_ | refine' s_part ?_ | refine' s_gsub ?_ | refine' s_BM ?_ | refine' s_tup ?_ | refine' s_lst ?_
      | refine' q_add ?_ | refine' q_sub ?_ | refine' q_lt ?_ | refine' q_le ?_ | refine' q_gt ?_ | refine' q_ge ?_ | refine' s_ifT ?_ | refine' s_ifF ?_ | refine' s_yes ?_ | refine' s_prop ?_ | refine' s_iList ?_ | refine' s_callOS ?_ | refine' s_iStr ?_ | refine' s_M0 ?_ | refine' s_make ?_ | refine' s_makeS ?_ | refine' s_ownL ?_ | refine' s_ownR ?_ | refine' s_callSD ?_ | refine' s_fld ?_ | refine' s_prop ?_ | refine' s_raise1 ?_ | refine' s_for ?_ | refine' s_rng1 ?_ | refine' s_par ?_ | refine' s_gcons ?_ | refine' s_gnil ?_ | refine' s_iList ?_ | refine' s_iEnum ?_
      | (refine' q_mod ?hm ?_; (case hm => first | omega | decide)) | (refine' q_fdiv ?hm ?hn ?_; (case hm => first | omega | decide); (case hn => first | omega | decide))
      | (refine' q_mulR ?hm ?_; (case hm => first | omega | decide)) | (refine' q_mulL ?hm ?_; (case hm => first | omega | decide))
    | dsimp only
  k_with "r_I7" => repeat (k_extra "s_I7")
  trivial
def rLenQ (K : PySem.W.Frag) : List V → Hp → VK → Prop := fun xs H Q => ∃ p ys, xs = [.ref p] ∧ (SqL K H p ys ∨ SqT K H p ys) ∧ Q (.int ys.length) H
theorem call_lenQ {X : Cx} : CallR X (.builtin "len") (rLenQ X.K) := call_len_seq
theorem q_lenT {K : PySem.W.Frag} {H : Hp} {Q : VK} {p : Addr} {ys : List V} (h : SqT K H p ys) (q : Q (.int ys.length) H) : rLenQ K [.ref p] H Q := ⟨p, ys, rfl, .inr h, q⟩
theorem q_lenL {K : PySem.W.Frag} {H : Hp} {Q : VK} {p : Addr} {ys : List V} (h : SqL K H p ys) (q : Q (.int ys.length) H) : rLenQ K [.ref p] H Q := ⟨p, ys, rfl, .inl h, q⟩
/-! ### places -/
def PlaceV (H : Hp) (x : V) : Prop := ∃ a u v, x = .ref a ∧ H a = some (.tup [u, v]) ∧ NmV u ∧ NmV v
structure TxtI (K : PySem.W.Frag) (mg : Str → Option Value) : Prop where
  d_is_place : Df K mg "is_place" s_is_place ["value"]
  d_check_place : Df K mg "check_place" s_check_place ["value"]
section
variable {P : Program} {w : World} {K : PySem.W.Frag} {mg : Str → Option Value} {base : Heap}
def spPlace (K : PySem.W.Frag) : Sp := fun vs H Q _ => ∃ x T, vs = [x] ∧ Pl K H x T ∧
  (T ≠ "tuple" → Q (.bl false) H) ∧
  (T = "tuple" → ∃ a xs, x = .ref a ∧ H a = some (.tup xs) ∧ (∀ y ∈ xs, NameArg K H y) ∧
    (¬ PlaceV H x → ∀ H', Same H H' → Q (.bl false) H') ∧ (PlaceV H x → ∀ H', Same H H' → Q (.bl true) H'))
theorem ok_is_place (T : Txt K mg) (N : TxtN K mg) (I : TxtI K mg) : Cal P w K mg base 2 "is_place" (spPlace K) := by
  refine I.d_is_place.cal sc_is_place (fun vs H Q E h => ?_) (fun f cdv A outer s H vs Q E hr h => ?_)
  · obtain ⟨x, T, rfl, _⟩ := h
    rfl
  · obtain ⟨x, ty, rfl, hx, kN, kY⟩ := h
    have hu := hr.units
    refine ⟨_, (pss_one (ps_ret (pe_and (pe_callB call_isi (by rfl) T.n_isinstance (by decide +kernel) (pa_cons (pv 0) (pa_cons (pe_bltn (v := .ty "tuple") (by rfl) T.n_tuple (by decide +kernel) rfl) pa_nil))) (pe_and (pe_cmpR (op_eqU hu) (pe_callB call_lenQ (by rfl) N.n_len (by decide +kernel) (pa_cons (pv 0) pa_nil)) pe_int (by rfl)) (pe_and (pe_c (ok_is_name T N) hr (by decide) rfl (pa_cons (pe_ix ix_seq (pv 0) pe_int (fun _ _ => rfl)) pa_nil)) (pe_one (pe_c (ok_is_name T N) hr (by decide) rfl (pa_cons (pe_ix ix_seq (pv 0) pe_int (fun _ _ => rfl)) pa_nil)))))))), ?_⟩
    k_extra "r_I7"
    refine q_isi hx .tup ?_
    by_cases e : ty = "tuple"
    · obtain ⟨a, xs, rfl, ha, hn, kF, kT⟩ := kY e
      clear kN kY
      subst e
      k_extra "r_I7"
      refine s_if1 rfl ?_
      k_extra "r_I7"
      refine q_lenT (SqT.of ha) ?_
      k_extra "r_I7"
      refine q_eq rfl ?_
      by_cases hl : xs.length = 2
      · obtain ⟨u, v, rfl⟩ : ∃ u v, xs = [u, v] := by
          match xs, hl with
          | [u, v], _ => exact ⟨u, v, rfl⟩
        k_extra "r_I7"
        refine s_if1 (decide_eq_true rfl) ?_
        obtain ⟨tu, pu, zu⟩ := hn u (by simp)
        obtain ⟨tv, qv, zv⟩ := hn v (by simp)
        k_extra "r_I7"
        refine q_ixT (SqT.of ha) (at_of (j := 0) rfl rfl) ?_
        k_extra "r_I7"
        refine ⟨u, tu, rfl, pu, zu, fun nu H1 S1 => ?_, fun nu H1 S1 => ?_⟩
        · k_extra "r_I7"
          exact kF (fun ⟨_, _, _, e, h, hu, _⟩ => by injection e with e; subst e; rw [ha] at h; cases h; exact nu hu) _ S1
        · k_extra "r_I7"
          refine q_ixT (SqT.of (S1 _ _ ha)) (at_of (j := 1) rfl rfl) ?_
          k_extra "r_I7"
          refine ⟨v, tv, rfl, qv.mono S1, zv, fun nv H2 S2 => ?_, fun nv H2 S2 => ?_⟩
          · exact kF (fun ⟨_, _, _, e, h, _, hv⟩ => by injection e with e; subst e; rw [ha] at h; cases h; exact nv hv) _ (S1.trans S2)
          · exact kT ⟨a, u, v, rfl, ha, nu, nv⟩ _ (S1.trans S2)
      · k_extra "r_I7"
        refine s_if0 (decide_eq_false fun z => ?_) ?_
        · have := V.int.inj z
          omega
        · k_extra "r_I7"
          exact kF (fun ⟨_, _, _, e, h, _⟩ => by injection e with e; subst e; rw [ha] at h; cases h; exact hl rfl) _ (Same.refl H)
    · have e2 : subKd ty "tuple" = false := by
        cases hx.2 <;> first | rfl | exact absurd rfl e
      rw [e2]
      k_extra "r_I7"
      exact kN e
/-- a value that is no place: InvalidPlace -/
def spCheckPlace (K : PySem.W.Frag) (CP : Addr) : Sp := fun vs H Q E => ∃ x T, vs = [x] ∧ Pl K H x T ∧
  (T = "tuple" → ∃ a xs, x = .ref a ∧ H a = some (.tup xs) ∧ (∀ y ∈ xs, NameArg K H y)) ∧
  (PlaceV H x → T = "tuple" ∧ ∀ H', Same H H' → Q .non H') ∧
  (¬ PlaceV H x → ∀ H' d, Same H H' → H d = none → H' d = some (.xd [("value", x)]) → E (.ref CP) (some d) H')
theorem ok_check_place {CP : Addr} (T : Txt K mg) (N : TxtN K mg) (I : TxtI K mg) (XP : ExcF K mg "InvalidPlace" "value" CP) : CalX P w K mg base 3 "check_place" (spCheckPlace K CP) := by
  refine I.d_check_place.calX sc_check_place (fun vs H Q E h => ?_) (fun f cdv A outer s H vs Q E hr h => ?_)
  · obtain ⟨x, T, rfl, _⟩ := h
    rfl
  · obtain ⟨x, ty, rfl, hx, ht, kY, kN⟩ := h
    refine ⟨_, (pss_one (ps_if (pt_not (pt_val (pe_c (ok_is_place T N I) hr (by decide) rfl (pa_cons (pv 0) pa_nil)))) (pss_one (ps_raise1 rfl XP hr (by decide) (takes_of rfl rfl rfl rfl) (pv 0))) pss_nil)), ?_⟩
    k_extra "r_I7"
    have bad : ∀ H1, Same H H1 → ¬ PlaceV H x → ∀ H3 d, Same H1 H3 → H1 d = none → H3 d = some (.xd [("value", x)]) → E (.ref CP) (some d) H3 := fun H1 S1 n H3 d S3 nd hd => kN n H3 d (S1.trans S3) (S1.free nd) hd
    refine ⟨x, ty, rfl, hx, fun e => ?_, fun e => ?_⟩
    · k_extra "r_I7"
      refine s_if1 rfl ?_
      refine s_raise1 ?_
      k_extra "r_I7"
      have n : ¬ PlaceV H x := fun v => e (kY v).1
      exact fun d H3 nd S3 hd => bad H (Same.refl H) n H3 d S3 nd hd
    · obtain ⟨a, xs, ex, ha, hn⟩ := ht e
      refine ⟨a, xs, ex, ha, hn, fun n H1 S1 => ?_, fun y H1 S1 => ?_⟩
      · k_extra "r_I7"
        refine s_if1 rfl ?_
        refine s_raise1 ?_
        k_extra "r_I7"
        exact fun d H3 nd S3 hd => bad H1 S1 n H3 d S3 nd hd
      · k_extra "r_I7"
        refine s_if0 rfl ?_
        k_extra "r_I7"
        exact (kY y).2 H1 S1
end
end Bt
namespace Bt
open PySem PySem.Spec PyProof.Rows L2 LamX NdefX
theorem words23_ : True := by
  k_with "s_B7" => first
    | ((with_reducible refine' s_var ?hv ?_); (case hv => exact rfl))
    | with_reducible first
      | refine' s_c ?_ | refine' s_op ?_ | refine' s_asg ?_ | refine' s_gname ?_ | refine' s_seq ?_ | refine' s_next ?_ | refine' s_ret ?_ | refine' s_ifS ?_ | refine' s_drop ?_ | refine' s_retN ?_
      | refine' s_test ?_ | refine' s_B ?_ | refine' q_test ?_ | refine' s_int ?_ | refine' s_cons ?_ | refine' s_nil ?_ | refine' s_call ?_ | refine' s_CB ?_ | refine' s_andT ?_ | refine' s_orT ?_ | refine' s_notT ?_
      | refine' s_andV ?_ | refine' s_orV ?_ | refine' s_notV ?_ | refine' s_ifV ?_ | refine' s_chain ?_ | refine' s_sl ?_ | refine' s_noPart ?_ | refine' s_part ?_ | refine' s_gsub ?_ | refine' s_BM ?_ | refine' s_tup ?_ | refine' s_lst ?_
      | refine' q_add ?_ | refine' q_sub ?_ | refine' q_lt ?_ | refine' q_le ?_ | refine' q_gt ?_ | refine' q_ge ?_ | refine' s_ifT ?_ | refine' s_ifF ?_ | refine' s_yes ?_ | refine' s_prop ?_ | refine' s_iList ?_ | refine' s_callOS ?_ | refine' s_iStr ?_ | refine' s_M0 ?_ | refine' s_make ?_ | refine' s_makeS ?_ | refine' s_ownL ?_ | refine' s_ownR ?_ | refine' s_callSD ?_ | refine' s_fld ?_ | refine' s_prop ?_ | refine' s_raise1 ?_ | refine' s_for ?_ | refine' s_rng1 ?_ | refine' s_par ?_ | refine' s_gcons ?_ | refine' s_gnil ?_ | refine' s_iList ?_ | refine' s_iEnum ?_
      | (refine' q_mod ?hm ?_; (case hm => first | omega | decide)) | (refine' q_fdiv ?hm ?hn ?_; (case hm => first | omega | decide); (case hn => first | omega | decide))
      | (refine' q_mulR ?hm ?_; (case hm => first | omega | decide)) | (refine' q_mulL ?hm ?_; (case hm => first | omega | decide))
    | dsimp only
  k_with "r_B7" => repeat (k_extra "s_B7")
  trivial
/-! ### worlds -/
def PlAt (H : Hp) (x : V) (q : Str × Str) : Prop := ∃ a, x = .ref a ∧ H a = some (.tup [.str q.1, .str q.2])
inductive Pls (H : Hp) : List V → List (Str × Str) → Prop where
  | nil : Pls H [] []
  | cons {x : V} {q : Str × Str} {xs : List V} {ps : List (Str × Str)} : PlAt H x q → Pls H xs ps → Pls H (x :: xs) (q :: ps)
theorem PlAt.mono {H H' : Hp} {x : V} {q : Str × Str} (S : Same H H') : PlAt H x q → PlAt H' x q := fun ⟨a, e, h⟩ => ⟨a, e, S _ _ h⟩
theorem PlAt.but {H H' : Hp} {x : V} {q : Str × Str} {l : Addr} {zs : List V} (hl : H l = some (.lst zs)) (B : But l H H') : PlAt H x q → PlAt H' x q :=
  fun ⟨a, e, h⟩ => ⟨a, e, B _ _ (fun z => by rw [z, hl] at h; cases h) h⟩
theorem Pls.mono {H H' : Hp} {xs : List V} {ps : List (Str × Str)} (S : Same H H') (h : Pls H xs ps) : Pls H' xs ps := by
  induction h with
  | nil => exact .nil
  | cons h _ ih => exact .cons (h.mono S) ih
theorem Pls.but {H H' : Hp} {xs : List V} {ps : List (Str × Str)} {l : Addr} {zs : List V} (hl : H l = some (.lst zs)) (B : But l H H') (h : Pls H xs ps) : Pls H' xs ps := by
  induction h with
  | nil => exact .nil
  | cons h _ ih => exact .cons (h.but hl B) ih
theorem Pls.snoc {H : Hp} {xs : List V} {ps : List (Str × Str)} {x : V} {q : Str × Str} (h : Pls H xs ps) (hx : PlAt H x q) : Pls H (xs ++ [x]) (ps ++ [q]) := by
  induction h with
  | nil => exact .cons hx .nil
  | cons h _ ih => exact .cons h ih
theorem Pls.len {H : Hp} {xs : List V} {ps : List (Str × Str)} (h : Pls H xs ps) : xs.length = ps.length := by
  induction h with
  | nil => rfl
  | cons _ _ ih => simp [ih]
def worldOf (fs ns : List Str) : List (Str × Str) := fs.flatMap fun f => ns.map fun n => (f, n)
theorem worldOf_len : ∀ fs ns : List Str, (worldOf fs ns).length = fs.length * ns.length
  | [], ns => by simp [worldOf]
  | f :: fs, ns => by
    have := worldOf_len fs ns
    unfold worldOf at this ⊢
    rw [List.flatMap_cons, List.length_append, List.length_map, this, List.length_cons, Nat.succ_mul, Nat.add_comm]
theorem worldOf_snoc (fs ns : List Str) (f : Str) : worldOf (fs ++ [f]) ns = worldOf fs ns ++ ns.map fun n => (f, n) := by
  unfold worldOf
  rw [List.flatMap_append]
  simp
def NmL (zs : List Str) : Prop := (∀ z ∈ zs, Nm z) ∧ zs.Nodup ∧ zs ≠ []
structure TxtB (K : PySem.W.Frag) (mg : Str → Option Value) : Prop where
  d__law_world : Df K mg "_law_world" s__law_world ["_law_purse_here"]
section
variable {P : Program} {w : World} {K : PySem.W.Frag} {mg : Str → Option Value} {base : Heap}
def spWorld : Sp := fun vs H Q _ => ∃ p, vs = [.ref p] ∧ Purse H p ∧ ∀ l H' xs fs ns, H l = none → H' l = some (.lst xs) → Pls H' xs (worldOf fs ns) → NmL fs → NmL ns → fs.length ≤ 3 → ns.length ≤ 6 → Purse H' p → But p H H' → Q (.ref l) H'
theorem ok__law_world (L : TxtL K mg) (N : TxtN K mg) (B : TxtB K mg) : Cal P w K mg base 4 "_law_world" spWorld := by
  refine B.d__law_world.cal sc__law_world (fun vs H Q E h => ?_) (fun f cdv A outer s H vs Q E hr h => ?_)
  · obtain ⟨p, rfl, _⟩ := h
    rfl
  · obtain ⟨p, rfl, hp, k⟩ := h
    refine ⟨_, (pss_cons (ps_set (i := 1) sc__law_world.nd rfl (.inl rfl) (pe_c (ok__law_names L N) hr (by decide) rfl (pa_cons (pv 0) (pa_cons (pe_op op_addU pe_int (pe_c (ok__law_draw L) hr (by decide) rfl (pa_cons (pv 0) (pa_cons pe_int pa_nil)))) pa_nil))))
      (pss_cons (ps_set (i := 2) sc__law_world.nd rfl (.inl rfl) (pe_c (ok__law_names L N) hr (by decide) rfl (pa_cons (pv 0) (pa_cons (pe_op op_addU pe_int (pe_c (ok__law_draw L) hr (by decide) rfl (pa_cons (pv 0) (pa_cons pe_int pa_nil)))) pa_nil))))
      (pss_cons (ps_set (i := 3) sc__law_world.nd rfl (.inl rfl) (pe_lst pa_nil))
      (pss_cons (ps_for PassesOwn.never rfl (pi_list (pv 1)) (pg_name (i := 4) sc__law_world.nd rfl (.inl rfl))
        (pss_one (ps_for PassesOwn.never rfl (pi_list (pv 2)) (pg_name (i := 5) sc__law_world.nd rfl (.inl rfl))
            (pss_one (ps_expr (pe_bm PySem.F.plainAttrs_list PySem.F.slot_list_append PySem.F.type_list_append mt_append (pv 3) (pa_cons (pe_tup (pa_cons (pv 4) (pa_cons (pv 5) pa_nil))) pa_nil)))))))
      (pss_one (ps_ret (pv 3))))))), ?_⟩
    k_extra "r_B7"
    refine ⟨p, 3, rfl, hp, by decide, by decide, fun m1 H1 m10 m11 p1 b1 => ?_⟩
    k_extra "r_B7"
    obtain ⟨m1, rfl⟩ := Int.eq_ofNat_of_zero_le m10
    refine ⟨p, 1 + m1, (by push_cast; rfl), p1, by omega, fun lf H2 fs nf hf zf df hfl hfe p2 b2 => ?_⟩
    k_extra "r_B7"
    refine ⟨p, 6, rfl, p2, by decide, by decide, fun m2 H3 m20 m21 p3 b3 => ?_⟩
    k_extra "r_B7"
    obtain ⟨m2, rfl⟩ := Int.eq_ofNat_of_zero_le m20
    refine ⟨p, 1 + m2, (by push_cast; rfl), p3, by omega, fun ln H4 ns nn hn zn dn hnl hne p4 b4 => ?_⟩
    k_extra "r_B7"
    refine q_newL (by show 0 ≤ sizeLine; decide) fun lp H5 n5 S5 h5 => ?_
    k_extra "r_B7"
    have hlfp : lf ≠ p := by
      obtain ⟨_, _, _, e, _⟩ := p1
      exact fun z => by rw [z, e] at nf; cases nf
    have hlnp : ln ≠ p := by
      obtain ⟨_, _, _, e, _⟩ := p3
      exact fun z => by rw [z, e] at nn; cases nn
    have hlpp : lp ≠ p := by
      obtain ⟨_, _, _, e, _⟩ := p4
      exact fun z => by rw [z, e] at n5; cases n5
    have B4 : But p H H4 := b1.trans (b2.trans (b3.trans b4))
    have nH : H lp = none := B4.free hlpp n5
    have hf4 : H4 lf = some (.lst (fs.map V.str)) := b4 _ _ hlfp (b3 _ _ hlfp hf)
    have hpf : lf ≠ lp := fun z => by rw [z, n5] at hf4; cases hf4
    have hpn : ln ≠ lp := fun z => by rw [z, n5] at hn; cases hn
    have sz1 : ∀ i, (worldOf (fs.take i) ns).length ≤ 18 := fun i => by
      rw [worldOf_len, List.length_take]
      have a1 : min i fs.length ≤ 3 := by omega
      have a2 : ns.length ≤ 6 := by omega
      exact Nat.le_trans (Nat.mul_le_mul a1 a2) (by decide)
    refine ⟨lf, rfl, ⟨_, SqL.of (S5 _ _ hf4)⟩, q_forL (K := K) (a := lf) (xs := fs.map V.str) (fun i σ H' => ∃ v u xs, σ = [some (.ref p), some (.ref lf), some (.ref ln), some (.ref lp), v, u] ∧ H' lp = some (.lst xs) ∧ Pls H' xs (worldOf (fs.take i) ns) ∧ H' lf = some (.lst (fs.map V.str)) ∧ H' ln = some (.lst (ns.map V.str)) ∧ Purse H' p ∧ But p H H')
      ⟨none, none, [], rfl, h5, .nil, S5 _ _ hf4, S5 _ _ hn, p4.mono S5, B4.trans (But.of S5)⟩ (fun i σ H' _ ⟨_, _, _, _, _, _, h, _⟩ => SqL.of h) ?_ ?_⟩
    · rintro i x σ H6 hx ⟨v, u, xs, rfl, h6, P6, f6, n6, p6, B6⟩
      rw [List.getElem?_map] at hx
      obtain ⟨f1, ef, rfl⟩ := Option.map_eq_some_iff.mp hx
      k_extra "r_B7"
      refine ⟨ln, rfl, ⟨_, SqL.of n6⟩, q_forL (K := K) (a := ln) (xs := ns.map V.str) (fun j σ H' => ∃ u xs, σ = [some (.ref p), some (.ref lf), some (.ref ln), some (.ref lp), some (.str f1), u] ∧ H' lp = some (.lst xs) ∧ Pls H' xs (worldOf (fs.take i) ns ++ (ns.take j).map fun n => (f1, n)) ∧ H' lf = some (.lst (fs.map V.str)) ∧ H' ln = some (.lst (ns.map V.str)) ∧ Purse H' p ∧ But p H H')
        ⟨u, xs, rfl, h6, (by rw [List.take_zero, List.map_nil, List.append_nil]; exact P6), f6, n6, p6, B6⟩ (fun i σ H' _ ⟨_, _, _, _, _, _, h, _⟩ => SqL.of h) ?_ ?_⟩
      · rintro j y σ H7 hy ⟨u, xs, rfl, h7, P7, f7, n7, p7, B7⟩
        rw [List.getElem?_map] at hy
        obtain ⟨n1, en, rfl⟩ := Option.map_eq_some_iff.mp hy
        k_extra "r_B7"
        refine ⟨.inl ⟨rfl, _, SqL.of h7⟩, ?_⟩
        k_extra "r_B7"
        refine q_newT (by show 2 ≤ sizeLine; decide) fun t H8 n8 S8 h8 => ?_
        k_extra "r_B7"
        refine q_append (S8 _ _ h7) ?_ fun H9 b9 h9 => ?_
        · rw [P7.len, List.length_append, List.length_map, List.length_take]
          have := sz1 i
          exact szlt (by omega)
        k_extra "r_B7"
        have tl : t ≠ lp := fun z => by rw [z, h7] at n8; cases n8
        refine ⟨_, _, rfl, h9, ?_, b9 _ _ hpf (S8 _ _ f7), b9 _ _ hpn (S8 _ _ n7), ?_, ?_⟩
        · rw [take_map_more en, ← List.append_assoc]
          exact ((P7.mono S8).but (S8 _ _ h7) b9).snoc ⟨t, rfl, b9 _ _ tl h8⟩
        · obtain ⟨a, b, c, e, h⟩ := p7
          exact ⟨a, b, c, b9 _ _ hlpp.symm (S8 _ _ e), h⟩
        · exact fun b o hb e => b9 b o (fun z => by rw [z] at e; rw [e] at nH; cases nH) (S8 _ _ (B7 b o hb e))
      · rintro σ H7 ⟨u, xs, rfl, h7, P7, f7, n7, p7, B7⟩
        k_extra "r_B7"
        rw [List.length_map, List.take_length] at P7
        refine ⟨_, _, _, rfl, h7, ?_, f7, n7, p7, B7⟩
        rw [List.take_add_one, ef]
        exact (worldOf_snoc (fs.take i) ns f1) ▸ P7
    · rintro σ H6 ⟨v, u, xs, rfl, h6, P6, f6, n6, p6, B6⟩
      k_extra "r_B7"
      rw [List.length_map, List.take_length] at P6
      exact k lp H6 xs fs ns nH h6 P6 ⟨zf, df, hfe (by omega)⟩ ⟨zn, dn, hne (by omega)⟩ (by omega) (by omega) p6 B6
end
end Bt
namespace Bt
open PySem PySem.Spec PyProof.Rows L2
/-! ### == of lists and of tuples whose items are the same objects, or data -/
mutual
inductive EqV (K : PySem.W.Frag) (H : Hp) : Nat → V → V → Bool → Prop where
  | same {n : Nat} (a : Addr) : EqV K H n (.ref a) (.ref a) true
  | data {n : Nat} {x y : V} {d e : PyData} : Dp K H x d → Dp K H y e → SeqAt.shaped d = true → SeqAt.shaped e = true → EqV K H n x y (PyData.eqv d e)
  | lst {n : Nat} {a b : Addr} {xs ys : List V} {bs : List Bool} : a ≠ b → SqL K H a xs → SqL K H b ys → EqVs K H n xs ys bs → EqV K H (n + 1) (.ref a) (.ref b) (bs.all id)
inductive EqVs (K : PySem.W.Frag) (H : Hp) : Nat → List V → List V → List Bool → Prop where
  | nil {n : Nat} : EqVs K H n [] [] []
  | cons {n : Nat} {x y : V} {b : Bool} {xs ys : List V} {bs : List Bool} : EqV K H n x y b → EqVs K H n xs ys bs → EqVs K H n (x :: xs) (y :: ys) (b :: bs)
end
theorem all_range (bs : List Bool) : ((List.range bs.length).all fun j => (bs[j]?).getD true) = bs.all id := by
  rw [Bool.eq_iff_iff, List.all_eq_true, List.all_eq_true]
  constructor
  · intro h b hb
    obtain ⟨j, hj, e⟩ := List.mem_iff_getElem.mp hb
    have := h j (List.mem_range.mpr hj)
    rw [List.getElem?_eq_getElem hj, e] at this
    exact this
  · intro h j hj
    have hj := List.mem_range.mp hj
    rw [List.getElem?_eq_getElem hj]
    exact h _ (List.getElem_mem hj)
section
variable {X : Cx} {pins : List (Addr × Obj)} {σ : L2.St} {H : Hp} {s : Shared}
mutual
theorem eqV_at (I : Inv X pins σ H s) : ∀ (n : Nat) (x y : V) (b : Bool), EqV X.K H n x y b → ∀ (A : Around), A.units + n + 64 < cLine → ∀ (u v : Value), RelV x u → RelV y v → SeqAt.EqAt A s u v b
  | _, _, _, _, .same a, A, hu, u, v, rx, ry => by
    obtain rfl : u = Value.ref a := rx
    obtain rfl : v = Value.ref a := ry
    exact SeqAt.EqAt.same _
  | _, _, _, _, .data hd he sd se, A, hu, u, v, rx, ry => by
    obtain ⟨as, r1⟩ := Dp.reads I _ _ u hd rx
    obtain ⟨bs, r2⟩ := Dp.reads I _ _ v he ry
    exact SeqAt.eqAt_reads _ _ A s u v as bs r1 r2 (SeqAt.canLay_of_shaped sd) (SeqAt.canLay_of_shaped se) (SeqAt.room_of_shaped sd (by omega))
  | _, _, _, _, @EqV.lst _ _ n a b xs ys bs ne h1 h2 h3, A, hu, u, v, rx, ry => by
    obtain rfl : u = Value.ref a := rx
    obtain rfl : v = Value.ref b := ry
    obtain ⟨us, r1, p1, _⟩ := I.list h1
    obtain ⟨vs, r2, p2, _⟩ := I.list h2
    have hi : A.in1.units + n + 64 < cLine := by show A.units + 1 + n + 64 < cLine; omega
    obtain ⟨l1, l2, k⟩ := eqVs_at I _ _ _ _ h3 _ hi _ _ r1 r2
    have e : bs.all id = (List.range us.toArray.size).all fun j => (bs[j]?).getD true := by rw [List.size_toArray, l1, all_range]
    rw [e]
    refine SeqAt.EqAt.of_refs ne (SeqAt.RcAt.lists (items := us.toArray) (items2 := vs.toArray) ?_ ?_ (by simp [l1, l2]) (by omega) (fun j j1 j2 => ?_))
    · obtain ⟨o, n, ho, hc, _, hd⟩ := p1
      exact ⟨o, ho, hc, n, hd⟩
    · obtain ⟨o, n, ho, hc, _, hd⟩ := p2
      exact ⟨o, ho, hc, n, hd⟩
    · simpa using k j (by simpa using j1) (by simpa using j2)
theorem eqVs_at (I : Inv X pins σ H s) : ∀ (n : Nat) (xs ys : List V) (bs : List Bool), EqVs X.K H n xs ys bs → ∀ (A : Around), A.units + n + 64 < cLine → ∀ (us vs : List Value), Vals xs us → Vals ys vs → us.length = bs.length ∧ vs.length = bs.length ∧
    ∀ j (h1 : j < us.length) (h2 : j < vs.length), SeqAt.EqAt A s us[j] vs[j] ((bs[j]?).getD true)
  | _, _, _, _, .nil, A, hu, us, vs, r1, r2 => by
    cases r1
    cases r2
    exact ⟨rfl, rfl, fun j h1 _ => absurd h1 (Nat.not_lt_zero _)⟩
  | _, _, _, _, .cons h hs, A, hu, us, vs, r1, r2 => by
    cases r1 with
    | cons ra r1 =>
      cases r2 with
      | cons rb r2 =>
        obtain ⟨l1, l2, k⟩ := eqVs_at I _ _ _ _ hs _ hu _ _ r1 r2
        refine ⟨by simp [l1], by simp [l2], fun j h1 h2 => ?_⟩
        cases j with
        | zero => exact eqV_at I _ _ _ _ h _ hu _ _ ra rb
        | succ j => simpa using k j (by simpa using h1) (by simpa using h2)
end
end
def rEqI (K : PySem.W.Frag) (n : Nat) : R2 := fun x y H Q => ∃ a b xs ys bs, x = .ref a ∧ y = .ref b ∧ ((SqL K H a xs ∧ SqL K H b ys) ∨ (SqT K H a xs ∧ SqT K H b ys)) ∧ EqVs K H n xs ys bs ∧ Q (.bl (bs.all id)) H
def rNeI (K : PySem.W.Frag) (n : Nat) : R2 := fun x y H Q => ∃ a b xs ys bs, x = .ref a ∧ y = .ref b ∧ ((SqL K H a xs ∧ SqL K H b ys) ∨ (SqT K H a xs ∧ SqT K H b ys)) ∧ EqVs K H n xs ys bs ∧ Q (.bl (!bs.all id)) H
theorem op_eqI {X : Cx} {n : Nat} (hu : X.A.units + n + 65 < cLine) : OpR X (compareOp .Eq) (rEqI X.K n) := by
  intro pins s σ H x y v u Q I rx ry h
  obtain ⟨a, b, xs, ys, bs, rfl, rfl, hs, he, q⟩ := h
  obtain rfl : v = Value.ref a := rx
  obtain rfl : u = Value.ref b := ry
  have hi : X.A.in1.units + n + 64 < cLine := by show X.A.units + 1 + n + 64 < cLine; omega
  rcases hs with ⟨h1, h2⟩ | ⟨h1, h2⟩
  · obtain ⟨us, r1, p1, _⟩ := I.list h1
    obtain ⟨vs, r2, p2, _⟩ := I.list h2
    obtain ⟨l1, l2, k⟩ := eqVs_at I _ _ _ _ he _ hi _ _ r1 r2
    refine SeqAt.eq_listAt (items := us.toArray) (items2 := vs.toArray) (e := fun j => (bs[j]?).getD true) ?_ ?_ (by simp [l1, l2]) (by omega) (fun j j1 j2 => ?_) ⟨.bl _, H, I, rfl, ?_⟩
    · obtain ⟨o, n, ho, hc, _, hd⟩ := p1
      exact ⟨o, ho, hc, n, hd⟩
    · obtain ⟨o, n, ho, hc, _, hd⟩ := p2
      exact ⟨o, ho, hc, n, hd⟩
    · simpa using k j (by simpa using j1) (by simpa using j2)
    · rw [List.size_toArray, l1, all_range]
      exact q
  · obtain ⟨us, r1, p1, _⟩ := I.tuple h1
    obtain ⟨vs, r2, p2, _⟩ := I.tuple h2
    obtain ⟨l1, l2, k⟩ := eqVs_at I _ _ _ _ he _ hi _ _ r1 r2
    refine SeqAt.eq_tupleAt (items := us.toArray) (items2 := vs.toArray) (e := fun j => (bs[j]?).getD true) ?_ ?_ (by omega) (fun j j1 j2 => ?_) ⟨.bl _, H, I, rfl, ?_⟩
    · obtain ⟨o, ho, hc, n, hd⟩ := p1
      exact ⟨o, ho, hc, n, hd⟩
    · obtain ⟨o, ho, hc, n, hd⟩ := p2
      exact ⟨o, ho, hc, n, hd⟩
    · simpa using k j (by simpa using j1) (by simpa using j2)
    · rw [List.size_toArray, List.size_toArray, l1, l2, Nat.min_self, all_range, beq_self_eq_true, Bool.and_true]
      exact q
theorem op_neI {X : Cx} {n : Nat} (hu : X.A.units + n + 65 < cLine) : OpR X (compareOp .NotEq) (rNeI X.K n) := by
  intro pins s σ H x y v u Q I rx ry h
  obtain ⟨a, b, xs, ys, bs, rfl, rfl, hs, he, q⟩ := h
  obtain rfl : v = Value.ref a := rx
  obtain rfl : u = Value.ref b := ry
  have hi : X.A.in1.units + n + 64 < cLine := by show X.A.units + 1 + n + 64 < cLine; omega
  show wpAny (model X.prog X.w) X.A (richCompare .NotEq (.ref a) (.ref b)) (EP X pins σ Q) X.xe s
  rcases hs with ⟨h1, h2⟩ | ⟨h1, h2⟩
  · obtain ⟨us, r1, p1, _⟩ := I.list h1
    obtain ⟨vs, r2, p2, _⟩ := I.list h2
    obtain ⟨l1, l2, k⟩ := eqVs_at I _ _ _ _ he _ hi _ _ r1 r2
    refine SeqAt.RcNeAt.lists (items := us.toArray) (items2 := vs.toArray) (e := fun j => (bs[j]?).getD true) ?_ ?_ (by simp [l1, l2]) (by omega) (fun j j1 j2 => ?_) X.prog X.w X.xe _ ⟨.bl _, H, I, rfl, ?_⟩
    · obtain ⟨o, n, ho, hc, _, hd⟩ := p1
      exact ⟨o, ho, hc, n, hd⟩
    · obtain ⟨o, n, ho, hc, _, hd⟩ := p2
      exact ⟨o, ho, hc, n, hd⟩
    · simpa using k j (by simpa using j1) (by simpa using j2)
    · rw [List.size_toArray, l1, all_range]
      exact q
  · obtain ⟨us, r1, p1, _⟩ := I.tuple h1
    obtain ⟨vs, r2, p2, _⟩ := I.tuple h2
    obtain ⟨l1, l2, k⟩ := eqVs_at I _ _ _ _ he _ hi _ _ r1 r2
    refine SeqAt.RcNeAt.tuples (items := us.toArray) (items2 := vs.toArray) (e := fun j => (bs[j]?).getD true) ?_ ?_ (by omega) (fun j j1 j2 => ?_) X.prog X.w X.xe _ ⟨.bl _, H, I, rfl, ?_⟩
    · obtain ⟨o, ho, hc, n, hd⟩ := p1
      exact ⟨o, ho, hc, n, hd⟩
    · obtain ⟨o, ho, hc, n, hd⟩ := p2
      exact ⟨o, ho, hc, n, hd⟩
    · simpa using k j (by simpa using j1) (by simpa using j2)
    · rw [List.size_toArray, List.size_toArray, l1, l2, Nat.min_self, all_range, beq_self_eq_true, Bool.and_true]
      exact q
end Bt
namespace Bt
open PySem PySem.Spec PyProof.Rows L2
/-! ### dicts whose keys are tuples of texts: dict(pairs) -/
def mergeT (kvs more : List (List Key × V)) : List (List Key × V) := more.foldl (fun acc kv => putK acc kv.1 kv.2) kvs
theorem mergeT_cons (kvs : List (List Key × V)) (p : List Key × V) (more : List (List Key × V)) : mergeT kvs (p :: more) = mergeT (putK kvs p.1 p.2) more := rfl
theorem mergeT_len : ∀ (more kvs : List (List Key × V)), (mergeT kvs more).length ≤ kvs.length + more.length
  | [], _ => Nat.le_refl _
  | p :: more, kvs => by
    have h1 := mergeT_len more (putK kvs p.1 p.2)
    have h2 := length_putK kvs p.1 p.2
    rw [mergeT_cons, List.length_cons]
    omega
theorem KT.merge {H : Hp} : ∀ {more : List (List Key × V)} {ps : List (List Key × Addr × Value)} {kvs : List (List Key × V)} {xs : List (List Key × Addr × Value)}, KT H more ps → KT H kvs xs → KT H (mergeT kvs more) (storedAllH xs ps)
  | [], _, _, _, .nil, r => r
  | p :: more, q :: ps, kvs, xs, .cons h t, r => by
    obtain ⟨h1, h2, h3⟩ := h
    have := KT.merge t (KT.put r p.1 h2 h3)
    rw [mergeT_cons]
    show KT H _ (storedAllH (storedH xs q.1 q.2.1 q.2.2) ps)
    rw [← h1]
    exact this
/-- the pairs of a list: where each stands, where its key stands, the key, the value -/
abbrev PE4 : Type := Addr × Addr × List Key × V
def rDictT (K : PySem.W.Frag) : List V → Hp → VK → Prop := fun xs H Q => ∃ (a : Addr) (es : List PE4), xs = [.ref a] ∧ SqL K H a (es.map fun e => V.ref e.1) ∧ (∀ e ∈ es, SqT K H e.1 [.ref e.2.1, e.2.2.2] ∧ H e.2.1 = some (.tup (e.2.2.1.map kV))) ∧
  ∀ p, H p = none → Q (.ref p) (upd H p (.dT (mergeT [] (es.map fun e => e.2.2))))
section
variable {X : Cx}
theorem pairs4 {pins : List (Addr × Obj)} {σ : L2.St} {H : Hp} {s : Shared} (I : Inv X pins σ H s) : ∀ {es : List PE4}, (∀ e ∈ es, SqT X.K H e.1 [.ref e.2.1, e.2.2.2] ∧ H e.2.1 = some (.tup (e.2.2.1.map kV))) →
    ∃ prs : List (List Key × Addr × Value), KT H (es.map fun e => e.2.2) prs ∧ prs.length = es.length ∧ ∀ (j : Nat) (q : List Key × Addr × Value), prs[j]? = some q → ∃ e, es[j]? = some e ∧ IsTup s.heap e.1 #[.ref q.2.1, q.2.2] ∧ H q.2.1 = some (.tup (q.1.map kV))
  | [], _ => ⟨[], .nil, rfl, fun j q e => by simp at e⟩
  | e :: es, h => by
    obtain ⟨prs, r, hl, hp⟩ := pairs4 I (es := es) fun x hx => h x (List.mem_cons_of_mem _ hx)
    obtain ⟨h1, h2⟩ := h e List.mem_cons_self
    obtain ⟨its, rv, ht, _⟩ := I.tuple h1
    obtain ⟨u, y, ei, ru, ry⟩ := vals2 rv
    subst ei
    cases ru
    refine ⟨(e.2.2.1, e.2.1, y) :: prs, .cons ⟨rfl, h2, ry⟩ r, by rw [List.length_cons, List.length_cons, hl], fun j q e' => ?_⟩
    cases j with
    | zero =>
      cases Option.some.inj e'
      exact ⟨e, rfl, ht, h2⟩
    | succ j =>
      obtain ⟨x, e1, e2⟩ := hp j q (by simpa using e')
      exact ⟨x, by simpa using e1, e2⟩
theorem call_dictT (hcalm : X.calm = true) (hu : X.A.units + 3 < cLine) : CallR X (.type "dict") (rDictT X.K) := by
  intro pins s σ H xs us Q I r q
  obtain ⟨a, es, rfl, hq, hp, q⟩ := q
  obtain ⟨u, rfl, rx⟩ := vals1 r
  cases rx
  obtain ⟨its, rv, pl, hz⟩ := I.list hq
  have ei : its = (es.map (·.1)).map Value.ref := refs_at (by rw [List.map_map]; exact rv)
  subst ei
  rw [List.length_map] at hz
  obtain ⟨prs, rel, hl, hpr⟩ := pairs4 I hp
  obtain ⟨o, n, ho, hc, hd, hdat⟩ := pl
  have key : ∀ {q : List Key × Addr × Value}, q ∈ prs → IsTupleKey (mixKind X.prog X.w) s.heap q.1 q.2.1 := fun {q} hq => by
    obtain ⟨j, hj⟩ := List.mem_iff_getElem?.mp hq
    obtain ⟨e, _, _, h3⟩ := hpr j q hj
    exact key_of I.hok h3
  have lp : (prs.map fun q => (Value.ref q.2.1, q.2.2)).length = es.length := by rw [List.length_map, hl]
  have Tj : ∀ {j : Nat} {e : PE4}, es[j]? = some e → (es.map (·.1)).getD j 0 = e.1 := fun {j e} h => by
    rw [List.getD_eq_getElem?_getD, List.getElem?_map, h]
    rfl
  refine PySem.call_dict_pairsH (knd := tupleKind (mixKind X.prog X.w)) (ps := prs) (PySem.PairArg.list a ((es.map (·.1)).map Value.ref).toArray (fun j => (es.map (·.1)).getD j 0) (prs.map fun q => (Value.ref q.2.1, q.2.2))) (I.ok.hd hcalm) ?_ ?_ ?_ ?_ ?_ fun h' tk hd' k => ?_
  · show X.A.in1.in1.units < cLine
    simp only [Around.in1]
    omega
  · refine ⟨⟨o, n, ho, hc, hd, hdat⟩, by rw [lp]; simp, fun j kx v hj => ?_⟩
    rw [List.getElem?_map] at hj
    obtain ⟨q', hq', e'⟩ := Option.map_eq_some_iff.mp hj
    cases e'
    obtain ⟨e, he, ht, _⟩ := hpr j q' hq'
    refine ⟨?_, .inl ?_⟩
    · show _ = some (Value.ref ((es.map (·.1)).getD j 0))
      rw [Tj he]
      simp [he]
    · show s.heap.IsTuple ((es.map (·.1)).getD j 0) _
      rw [Tj he]
      obtain ⟨o', h1, h2, n', h3⟩ := ht
      exact ⟨o', h1, h2, n', h3⟩
  · refine ⟨by rw [List.length_map], fun i kx v hi => ?_⟩
    rw [PairRel, List.getElem?_map] at hi
    obtain ⟨q', hq', e'⟩ := Option.map_eq_some_iff.mp hi
    cases e'
    exact ⟨q'.1, q'.2.1, hq', rfl⟩
  · intro h' hk x hx
    obtain ⟨o', items, n', h1, h2, h3, h4⟩ := key hx
    exact ⟨o', items, n', hk _ _ (Nat.ne_of_lt (Heap.lt_size h1)) (fun z => nomatch z) h1, h2, h3, h4⟩
  · rw [lp]
    exact hz
  · have hm : (s.heap.objs.size == sysModules) = false := beq_eq_false_iff_ne.mpr (Nat.ne_of_gt I.big)
    have hlen : (mergeT [] (es.map fun e => e.2.2)).length ≤ sizeLine := by
      refine Nat.le_trans (mergeT_len _ _) ?_
      rw [List.length_nil, Nat.zero_add, List.length_map]
      exact hz
    obtain ⟨q', es', ep, hq', h2, h3, h4, _, h5⟩ := hd'
    have hf : H s.heap.objs.size = none := I.hok.fresh (Nat.le_refl _)
    have rel' : KT (upd H s.heap.objs.size (.dT (mergeT [] (es.map fun e => e.2.2)))) (mergeT [] (es.map fun e => e.2.2)) (storedAllH [] prs) := (KT.merge rel .nil).keeps fun c ys ec => by
      rw [upd_ne (fun z => by rw [z, hf] at ec; cases ec)]
      exact ec
    exact ⟨.ref s.heap.objs.size, _, I.laid (t' := tk) (fun b o' e => k b o' (fun z => nomatch z) e) (Nat.le_refl _) (show ObjOk X.prog X.w _ _ _ (.dT (mergeT [] (es.map fun e => e.2.2))) from ⟨hlen, hm, _, rel', q', es', ep, hq', h2, h3, h4, h5⟩), rfl, q _ hf⟩
end
end Bt
namespace Bt
open PySem PySem.Spec PyProof.Rows L2
/-! ### list(d.items()), and walks over d.items(), the keys tuples of texts -/
section
variable {X : Cx} {pins : List (Addr × Obj)} {σ : L2.St} {H H' : Hp} {s : Shared} {h' : Heap} {tk : Nat}
/-- many new things at a time -/
theorem lay_new (I : Inv X pins σ H s) (hk : ∀ b o, s.heap.get? b = some o → h'.get? b = some o) (kp : Same H H') (low : ∀ b o, s.heap.get? b = some o → H' b = H b)
    (ok : ∀ b u, H b = none → H' b = some u → ObjOk X.prog X.w H' h' b u) : Inv X pins σ H' { s with heap := h', toks := tk } := by
  refine I.call' (ch := []) rfl ⟨fun b o q _ _ _ => hk b o q, fun b o q _ _ _ => ⟨o.slots, hk b o q⟩, fun b o q n _ => by rw [low b o q]; exact n, fun b o q _ => ⟨o, hk b o q⟩, fun b xs q => kp b _ q, fun b o u q => kp b _ q, fun b ps q => ⟨#[], by rw [kp b _ q]; simp⟩⟩ (fun b u q => ?_) I.bare fun b z => by simp at z
  cases e : H b with
  | none => exact ok b u e q
  | some v =>
    have : H' b = some v := kp b v e
    rw [q] at this
    cases this
    exact (I.hok b u e).stay (fun d v _ y => hk d v y) (fun d y => kp d _ y) fun d xs y => kp d _ y
end
/-- the pairs tracked -/
def put4 : Hp → List PE4 → Hp
  | H, [] => H
  | H, e :: es => put4 (upd H e.1 (.tup [.ref e.2.1, e.2.2.2])) es
theorem put4_off {b : Addr} : ∀ (es : List PE4) (H : Hp), b ∉ es.map (·.1) → put4 H es b = H b
  | [], _, _ => rfl
  | e :: es, H, h => by
    rw [List.map_cons, List.mem_cons, not_or] at h
    show put4 (upd H e.1 _) es b = H b
    rw [put4_off es _ h.2, upd_ne h.1]
theorem put4_at : ∀ (es : List PE4) (H : Hp), (es.map (·.1)).Nodup → ∀ e ∈ es, put4 H es e.1 = some (.tup [.ref e.2.1, e.2.2.2])
  | e :: es, H, h, x, hx => by
    rw [List.map_cons, List.nodup_cons] at h
    rcases List.mem_cons.mp hx with rfl | hx
    · show put4 (upd H x.1 _) es x.1 = _
      rw [put4_off es _ h.1, upd_same]
    · exact put4_at es _ h.2 x hx
theorem mk4 {H : Hp} : ∀ {kvs : List (List Key × V)} {xs : List (List Key × Addr × Value)} {as : List Addr}, KT H kvs xs → as.length = xs.length → ∃ es : List PE4, es.map (·.1) = as ∧ es.map (·.2.2) = kvs ∧
    ∀ (j : Nat) (e : PE4), es[j]? = some e → as[j]? = some e.1 ∧ ∃ y, xs[j]? = some y ∧ y.2.1 = e.2.1 ∧ RelV e.2.2.2 y.2.2 ∧ H e.2.1 = some (.tup (e.2.2.1.map kV))
  | _, _, [], .nil, _ => ⟨[], rfl, rfl, fun j e h => by simp at h⟩
  | _, _, _ :: _, .nil, h => by simp at h
  | _, _, [], .cons _ _, h => by simp at h
  | p :: kvs, q :: xs, a :: as, .cons h t, hl => by
    obtain ⟨h1, h2, h3⟩ := h
    obtain ⟨es, e1, e2, e3⟩ := mk4 t (as := as) (by simpa using hl)
    refine ⟨(a, q.2.1, p) :: es, by rw [List.map_cons, e1], by rw [List.map_cons, e2], fun j e he => ?_⟩
    cases j with
    | zero =>
      cases Option.some.inj he
      exact ⟨rfl, q, rfl, rfl, h3, h2⟩
    | succ j =>
      obtain ⟨z1, y, z2, z3⟩ := e3 j e (by simpa using he)
      exact ⟨by simpa using z1, y, by simpa using z2, z3⟩
/-- what holds of the pairs in the heap -/
def Prs4 (H : Hp) (es : List PE4) : Prop := ∀ e ∈ es, H e.1 = some (.tup [.ref e.2.1, e.2.2.2]) ∧ H e.2.1 = some (.tup (e.2.2.1.map kV))
theorem Prs4.mono {H H' : Hp} {es : List PE4} (S : Same H H') (h : Prs4 H es) : Prs4 H' es := fun e he => ⟨S _ _ (h e he).1, S _ _ (h e he).2⟩
def rItemsLT : V → Hp → VK → Prop := fun x H Q => ∃ (d : Addr) (kvs : List (List Key × V)), x = .ref d ∧ H d = some (.dT kvs) ∧
  ∀ (H' : Hp) (p : Addr) (es : List PE4), Same H H' → H p = none → H' p = some (.lst (es.map fun e => V.ref e.1)) → es.map (·.2.2) = kvs → Prs4 H' es → Q (.ref p) H'
def tListItT (te : TE) : TE := fun σ H Q => te σ H fun x H1 => rItemsLT x H1 Q
section
variable {X : Cx} {e : Expr} {te : TE} {p apos cpos pos : Pos}
theorem pe_listItT (hc : X.calm = true) (he : PE X e te) (hg : Gl X "list") (hm : X.mg "list" = none) (hv : bootBuiltins "list" = some (.type "list")) (hbase : attributeBase e "items" X.env (eval e X.env) = eval e X.env := by rfl) (hline : (apos.endLine == cpos.line) = true := by rfl)
    (hs : starEach [.Call (.Attribute e "items" apos) [] [] cpos] X.env = (false, eval (.Call (.Attribute e "items" apos) [] [] cpos) X.env) :: starEach [] X.env := by rfl) :
    PE X (.Call (.Name "list" p) [.Call (.Attribute e "items" apos) [] [] cpos] [] pos) (tListItT te) := by
  refine ⟨fun pins s σ H Q I hq => ?_⟩
  refine wpAny_Call_Name_kw (ld_blt I hg hm hv ?_)
  refine PyProof.Rows.callWith_type1 ?_ hs rfl
  rw [hs]
  show wpAny _ _ (spliced ((false, eval (.Call (.Attribute e "items" apos) [] [] cpos) X.env) :: backTo pos (starEach [] X.env))) _ _ s
  refine Calls.spliced_cons ?_
  refine wpAny_Call_method (T := "dict") (id := "dict.items") hbase rfl hline F.plainAttrs_dict F.slot_dict_items F.type_dict_items (thn (he.run pins s σ H _ I hq) fun u s1 ⟨x, H1, I1, rx, d, kvs, ex, hd, q⟩ => ?_)
  subst ex
  obtain rfl : u = Value.ref d := rx
  obtain ⟨hz, hs0, xs, rel, hdo⟩ := dt_of I1.hok hd
  obtain ⟨es, ep, raw, hes, hent⟩ := hdo.raw
  have lk : kvs.length = xs.length := Paired.length rel
  have ht : s1.TypeIs (.ref d) "dict" := hdo.typeIs
  refine ⟨ht, fun b eb => ?_, ?_⟩
  · cases eb
    obtain ⟨o, ho, hx, _⟩ := raw
    exact ⟨o, ho, hx.2.1⟩
  show wpAny _ _ (callWith cpos (.builtin "dict.items") [.ref d] [] []) _ X.xe s1
  refine method_meetsIn F.slot_dict_items F.entry_dict_items rfl (PySem.evalArgs_none ⟨rfl, ht, F.args_dict_items_1 _, _, PySem.meets_dict_items_raw d hs0, ⟨es, ep, raw⟩, ?_⟩)
  refine Calls.spliced_nil ?_
  have I2 : Inv X pins σ H1 { s1 with heap := s1.heap.push { cls := .type "dict_items", data := .fields #[.ref d] } } := I1.kept (t' := s1.toks) fun b ob q => Heap.get?_push_of_some _ q
  refine PySem.W.dil_call (es := es) (ep := ep) (I1.ok.hd hc) ⟨_, Heap.get?_push_size _ rfl, rfl, rfl⟩ (raw.push _) (by omega) fun h' tk acc c as hk hS hl hG hacc => ?_
  obtain ⟨es4, a1, a2, a3⟩ := mk4 rel (as := as) (by omega)
  have nd : as.Nodup := List.Pairwise.imp (fun {a b} (h : a < b) => Nat.ne_of_lt h) hG.rise
  have hSn : ∀ S, S ∈ as → S ≠ (s1.heap.push { cls := .type "dict_items", data := .fields #[.ref d] }).objs.size := fun S z e => Nat.lt_irrefl _ (e ▸ hG.above _ z)
  have new : ∀ t ∈ as, H1 t = none := fun t ht => I2.hok.fresh (Nat.le_of_lt (hG.above t ht))
  have newS : H1 (s1.heap.push { cls := .type "dict_items", data := .fields #[.ref d] }).objs.size = none := I2.hok.fresh (Nat.le_refl _)
  have low : ∀ b o, (s1.heap.push { cls := .type "dict_items", data := .fields #[.ref d] }).get? b = some o → b ∉ as ∧ b ≠ (s1.heap.push { cls := .type "dict_items", data := .fields #[.ref d] }).objs.size := fun b o e => ⟨fun z => absurd (Heap.lt_size e) (Nat.not_lt.mpr (Nat.le_of_lt (hG.above b z))), Nat.ne_of_lt (Heap.lt_size e)⟩
  generalize (s1.heap.push { cls := .type "dict_items", data := .fields #[.ref d] }).objs.size = S at *
  have off : ∀ b, b ∉ as → b ≠ S → put4 (upd H1 S (.lst (as.map V.ref))) es4 b = H1 b := fun b h1 h2 => by rw [put4_off es4 _ (a1 ▸ h1), upd_ne h2]
  have kp : Same H1 (put4 (upd H1 S (.lst (as.map V.ref))) es4) := fun b u e => by
    rw [off b (fun z => by rw [new b z] at e; cases e) (fun z => by rw [z, newS] at e; cases e)]
    exact e
  have eS : put4 (upd H1 S (.lst (as.map V.ref))) es4 S = some (.lst (as.map V.ref)) := by rw [put4_off es4 _ (a1 ▸ fun z => hSn S z rfl), upd_same]
  have at4 := put4_at es4 (upd H1 S (.lst (as.map V.ref))) (a1 ▸ nd)
  have J : Inv X pins σ (put4 (upd H1 S (.lst (as.map V.ref))) es4) { { s1 with heap := s1.heap.push { cls := .type "dict_items", data := .fields #[.ref d] } } with heap := h', toks := tk } := by
    refine lay_new I2 hk kp (fun b o q => off b (low b o q).1 (low b o q).2) fun b u hn hu => ?_
    by_cases hb : b ∈ as
    · rw [← a1] at hb
      obtain ⟨e4, m4, rfl⟩ := List.mem_map.mp hb
      obtain ⟨j, hj⟩ := List.mem_iff_getElem?.mp m4
      obtain ⟨z1, y, z2, z3, z4, z5⟩ := a3 j e4 hj
      obtain ⟨hjs, h5⟩ := hG.pairs j e4.1 z1
      obtain ⟨y', w1, w2, w3, _⟩ := hent j hjs
      rw [z2] at w1
      cases w1
      rw [at4 e4 m4] at hu
      cases hu
      exact ⟨by show 2 ≤ sizeLine; decide, [.ref y.2.1, y.2.2], .cons (by rw [← z3]; rfl) (.cons z4 .nil), ⟨_, by rw [w2, w3] at h5; exact h5, rfl, _, rfl⟩⟩
    · by_cases hb2 : b = S
      · subst hb2
        rw [eS] at hu
        cases hu
        refine ⟨by rw [List.length_map]; omega, acc.toList, c, by rw [hacc]; exact LiI.vals_refs as, ?_⟩
        rw [Array.toArray_toList]
        exact hS
      · rw [off b hb hb2, hn] at hu
        cases hu
  refine ⟨.ref S, _, J, rfl, q _ S es4 kp newS ?_ a2 fun e4 m4 => ⟨at4 e4 m4, ?_⟩⟩
  · rw [eS, ← a1, List.map_map]
    rfl
  · obtain ⟨j, hj⟩ := List.mem_iff_getElem?.mp m4
    obtain ⟨_, _, _, _, _, z5⟩ := a3 j e4 hj
    exact kp _ _ z5
end
end Bt
namespace Bt
open PySem PySem.Spec PyProof.Rows L2
/-! ### for k, v in d.items(), the keys tuples of texts -/
def Itit (d : Addr) (o : Obj) (kvs : List (List Key × V)) : It :=
  ⟨fun i H => H d = some (.frz o (.dT kvs)) ∧ i < kvs.length, fun i H x H' => ∃ T b k v, kvs[i]? = some (k, v) ∧ x = .ref T ∧ H T = none ∧ H b = some (.tup (k.map kV)) ∧ H' = upd H T (.tup [.ref b, v]), fun i H => H d = some (.frz o (.dT kvs)) ∧ kvs.length ≤ i⟩
section
variable {X : Cx} {pins : List (Addr × Obj)} {σ : L2.St} {H : Hp} {s : Shared} {d : Addr} {o : Obj}
theorem frzV {kvs : List (List Key × V)} (I : Inv X pins σ H s) (h : H d = some (.frz o (.dT kvs))) :
    (d == sysModules) = false ∧ s.heap.get? d = some o ∧ o.ExactDict ∧ ∃ (es : Array DictEntry) (ep : Nat), o.data = .dict es ep ∧ es.size = kvs.length ∧
      ∀ (i : Nat) (k : List Key) (v : V), kvs[i]? = some (k, v) → ∃ (en : DictEntry) (q : Addr), es[i]? = some en ∧ en.key = .ref q ∧ RelV v en.val ∧ H q = some (.tup (k.map kV)) := by
  obtain ⟨hd, z, hs, xs, pr, o', es, ep, ho, hx, hdt, he, _⟩ := I.hok d _ h
  rw [hd] at ho
  cases ho
  refine ⟨hs, hd, hx, es, ep, hdt, ?_, fun i k v e => ?_⟩
  · have l1 : es.size = xs.length := size_of_entries he
    have l2 : kvs.length = xs.length := Paired.length pr
    omega
  · obtain ⟨b, hb, e1, e2, e3⟩ := LiI.paired_get pr e
    have q := entry_at he i
    rw [hb] at q
    exact ⟨_, b.2.1, q, rfl, e3, e2⟩
end
section
variable {P : Program} {w : World} {K : PySem.W.Frag} {d : Addr} {o : Obj} {es : Array DictEntry} {ep : Nat}
theorem turn_itemsT {kvs : List (List Key × V)} {elts : List Expr} {kk : Nat} {tpos : Pos} (it : Addr) (hod : o.data = .dict es ep) :
    Turn P w K (.Tuple elts kk tpos) (Itit d o kvs) [it] it (fun i h => ∃ ok ov, IsItemIter h it d i kvs.length ep ok ov) where
  mem := by simp
  obj := fun i h st b hb => by
    have e : b = it := by simpa using hb
    subst e
    obtain ⟨ok, ov, e⟩ := st
    exact ⟨_, e, fun v z => nomatch z⟩
  keep := fun i h h' st k => let ⟨ok, ov, e⟩ := st; ⟨ok, ov, k it (by simp) _ e⟩
  item := by
    intro X hP hw hK hc i pins s σ H E I hf st hg
    subst hP hw hK
    obtain ⟨hd, hi⟩ := hg
    obtain ⟨hs, hgd, hx, es', ep', hdt, hsz, ent⟩ := frzV I hd
    rw [hod] at hdt
    cases hdt
    obtain ⟨⟨k, v⟩, hkv⟩ : ∃ p, kvs[i]? = some p := ⟨kvs[i], List.getElem?_eq_getElem hi⟩
    obtain ⟨en, q, hen, hkey, hval, hq⟩ := ent i k v hkv
    obtain ⟨ok, ov, he⟩ := st
    rw [← hsz] at he
    have hlt : it < s.heap.objs.size := Heap.lt_size he
    have hie : i < es.size := by omega
    have een : es[i] = en := by rw [Array.getElem?_eq_getElem hie] at hen; exact Option.some.inj hen
    refine wpAny_pyNext_items_item_raw he ⟨o, hgd, hx, hod⟩ hie fun h' ho hT hz hk => ?_
    rw [een] at ho hT
    refine ⟨_, rfl, wpAny_letOwnedTupleGo_items (s := { s with heap := h' }) ho fun h'' he' sb => ?_⟩
    have hT2 : h''.get? s.heap.objs.size = some { cls := .type "tuple", data := .seq #[en.key, en.val] } := (sb.2 _ (Nat.ne_of_gt hlt)).trans hT
    have new : ObjOk X.prog X.w (upd H s.heap.objs.size (.tup [.ref q, v])) h'' s.heap.objs.size (.tup [.ref q, v]) :=
      ⟨by show 2 ≤ sizeLine; decide, [en.key, en.val], .cons hkey (.cons hval .nil), ⟨_, hT2, rfl, _, rfl⟩⟩
    have I1 : Inv X pins σ (upd H s.heap.objs.size (.tup [.ref q, v])) { s with heap := h'' } :=
      I.turnedNew (t' := s.toks) (ch := [it]) (fun b ob hb e => (sb.2 b (by simpa using hb)).trans (hk b ob (by simpa using hb) e)) hf (Nat.le_refl _) new
    refine ⟨.ref s.heap.objs.size, _, I1, rfl, ⟨_, q, k, v, hkv, rfl, I.hok.fresh (Nat.le_refl _), hq, rfl⟩, ⟨en.key, en.val, ?_⟩, fun b hb => ?_⟩
    · rw [← hsz]; exact he'
    · have e : b = it := by simpa using hb
      rw [e, upd_ne (Nat.ne_of_lt hlt)]
      exact (hf it (by simp)).1
  done := by
    intro X hP hw hK hc i pins s σ H E I hf st hg
    subst hP hw hK
    obtain ⟨hd, hi⟩ := hg
    obtain ⟨f0, f1, f2, f3, f4, f5⟩ := hf it (by simp)
    obtain ⟨hs, hgd, hx, es', ep', hdt, hsz, ent⟩ := frzV I hd
    rw [hod] at hdt
    cases hdt
    obtain ⟨ok, ov, he⟩ := st
    rw [← hsz] at he
    exact wpAny_pyNext_items_end_raw (I.ok.hd hc) he ⟨o, hgd, hx, hod⟩ (by omega) fun h' eb => ⟨rfl, I.turned (t' := s.toks) (fun b ob hb e => eb b ob hb e) f0 f1 f3 f4 f5⟩
  self := fun A i s Q E st h => let ⟨_, _, e⟩ := st; PySem.W.kcp_self e h
end
/-- the dict is locked -/
def iItemsT (td : TE) : TI := fun σ H R => td σ H fun x H1 => ∃ d o kvs, x = .ref d ∧ H1 d = some (.frz o (.dT kvs)) ∧ R (Itit d o kvs) H1
section
variable {X : Cx} {e : Expr} {td : TE} {apos cpos : Pos}
theorem pi_itemsT {elts : List Expr} {kk : Nat} {tpos : Pos} (he : PE X e td) (hbase : attributeBase e "items" X.env (eval e X.env) = eval e X.env := by rfl) (hline : (apos.endLine == cpos.line) = true := by rfl) :
    PI X (.Tuple elts kk tpos) (.Call (.Attribute e "items" apos) [] [] cpos) (iItemsT td) := by
  refine ⟨fun pins s σ H R I h => ?_⟩
  refine wpAny_Call_method (T := "dict") (id := "dict.items") hbase rfl hline F.plainAttrs_dict F.slot_dict_items F.type_dict_items (thn (he.run pins s σ H _ I h) fun u s1 ⟨x, H1, I1, rx, d, o, kvs, ex, hd, q⟩ => ?_)
  subst ex
  obtain rfl : u = Value.ref d := rx
  obtain ⟨hs, hgd, hx, es, ep, hdt, hsz, ent⟩ := frzV I1 hd
  have raw : s1.heap.DictRaw d es ep := ⟨o, hgd, hx, hdt⟩
  have ht : s1.TypeIs (.ref d) "dict" := raw.typeIs
  refine ⟨ht, fun b eb => ?_, ?_⟩
  · cases eb
    exact ⟨o, hgd, hx.2.1⟩
  have I2 : Inv X pins σ H1 { s1 with heap := s1.heap.push { cls := .type "dict_items", data := .fields #[.ref d] } } := I1.kept (t' := s1.toks) fun b ob q => Heap.get?_push_of_some _ q
  have fin : wpAny (model X.prog X.w) X.A (pyIter (.ref s1.heap.objs.size)) (PIE X pins σ (.Tuple elts kk tpos) R) X.xe { s1 with heap := s1.heap.push { cls := .type "dict_items", data := .fields #[.ref d] } } := by
    refine wpAny_pyIter_items_raw (d := d) ⟨_, Heap.get?_push_size _ rfl, rfl, rfl⟩ (raw.push _) (pi_one (tk := s1.toks) I2 _ (turn_itemsT _ hdt) ⟨.none, .none, ?_⟩ q)
    rw [← hsz]
    exact Heap.get?_push_size _ rfl
  show wpAny _ _ (callWith cpos (.builtin "dict.items") [.ref d] [] []) _ X.xe s1
  exact method_meetsIn F.slot_dict_items F.entry_dict_items rfl (PySem.evalArgs_none ⟨rfl, ht, F.args_dict_items_1 _, _, PySem.meets_dict_items_raw d hs, ⟨es, ep, raw⟩, fin⟩)
end
/-- a comprehension over the items -/
theorem lc_itemsT {d : Addr} {o : Obj} {kvs : List (List Key × V)} {g : TG} {tt : TT} {te : TE} {vs : List Nat} {σ : L2.St} {H1 : Hp} {D : Addr} {Qd : Hp → Prop} (Pv : Nat → Hp → Prop) (h0 : Pv 0 (upd H1 D (.lst []))) (hl : ∀ i H, i ≤ kvs.length → Pv i H → H d = some (.frz o (.dT kvs)))
    (hs : ∀ i T b k v H, kvs[i]? = some (k, v) → Pv i H → H T = none → H b = some (.tup (k.map kV)) → g (.ref T) (wipe σ vs) (upd H T (.tup [.ref b, v])) fun σ2 H2 => wipe σ2 vs = wipe σ vs ∧ tt σ2 H2 fun c H3 =>
      if c = true then te σ2 H3 fun y H4 => ∃ acc, H4 D = some (.lst acc) ∧ acc.length < sizeLine ∧ Pv (i + 1) (upd H4 D (.lst (acc ++ [y]))) else Pv (i + 1) H3) (hd : ∀ H, Pv kvs.length H → Qd H) :
    ∃ W : Nat → Nat → Hp → Prop, (∃ m, W 0 m (upd H1 D (.lst []))) ∧ ∀ i m H, W i m H →
      ((Itit d o kvs).stop i H ∧ Qd H) ∨ ((Itit d o kvs).go i H ∧ ∃ Nx : Hp → Prop, (∀ H', Nx H' → ∃ m', m' < m ∧ W (i + 1) m' H') ∧ ∀ x H', (Itit d o kvs).yld i H x H' → g x (wipe σ vs) H' fun σ2 H2 => wipe σ2 vs = wipe σ vs ∧ tt σ2 H2 fun c H3 =>
        if c = true then te σ2 H3 fun y H4 => ∃ acc, H4 D = some (.lst acc) ∧ acc.length < sizeLine ∧ Nx (upd H4 D (.lst (acc ++ [y]))) else Nx H3) := by
  refine ⟨fun i m H => m = kvs.length - i ∧ i ≤ kvs.length ∧ Pv i H, ⟨kvs.length, by simp, Nat.zero_le _, h0⟩, ?_⟩
  rintro i m H ⟨rfl, hi, p⟩
  by_cases hlt : i < kvs.length
  · refine .inr ⟨⟨hl i H hi p, hlt⟩, Pv (i + 1), fun H' p' => ⟨kvs.length - (i + 1), by omega, rfl, hlt, p'⟩, fun x H' y => ?_⟩
    obtain ⟨T, b, k, v, h1, rfl, h2, h3, rfl⟩ := y
    exact hs i T b k v H h1 p h2 h3
  · have e : i = kvs.length := by omega
    subst e
    exact .inl ⟨⟨hl _ H hi p, Nat.le_refl _⟩, hd H p⟩
end Bt
namespace Bt
namespace ST
open PySem PySem.Spec PyProof.Rows L2
/-! ### sets whose members are tuples of texts and ints: the machine's side -/
abbrev hk (P : Program) (w : World) (k : List Key) : Int := tupleKeyHash (mixKind P w) k
abbrev IsK (P : Program) (w : World) (h : Heap) (k : List Key) (a : Addr) : Prop := IsTupleKey (mixKind P w) h k a
section
variable {P : Program} {w : World} {A : Around} {E : Value → Shared → Prop} {s : Shared}
def Plain (v : Value) : Prop := (∃ i t, v = .int i t) ∨ ∃ x t, v = .str x t
theorem plains {k : List Key} {vs : List Value} (h : ItemsAre (mixKind P w) k vs) : ∀ v ∈ vs, Plain v := by
  induction h with
  | nil => exact fun v hv => nomatch hv
  | cons h1 _ ih =>
    intro v hv
    rcases List.mem_cons.mp hv with rfl | hv
    · rcases keyIs_shape h1 with ⟨i, t, _, e⟩ | ⟨x, t, _, e⟩
      · exact .inl ⟨i, t, e⟩
      · exact .inr ⟨x, t, e⟩
    · exact ih v hv
theorem aClass_key {k : List Key} {b : Addr} {Q : Bool → Shared → Prop} (hb : IsK P w s.heap k b) (h : Q false s) : wpAny (model P w) A (ofAClassStatement 8 (.ref b)) Q E s := by
  have ty := hb.typeIs
  obtain ⟨o, items, n, ho, _, hd, hi⟩ := hb
  unfold ofAClassStatement
  refine wpAny_bind (wpAny_typeOf ty ?_)
  have et : (("tuple" : String) == "tuple") = true := by decide
  simp only [et, if_true, Bool.not_true, Bool.false_eq_true, if_false]
  show wpAny _ _ (seqItems? (.ref b) >>= _) _ _ s
  refine wpAny_bind (wpAny_seqItems ho hd (wpAny_bind ?_))
  show wpAny _ _ (forIn items _ _) _ _ s
  rw [← Array.forIn_toList]
  refine wpAny_forIn_list _ (fun rest r s' => r.1 = none ∧ s' = s ∧ ∀ v ∈ rest, Plain v) _ (fun v rest r s' => ?_) (fun r s' => ?_) _ _ ⟨rfl, rfl, plains hi⟩
  · rintro ⟨hr, rfl, all⟩
    have e : ofAClassStatement 7 v = pure false := by
      rcases all v List.mem_cons_self with ⟨i, t, rfl⟩ | ⟨x, t, rfl⟩ <;> rfl
    rw [e]
    refine wpAny_bind (wpAny_pure ?_)
    simp only [Bool.false_eq_true, if_false]
    exact wpAny_pure ⟨rfl, rfl, fun u hu => all u (List.mem_cons_of_mem _ hu)⟩
  · obtain ⟨r1, r2⟩ := r
    rintro ⟨hr, rfl, _⟩
    obtain rfl : r1 = none := hr
    exact wpAny_pure h
theorem byValue_key {k : List Key} {b : Addr} {Q : Bool → Shared → Prop} (hb : IsK P w s.heap k b) (h : ∀ c, Q c s) : wpAny (model P w) A (hashByValue 8 (.ref b)) Q E s := by
  have ty := hb.typeIs
  obtain ⟨o, items, n, ho, _, hd, hi⟩ := hb
  unfold hashByValue
  refine wpAny_bind (wpAny_specialOf ty F.slot_tuple_hash.lookup ?_)
  show wpAny _ _ (seqItems? (.ref b) >>= _) _ _ s
  refine wpAny_bind (wpAny_seqItems ho hd (wpAny_bind ?_))
  show wpAny _ _ (forIn items _ _) _ _ s
  rw [← Array.forIn_toList]
  refine wpAny_forIn_list _ (fun rest r s' => s' = s ∧ ∀ v ∈ rest, Plain v) _ (fun v rest r s' => ?_) (fun r s' => ?_) _ _ ⟨rfl, plains hi⟩
  · rintro ⟨rfl, all⟩
    have e : ∃ c, hashByValue 7 v = pure c := by
      rcases all v List.mem_cons_self with ⟨i, t, rfl⟩ | ⟨x, t, rfl⟩ <;> exact ⟨_, rfl⟩
    obtain ⟨c, e⟩ := e
    rw [e]
    refine wpAny_bind (wpAny_pure ?_)
    cases c <;> simp only [Bool.not_true, Bool.not_false, if_true, Bool.false_eq_true, if_false]
    · exact wpAny_pure (wpAny_pure (h _))
    · exact wpAny_pure ⟨rfl, fun u hu => all u (List.mem_cons_of_mem _ hu)⟩
  · rintro ⟨rfl, _⟩
    obtain ⟨r1, r2⟩ := r
    cases r1 with
    | none => exact wpAny_pure (h _)
    | some c => exact wpAny_pure (h c)
/-- looking a tuple up among tuples shows nothing of the table -/
theorem unseen {k : List Key} {b : Addr} {Q : Bool → Shared → Prop} (hb : IsK P w s.heap k b) {ys : List Value} (hy : ∀ y ∈ ys, ∃ k' c, y = Value.ref c ∧ IsK P w s.heap k' c) (h : Q false s) : wpAny (model P w) A (searchCouldBeSeen (.ref b) ys) Q E s := by
  unfold searchCouldBeSeen
  refine wpAny_bind (wpAny_forIn_list _ (fun rest r s' => r.1 = none ∧ s' = s ∧ ∀ y ∈ rest, ∃ k' c, y = Value.ref c ∧ IsK P w s.heap k' c) _ (fun v rest r s' => ?_) (fun r s' => ?_) _ _ ⟨rfl, rfl, hy⟩)
  · rintro ⟨hr, rfl, all⟩
    obtain ⟨k', c, rfl, hc⟩ := all v List.mem_cons_self
    have more : ∀ y ∈ rest, ∃ k' c, y = Value.ref c ∧ IsK P w s'.heap k' c := fun u hu => all u (List.mem_cons_of_mem _ hu)
    dsimp only
    by_cases z : (b == c || (carriedByValue (.ref b) && carriedByValue (.ref c))) = true
    · exact wp_if_pos z (wpAny_pure ⟨rfl, rfl, more⟩)
    · refine wp_if_neg z (wpAny_bind (wpAny_eqIsQuiet_tuple hb ?_))
      simp only [Bool.not_true, Bool.false_eq_true, if_false]
      refine wpAny_bind (wpAny_eqIsQuiet_tuple hc ?_)
      simp only [Bool.not_true, Bool.false_eq_true, if_false]
      refine wpAny_bind (aClass_key hb ?_)
      simp only [Bool.false_eq_true, if_false]
      refine wpAny_bind (aClass_key hc ?_)
      simp only [Bool.false_eq_true, if_false]
      exact wpAny_pure ⟨rfl, rfl, more⟩
  · obtain ⟨r1, r2⟩ := r
    rintro ⟨hr, rfl, _⟩
    obtain rfl : r1 = none := hr
    exact wpAny_pure h
/-- the set at a: its members with their places -/
structure TS (P : Program) (w : World) (h : Heap) (a : Addr) (L : List (Addr × List Key)) (es : Array (Int × Value)) (ep : Nat) (t : SetTable) : Prop where
  ob : ∃ o, h.get? a = some o ∧ o.ExactSet ∧ o.data = .set es ep t
  rows : es.toList = L.map fun p => (hk P w p.2, Value.ref p.1)
  tab : TabOk t (L.map fun p => hk P w p.2)
  nd : (L.map (·.2)).Nodup
  mem : ∀ p ∈ L, IsK P w h p.2 p.1
  room : L.length * 5 < t.mask * 3
  few : L.length < 64
variable {a : Addr} {L : List (Addr × List Key)} {es : Array (Int × Value)} {ep : Nat} {t : SetTable}
theorem TS.size (R : TS P w s.heap a L es ep t) : es.size = L.length := by
  rw [← Array.length_toList, R.rows, List.length_map]
theorem TS.places (R : TS P w s.heap a L es ep t) : t.place.size = L.length := by
  rw [R.tab.sz, List.length_map]
theorem TS.fits (R : TS P w s.heap a L es ep t) : t.fits es.size = true := by
  have h1 := R.places
  have h2 := R.size
  have h3 := R.room
  unfold SetTable.fits SetTable.fill
  rw [R.tab.dm, Bool.and_eq_true, beq_iff_eq, decide_eq_true_eq]
  exact ⟨by omega, by show t.place.size + 0 ≤ t.mask; omega⟩
theorem TS.row (R : TS P w s.heap a L es ep t) {i : Nat} {p : Addr × List Key} (h : L[i]? = some p) : es[i]? = some (hk P w p.2, Value.ref p.1) := by
  rw [← Array.getElem?_toList, R.rows, List.getElem?_map, h]
  rfl
theorem TS.stays (R : TS P w s.heap a L es ep t) : ¬ t.gaveWay = true := by
  unfold SetTable.gaveWay
  rw [mask_odd R.tab.mok]
  decide
/-- the c-th step of the way of k -/
abbrev stp (t : SetTable) (h : Int) (c : Nat) : SetTable.Probe := nth t.mask (runAt t.mask (SetTable.bits h % (t.mask + 1)) (SetTable.bits h)) c
theorem stp_clean (t : SetTable) (h : Int) (c : Nat) : (stp t h c).dummy = none := by
  have go : ∀ (n : Nat) (p : SetTable.Probe), p.dummy = none → (nth t.mask p n).dummy = none := fun n => by
    induction n with
    | zero => exact fun p e => e
    | succ n ih =>
      intro p e
      refine ih (adv t.mask p) ?_
      unfold adv
      split <;> exact e
  exact go c _ rfl
theorem stp_add (t : SetTable) (h : Int) (c q : Nat) : nth t.mask (stp t h c) q = stp t h (c + q) := (nth_add t.mask c _ q).symm
theorem srch_go (R : TS P w s.heap a L es ep t) {x : Addr} {k : List Key} (hx : IsK P w s.heap k x) (hu : A.units < cLine) (adding : Bool) {K : Nat} (hKf : K < 10 * SetTable.turns t.mask)
    (hK : way t.mask (hk P w k) K ∉ t.place.toList) (hKb : ∀ c, c < K → way t.mask (hk P w k) c ∈ t.place.toList) {Q : SetFound → Shared → Prop}
    (hin : k ∈ L.map (·.2) → ∀ r, (adding = true → r = none) → (adding = false → r.isSome = true) → Q (.there r) s) (hout : k ∉ L.map (·.2) → Q (.free (way t.mask (hk P w k) K) false) s) :
    ∀ (f c : Nat) (st : Option SetTable.Probe), st.getD (t.probeStart (hk P w k)) = stp t (hk P w k) c → c ≤ K → K - c < f →
      (∀ (i : Nat) p, L[i]? = some p → p.2 = k → ∃ c', c ≤ c' ∧ c' < K ∧ t.place.toList[i]? = some (way t.mask (hk P w k) c')) →
      wpAny (model P w) A (setSearchFrom a (.ref x) (hk P w k) adding f st) Q E s := by
  obtain ⟨o, ho, hex, hd⟩ := R.ob
  intro f
  induction f with
  | zero => exact fun c st _ _ hf _ => absurd hf (Nat.not_lt_zero _)
  | succ f ih =>
    intro c st hst hc hf hre
    rw [setSearchFrom_succ]
    refine wpAny_bind (wpAny_setState_of ho hd R.fits ?_)
    dsimp only
    refine wp_if_neg R.stays ?_
    have hcK : c + (K - c) = K := by omega
    have rowH : ∀ {i : Nat} {p : Addr × List Key}, L[i]? = some p → (es[i]?.map (·.1)).getD 0 = hk P w p.2 := fun hp => by rw [R.row hp]; rfl
    have found : ∀ (i : Nat) p, L[i]? = some p → p.2 = k → (es[i]?.map (·.1)).getD 0 = hk P w k := fun i p hp e => by rw [rowH hp, e]
    rcases go_spec t R.tab.ris R.tab.dm (fun i => (es[i]?.map (·.1)).getD 0) (hk P w k) (10 * SetTable.turns t.mask) (K - c) (stp t (hk P w k) c) (stp_clean _ _ _) (by omega)
      (fun q hq => by rw [stp_add]; exact hKb (c + q) (by omega)) (by rw [stp_add, hcK]; exact hK) with ⟨q, i, hq, hi, hh, hno, hpr⟩ | ⟨hno, hpr⟩
    · rw [stp_add] at hi
      have hpr' : t.probe (fun i => (es[i]?.map (·.1)).getD 0) (hk P w k) (st.getD (t.probeStart (hk P w k))) = some (.candidate (stp t (hk P w k) (c + q)).j i (stp t (hk P w k) (c + (q + 1)))) := by
        rw [hst, ← stp_add, ← stp_add]
        exact hpr
      rw [hpr']
      dsimp only
      have hil : i < L.length := by
        have h1 : i < t.place.toList.length := (List.getElem?_eq_some_iff.mp hi).1
        rw [Array.length_toList, R.places] at h1
        exact h1
      obtain ⟨p, hp⟩ : ∃ p, L[i]? = some p := ⟨_, List.getElem?_eq_getElem hil⟩
      have hpt := R.mem p (List.mem_of_getElem? hp)
      have live : t.slot (stp t (hk P w k) (c + q)).j = .live i := slot_live R.tab.ris hi
      have rest : wpAny (model P w) A (searchRest a (.ref x) (hk P w k) adding f es t (stp t (hk P w k) (c + q)).j i (stp t (hk P w k) (c + (q + 1)))) Q E s := by
        unfold searchRest
        rw [R.row hp]
        dsimp only
        refine wpAny_bind (wpAny_holding (wpAny_eqBool_tuple hu hpt hx ?_))
        refine wpAny_bind (wpAny_setState_of ho hd R.fits ?_)
        dsimp only
        by_cases hkk : p.2 = k
        · have hm : k ∈ L.map (·.2) := List.mem_map.mpr ⟨p, List.mem_of_getElem? hp, hkk⟩
          cases adding with
          | true => exact wp_if_pos (by simp [hkk]) (wpAny_pure (hin hm _ (fun _ => rfl) (fun z => nomatch z)))
          | false =>
            refine wp_if_neg (by simp) ?_
            rw [sameMem]
            dsimp only
            simp only [if_true, live, R.row hp]
            refine wpAny_bind (wpAny_isSame_ref_self (wpAny_bind (wpAny_pure ?_)))
            simp only [if_true]
            exact wp_if_pos (by simp [hkk]) (wpAny_pure (hin hm _ (fun z => nomatch z) (fun _ => rfl)))
        · refine wp_if_neg (by simp [hkk]) ?_
          rw [sameMem]
          dsimp only
          simp only [if_true, live, R.row hp]
          refine wpAny_bind (wpAny_isSame_ref_self (wpAny_bind (wpAny_pure ?_)))
          simp only [if_true]
          refine wp_if_neg (by simp [hkk]) ?_
          refine ih (c + (q + 1)) _ rfl (by omega) (by omega) fun i0 p0 h0 hk0 => ?_
          obtain ⟨c', a1, a2, a3⟩ := hre i0 p0 h0 hk0
          refine ⟨c', ?_, a2, a3⟩
          rcases Nat.lt_trichotomy c' (c + q) with z | z | z
          · refine absurd (found i0 p0 h0 hk0) (hno (c' - c) i0 (by omega) ?_)
            rw [stp_add, show c + (c' - c) = c' by omega]
            exact a3
          · rw [z] at a3
            have := slot_live R.tab.ris a3
            rw [show t.slot (way t.mask (hk P w k) (c + q)) = .live i from live] at this
            cases this
            rw [hp] at h0
            cases h0
            exact absurd hk0 hkk
          · omega
      by_cases hl : t.led = true
      · exact wp_if_neg (by simp [hl]) rest
      · refine wp_if_pos (by simp [hl]) (wpAny_bind (unseen hx (fun y hy => ?_) (wp_if_neg (by decide) rest)))
        obtain ⟨e, he, rfl⟩ := List.mem_map.mp hy
        have he2 : e ∈ es.toList := by
          have : e ∈ es ∧ e.1 = hk P w k := by simpa using he
          simpa using this.1
        rw [R.rows] at he2
        obtain ⟨p2, hp2, rfl⟩ := List.mem_map.mp he2
        exact ⟨p2.2, p2.1, rfl, R.mem p2 hp2⟩
    · have hpr' : t.probe (fun i => (es[i]?.map (·.1)).getD 0) (hk P w k) (st.getD (t.probeStart (hk P w k))) = some (.empty (stp t (hk P w k) K).j none) := by
        rw [hst]
        have := hpr
        rw [stp_add, hcK] at this
        exact this
      rw [hpr']
      refine wpAny_pure (hout fun hm => ?_)
      obtain ⟨p0, h0, hk0⟩ := List.mem_map.mp hm
      obtain ⟨i0, h00⟩ := List.mem_iff_getElem?.mp h0
      obtain ⟨c', a1, a2, a3⟩ := hre i0 p0 h00 hk0
      refine absurd (found i0 p0 h00 hk0) (hno (c' - c) i0 (by omega) ?_)
      rw [stp_add, show c + (c' - c) = c' by omega]
      exact a3
theorem srch (R : TS P w s.heap a L es ep t) {x : Addr} {k : List Key} (hx : IsK P w s.heap k x) (hu : A.units < cLine) (adding : Bool) {Q : SetFound → Shared → Prop}
    (hin : k ∈ L.map (·.2) → ∀ r, (adding = true → r = none) → (adding = false → r.isSome = true) → Q (.there r) s)
    (hout : k ∉ L.map (·.2) → ∀ K, way t.mask (hk P w k) K ∉ t.place.toList → (∀ c, c < K → way t.mask (hk P w k) c ∈ t.place.toList) → Q (.free (way t.mask (hk P w k) K) false) s) :
    wpAny (model P w) A (setSearch a (.ref x) (hk P w k) adding) Q E s := by
  have hroom := R.room
  obtain ⟨K, hKf, hK, hKb⟩ := R.tab.first (by rw [List.length_map]; omega) (hk P w k)
  have hbig : K < 100000 := by
    have : 10 * SetTable.turns t.mask ≤ 1420 := by
      unfold SetTable.turns
      rcases R.tab.mok with e | e | e <;> omega
    omega
  unfold setSearch
  refine srch_go R hx hu adding hKf hK hKb hin (fun z => hout z K hK hKb) 100000 0 none rfl (Nat.zero_le _) (by omega) fun i p hp e => ?_
  have hi : (L.map fun p => hk P w p.2)[i]? = some (hk P w k) := by rw [List.getElem?_map, hp, ← e]; rfl
  obtain ⟨j, hj⟩ : ∃ j, t.place.toList[i]? = some j := ⟨_, List.getElem?_eq_getElem (by
    rw [Array.length_toList, R.places]
    exact (List.getElem?_eq_some_iff.mp hp).1)⟩
  obtain ⟨c, hc, ec⟩ := R.tab.before hK hi hj
  exact ⟨c, Nat.zero_le _, hc, by rw [hj, ec]⟩
end
end ST
end Bt
namespace Bt
namespace ST
open PySem PySem.Spec PyProof.Rows L2
/-! ### a tuple put into a set of tuples -/
section
variable {α β : Type}
theorem range_pick (L : List α) : (List.range L.length).filterMap (fun i => L[i]?) = L := by
  have go : ∀ n, n ≤ L.length → (List.range n).filterMap (fun i => L[i]?) = L.take n := fun n => by
    induction n with
    | zero => exact fun _ => rfl
    | succ n ih =>
      intro hn
      rw [List.range_succ, List.filterMap_append, ih (by omega), List.take_add_one]
      congr 1
  rw [go _ (Nat.le_refl _), List.take_length]
theorem pick_perm (L : List α) {ord : List Nat} (h : ord.Perm (List.range L.length)) : (ord.filterMap fun i => L[i]?).Perm L := by
  have := h.filterMap (fun i => L[i]?)
  rwa [range_pick] at this
theorem pick_map (L : List α) (g : α → β) (ord : List Nat) : (ord.filterMap fun i => (L.map g)[i]?) = (ord.filterMap fun i => L[i]?).map g := by
  rw [List.map_filterMap]
  congr 1
  funext i
  rw [List.getElem?_map]
theorem pick_getD (L : List α) (g : α → β) (z : β) : ∀ ord : List Nat, (∀ i ∈ ord, i < L.length) → (ord.map fun i => (L.map g).getD i z) = (ord.filterMap fun i => L[i]?).map g
  | [], _ => rfl
  | i :: ord, h => by
    have hi := h i List.mem_cons_self
    rw [List.map_cons, pick_getD L g z ord fun j hj => h j (List.mem_cons_of_mem _ hj), List.filterMap_cons_some (List.getElem?_eq_getElem hi), List.map_cons]
    congr 1
    rw [List.getD_eq_getElem?_getD, List.getElem?_map, List.getElem?_eq_getElem hi]
    rfl
theorem ins_perm (L : List α) (p : Nat) (x : α) : (L.take p ++ x :: L.drop p).Perm (x :: L) := by
  refine List.perm_middle.trans ?_
  rw [List.take_append_drop]
end
section
variable {P : Program} {w : World} {A : Around} {E : Value → Shared → Prop} {s : Shared} {a : Addr} {L : List (Addr × List Key)} {es : Array (Int × Value)} {ep : Nat} {t : SetTable}
theorem key_same {h h' : Heap} {k : List Key} {b : Addr} {o : Obj} (hb : IsK P w h k b) (ho : h.get? a = some o) (hd : o.data = .set es ep t) (hs : Heap.SameBut a h h') : IsK P w h' k b := by
  obtain ⟨o', items, n, h1, h2, h3, h4⟩ := hb
  refine ⟨o', items, n, (hs.2 b fun z => ?_).trans h1, h2, h3, h4⟩
  rw [z, ho] at h1
  cases h1
  rw [hd] at h3
  cases h3
theorem relay {o : Obj} (ho : s.heap.get? a = some o) (hex : o.ExactSet) (hd : o.data = .set es ep t) (hrows : es.toList = L.map fun p => (hk P w p.2, Value.ref p.1)) (hsz : t.place.size = es.size) (hdm : t.dummies = #[]) (hfl : es.size ≤ t.mask)
    (nd : (L.map (·.2)).Nodup) (mem : ∀ p ∈ L, IsK P w s.heap p.2 p.1) (few : L.length < 64) {wanted M : Nat}
    (hw : SetTable.sizeAbove wanted - 1 = M) (hM : MaskOk M) (hw2 : SetTable.sizeAbove wanted ≤ 128) (hn : L.length * 5 < M * 3) {Q : Unit → Shared → Prop}
    (hQ : ∀ h' L' es' ep' t', Heap.SameBut a s.heap h' → TS P w h' a L' es' ep' t' → L'.Perm L → Q () { s with heap := h' }) : wpAny (model P w) A (setRelay a wanted) Q E s := by
  have hsl : es.size = L.length := by rw [← Array.length_toList, hrows, List.length_map]
  have fits : t.fits es.size = true := by
    unfold SetTable.fits SetTable.fill
    rw [hdm, Bool.and_eq_true, beq_iff_eq, decide_eq_true_eq]
    exact ⟨hsz, by show t.place.size + 0 ≤ t.mask; omega⟩
  obtain ⟨t', order, e, hp, T, em, _, _, ed⟩ := relaid_ok t (hs := es.map (·.1)) (wanted := wanted) hw hM (by rw [Array.size_map, hsl]; omega)
  rw [Array.size_map, hsl] at hp
  have pm := pick_perm L hp
  have r1 : (order.filterMap (es[·]?)).toList = (order.toList.filterMap fun i => L[i]?).map fun p => (hk P w p.2, Value.ref p.1) := by
    rw [Array.toList_filterMap, ← pick_map, ← hrows]
    congr 1
    funext i
    rw [Array.getElem?_toList]
  have r3 : (order.toList.map fun i => (es.map (·.1)).getD i 0) = (order.toList.filterMap fun i => L[i]?).map fun p => hk P w p.2 := by
    rw [← pick_getD L (fun p => hk P w p.2) 0 order.toList fun i hi => List.mem_range.mp (hp.mem_iff.mp hi)]
    congr 1
    funext i
    have ee : es.map (·.1) = (L.map fun p => hk P w p.2).toArray := by
      apply Array.toList_inj.mp
      rw [Array.toList_map, hrows, List.map_map]
      rfl
    rw [ee]
    simp [Array.getD_eq_getD_getElem?, List.getD_eq_getElem?_getD]
  rw [r3] at T
  have hs2 : (order.filterMap (es[·]?)).size = es.size := by
    rw [← Array.length_toList, r1, List.length_map, pm.length_eq, hsl]
  rw [setRelay_eq]
  refine wpAny_bind (wpAny_setState_of ho hd fits ?_)
  dsimp only
  refine wp_if_neg (by rw [sizeLine_eq]; omega) ?_
  rw [e]
  dsimp only
  refine wpAny_bind (wp_if_neg (by rw [hs2]; simp) ?_)
  refine wpAny_pure ?_
  dsimp only
  refine wpAny_storeSet_of ho hd ?_ (by rw [hs2, hsl, sizeLine_eq]; omega)
  have sb : Heap.SameBut a s.heap (s.heap.update a (Obj.putSet (order.filterMap (es[·]?)) t')) := Heap.SameBut.update ..
  refine hQ _ _ _ (ep + 1) t' sb ⟨⟨_, store_at ho hd, ⟨hex.1, hex.2.1, hex.2.2⟩, rfl⟩, r1, T, (pm.map (·.2)).nodup_iff.mpr nd, fun p hpm => key_same (mem p (pm.mem_iff.mp hpm)) ho hd sb, ?_, ?_⟩ pm
  · rw [pm.length_eq, em]
    exact hn
  · rw [pm.length_eq]
    exact few
theorem put_in (R : TS P w s.heap a L es ep t) {x : Addr} {k : List Key} (hx : IsK P w s.heap k x) (hu : A.units < cLine) (few : L.length + 1 < 64) {Q : Bool → Shared → Prop}
    (hQ : ∀ b h' L' es' ep' t', Heap.SameBut a s.heap h' → TS P w h' a L' es' ep' t' → (k ∈ L.map (·.2) → L' = L) → (k ∉ L.map (·.2) → L'.Perm ((x, k) :: L)) → Q b { s with heap := h' }) :
    wpAny (model P w) A (setAddHashed a (.ref x) (hk P w k)) Q E s := by
  obtain ⟨o, ho, hex, hd⟩ := R.ob
  have hsl := R.size
  have hroom := R.room
  unfold setAddHashed
  refine wpAny_holding ?_
  rw [show (100000 : Nat) = 99999 + 1 from rfl, setAddHashedIn_succ]
  refine wpAny_bind (wpAny_setState_of ho hd R.fits ?_)
  dsimp only
  refine wp_if_neg (by simp [byScan, Value.scannable]) ?_
  refine wpAny_bind (srch R hx hu true (fun hm r hr _ => ?_) fun hm K hK hb => ?_)
  · exact wpAny_pure (hQ false s.heap L es ep t (Heap.SameBut.refl a s.heap) R (fun _ => rfl) fun z => absurd hm z)
  · dsimp only
    refine wpAny_bind (wpAny_setState_of ho hd R.fits ?_)
    dsimp only
    obtain ⟨q1, q2, q3, q4, _, _, _, _, q9⟩ := R.tab.put hK hb
    generalize hpt : t.put (way t.mask (hk P w k) K) = pt at q1 q3 q4 q9 ⊢
    obtain ⟨t1, p⟩ := pt
    dsimp only at q1 q3 q4 q9 ⊢
    subst q1
    have hrow : (SetTable.insertAt es (SetTable.below t.place (way t.mask (hk P w k) K)) (hk P w k, Value.ref x)).toList = (L.take (SetTable.below t.place (way t.mask (hk P w k) K)) ++ (x, k) :: L.drop (SetTable.below t.place (way t.mask (hk P w k) K))).map fun p => (hk P w p.2, Value.ref p.1) := by
      rw [SetTable.toList_insertAt, R.rows, List.map_append, List.map_cons, List.map_take, List.map_drop]
    have hmid : (L.map fun p => hk P w p.2).take (SetTable.below t.place (way t.mask (hk P w k) K)) ++ hk P w k :: (L.map fun p => hk P w p.2).drop (SetTable.below t.place (way t.mask (hk P w k) K)) =
        (L.take (SetTable.below t.place (way t.mask (hk P w k) K)) ++ (x, k) :: L.drop (SetTable.below t.place (way t.mask (hk P w k) K))).map fun p => hk P w p.2 := by
      rw [List.map_append, List.map_cons, List.map_take, List.map_drop]
    rw [hmid] at q3
    have pm := ins_perm L (SetTable.below t.place (way t.mask (hk P w k) K)) (x, k)
    generalize hes1 : SetTable.insertAt es (SetTable.below t.place (way t.mask (hk P w k) K)) (hk P w k, Value.ref x) = es1 at hrow ⊢
    generalize L.take (SetTable.below t.place (way t.mask (hk P w k) K)) ++ (x, k) :: L.drop (SetTable.below t.place (way t.mask (hk P w k) K)) = L1 at pm hrow q3
    have len : L1.length = L.length + 1 := pm.length_eq
    have size1 : es1.size = L.length + 1 := by rw [← Array.length_toList, hrow, List.length_map, len]
    have nd1 : (L1.map (·.2)).Nodup := (pm.map (·.2)).nodup_iff.mpr (by rw [List.map_cons]; exact List.nodup_cons.mpr ⟨hm, R.nd⟩)
    have after : ∀ t2 : SetTable, TabOk t2 (L1.map fun p => hk P w p.2) → t2.mask = t.mask → t2.fill = L.length + 1 → wpAny (model P w) A (do
        storeSet a es1 t2
        if (!false && t2.tooFull) = true then do
            setRelay a (SetTable.grown (es.size + 1))
            pure true
          else pure true) Q E s := fun t2 T2 m2 f2 => by
      refine wpAny_bind (wpAny_storeSet_of ho hd ?_ (by rw [size1, sizeLine_eq]; omega))
      have sb : Heap.SameBut a s.heap (s.heap.update a (Obj.putSet es1 t2)) := Heap.SameBut.update ..
      have ho1 := store_at (es' := es1) (t' := t2) ho hd
      generalize s.heap.update a (Obj.putSet es1 t2) = h1 at sb ho1 ⊢
      have mem1 : ∀ p ∈ L1, IsK P w h1 p.2 p.1 := fun p hp => by
        rcases List.mem_cons.mp (pm.mem_iff.mp hp) with rfl | hp
        · exact key_same hx ho hd sb
        · exact key_same (R.mem p hp) ho hd sb
      by_cases hf : t2.tooFull = true
      · refine wp_if_pos (by simp [hf]) (wpAny_bind ?_)
        have full : (L.length + 1) * 5 ≥ t2.mask * 3 := by
          have h := hf
          unfold SetTable.tooFull at h
          rw [decide_eq_true_eq, f2] at h
          exact h
        have hsz1 : t2.place.size = es1.size := by rw [T2.sz, List.length_map, len, size1]
        rw [hsl]
        have two : (t.mask = 7 ∧ L.length = 4) ∨ (t.mask = 31 ∧ L.length = 18) := by
          rcases R.tab.mok with e | e | e <;> rw [m2, e] at full <;> rw [e] at hroom <;> omega
        have go : ∀ M, SetTable.sizeAbove (SetTable.grown (L.length + 1)) - 1 = M → MaskOk M → SetTable.sizeAbove (SetTable.grown (L.length + 1)) ≤ 128 → (L.length + 1) * 5 < M * 3 →
            wpAny (model P w) A (setRelay a (SetTable.grown (L.length + 1))) (fun _ s' => wpAny (model P w) A (pure true) Q E s') E { s with heap := h1 } := fun M z1 z2 z3 z4 => by
          refine relay (s := { s with heap := h1 }) ho1 ⟨hex.1, hex.2.1, hex.2.2⟩ rfl hrow hsz1 T2.dm (by rw [size1, m2]; rcases two with ⟨e, e2⟩ | ⟨e, e2⟩ <;> omega) nd1 mem1 (by rw [len]; exact few) z1 z2 z3 (by rw [len]; exact z4) ?_
          exact fun h2 L2 es2 ep2 t3 sb2 R2 pm2 => wpAny_pure (hQ true h2 L2 es2 ep2 t3 (sb.trans sb2) R2 (fun z => absurd z hm) fun _ => pm2.trans pm)
        rcases two with ⟨_, e2⟩ | ⟨_, e2⟩
        · exact go 31 (by rw [e2, size_20]) (.inr (.inl rfl)) (by rw [e2, size_20]; decide) (by omega)
        · exact go 127 (by rw [e2, size_76]) (.inr (.inr rfl)) (by rw [e2, size_76]; decide) (by omega)
      · refine wp_if_neg (by simp [hf]) (wpAny_pure (hQ true h1 L1 es1 (ep + 1) t2 sb ⟨⟨_, ho1, ⟨hex.1, hex.2.1, hex.2.2⟩, rfl⟩, hrow, T2, nd1, mem1, ?_, by rw [len]; exact few⟩ (fun z => absurd z hm) fun _ => pm))
        have h := hf
        unfold SetTable.tooFull at h
        rw [decide_eq_true_eq, f2] at h
        rw [len]
        omega
    have f1 : t1.fill = L.length + 1 := by rw [q9, List.length_map]
    have q3' : TabOk { t1 with plain := false } (L1.map fun p => hk P w p.2) := ⟨q3.ris, q3.dm, q3.sz, q3.mok, q3.bd, q3.reach⟩
    by_cases hpl : t1.plain = true
    · refine wp_if_pos hpl (wpAny_bind (byValue_key hx fun c => ?_))
      cases c
      · exact after _ q3' q4 f1
      · exact after _ q3 q4 f1
    · exact wp_if_neg hpl (wpAny_bind (wpAny_pure (after _ q3 q4 f1)))
/-- the set at a, its members told by their places; that these hold the tuples is told apart -/
def TS0 (P : Program) (w : World) (h : Heap) (a : Addr) (L : List (Addr × List Key)) : Prop := ∃ (es : Array (Int × Value)) (ep : Nat) (t : SetTable), (∃ o, h.get? a = some o ∧ o.ExactSet ∧ o.data = .set es ep t) ∧ (es.toList = L.map fun p => (hk P w p.2, Value.ref p.1)) ∧
  TabOk t (L.map fun p => hk P w p.2) ∧ (L.map (·.2)).Nodup ∧ L.length * 5 < t.mask * 3 ∧ L.length < 64
theorem TS.bare {h : Heap} (R : TS P w h a L es ep t) : TS0 P w h a L := ⟨es, ep, t, R.ob, R.rows, R.tab, R.nd, R.room, R.few⟩
theorem TS0.full {h : Heap} (R : TS0 P w h a L) (m : ∀ p ∈ L, IsK P w h p.2 p.1) : ∃ es ep t, TS P w h a L es ep t := let ⟨es, ep, t, h1, h2, h3, h4, h5, h6⟩ := R; ⟨es, ep, t, h1, h2, h3, h4, m, h5, h6⟩
def SetKO (P : Program) (w : World) (a : Addr) (L : List (Addr × List Key)) : HO := .ext fun h => TS0 P w h a L
theorem setKO_new {H : Hp} {h : Heap} (R : TS0 P w h a L) : ObjOk P w H h a (SetKO P w a L) := by
  refine ⟨R, ?_, fun h1 h2 x k => ?_⟩
  · obtain ⟨_, _, _, ⟨o, ho, _⟩, _⟩ := R
    exact ⟨o, ho⟩
  · obtain ⟨es, ep, t, ⟨o, ho, r⟩, r2⟩ := x
    exact ⟨es, ep, t, ⟨o, k o ho, r⟩, r2⟩
theorem fresh_set {h : Heap} : TS0 P w (h.push { cls := .type "set", dict := none, data := .set #[] 0 (.fresh 0 0 (!w.params.followText "set-order")) }) h.objs.size [] := by
  refine ⟨#[], 0, _, ⟨_, Heap.get?_push_size _ rfl, ⟨rfl, rfl, rfl⟩, rfl⟩, rfl, ⟨List.Pairwise.nil, rfl, rfl, .inl rfl, fun x hx => (by cases hx), fun i h j hi => (by simp at hi)⟩, List.nodup_nil, ?_, by decide⟩
  show 0 * 5 < 7 * 3
  decide
end
section
variable {X : Cx} {pins : List (Addr × Obj)} {σ : L2.St} {H : Hp} {s : Shared} {E : Value → Shared → Prop}
/-- the members are tracked -/
def Mem (H : Hp) (L : List (Addr × List Key)) : Prop := ∀ p ∈ L, H p.1 = some (.tup (p.2.map kV))
theorem set_get {a : Addr} {L : List (Addr × List Key)} (I : Inv X pins σ H s) (ha : H a = some (SetKO X.prog X.w a L)) (m : Mem H L) : ∃ es ep t, TS X.prog X.w s.heap a L es ep t := (I.hok a _ ha).1.full fun p hp => key_of I.hok (m p hp)
theorem set_add {D b : Addr} {L : List (Addr × List Key)} {k : List Key} {Q : Value → Shared → Prop} (I : Inv X pins σ H s) (hu : X.A.units + 2 < cLine) (hD : H D = some (SetKO X.prog X.w D L)) (m : Mem H L) (hb : H b = some (.tup (k.map kV))) (few : L.length + 1 < 64)
    (h : ∀ s' L', (k ∈ L.map (·.2) → L' = L) → (k ∉ L.map (·.2) → L'.Perm ((b, k) :: L)) → Inv X pins σ (upd H D (SetKO X.prog X.w D L')) s' → Q .none s') : wpAny (model X.prog X.w) X.A (call (.builtin "set.add") [.ref D, .ref b]) Q E s := by
  obtain ⟨es, ep, t, R⟩ := set_get I hD m
  obtain ⟨o, ho, hex, hd⟩ := id R.ob
  have ty : s.TypeIs (.ref D) "set" := ⟨o, ho, hex.1⟩
  refine wpAny_call_entry F.slot_set_add ty F.entry_set_add ?_ (F.args_set_add_2 _ _)
  unfold Builtin.«set.add» Builtin.Frozenset.oneOther
  simp only [List.isEmpty_nil, bind_assoc]
  unfold Builtin.Frozenset.addrOf setAdd
  refine wpAny_bind (wpAny_pure ?_)
  try dsimp only
  refine wpAny_bind (wpAny_pure ?_)
  try dsimp only
  refine wpAny_bind (wpAny_holding ?_)
  refine wpAny_bind ((tupleKind (mixKind X.prog X.w)).pyHash (k := k) ?_ (key_of I.hok hb) ?_)
  · show X.A.in1.units < cLine
    simp only [Around.in1]
    omega
  refine put_in (s := { s with toks := s.toks + (tupleKind (mixKind X.prog X.w)).draws k }) R (key_of I.hok hb) ?_ few fun b' h' L' es' ep' t' sb R' c1 c2 => ?_
  · show X.A.in1.units < cLine
    simp only [Around.in1]
    omega
  show wpAny _ _ (ret Value.none) _ _ _
  have he : ∃ u, h'.get? D = some u := by
    obtain ⟨o', ho', _⟩ := R'.ob
    exact ⟨o', ho'⟩
  exact wpAny_pure ⟨_, rfl, h _ L' c1 c2 (I.write (e := D) (t' := s.toks + (tupleKind (mixKind X.prog X.w)).draws k) (by rw [hD]; trivial) (.inl rfl) (fun b u hb hu => (sb.2 b hb).trans hu) he (setKO_new R'.bare))⟩
end
end ST
end Bt
namespace Bt
namespace ST
open PySem PySem.Spec PyProof.Rows L2
/-! ### {k for .. in ..}, k a tuple of texts; its length -/
/-- what one turn gives: a tuple put in -/
def addK (P : Program) (w : World) (D : Addr) (y : V) (H : Hp) (N : Hp → Prop) : Prop := ∃ (b : Addr) (k : List Key) (L : List (Addr × List Key)), y = .ref b ∧ H b = some (.tup (k.map kV)) ∧ H D = some (SetKO P w D L) ∧ Mem H L ∧ L.length + 1 < 64 ∧
  ∀ L', (k ∈ L.map (·.2) → L' = L) → (k ∉ L.map (·.2) → L'.Perm ((b, k) :: L)) → N (upd H D (SetKO P w D L'))
def tScK (P : Program) (w : World) (wi : TI) (g : TG) (tt : TT) (te : TE) (vs : List Nat) : TE := fun σ H Q => wi σ H fun J H1 => ∀ D, H1 D = none → ∃ W : Nat → Nat → Hp → Prop, (∃ m, W 0 m (upd H1 D (SetKO P w D []))) ∧ ∀ i m H, W i m H →
  (J.stop i H ∧ Q (.ref D) H) ∨ (J.go i H ∧ ∃ Nx : Hp → Prop, (∀ H', Nx H' → ∃ m', m' < m ∧ W (i + 1) m' H') ∧ ∀ x H', J.yld i H x H' → g x (wipe σ vs) H' fun σ2 H2 => wipe σ2 vs = wipe σ vs ∧ tt σ2 H2 fun b H3 =>
    if b = true then te σ2 H3 fun y H4 => addK P w D y H4 Nx else Nx H3)
section
variable {X : Cx}
theorem addK_ok {X' : Cx} {pins : List (Addr × Obj)} {σ : L2.St} {H : Hp} {s : Shared} {D : Addr} {y : V} {u : Value} {N : Hp → Prop} {E : Value → Shared → Prop} {Q : Value → Shared → Prop} (I : Inv X' pins σ H s) (hu : X'.A.units + 2 < cLine) (r : RelV y u) (h : addK X'.prog X'.w D y H N)
    (q : ∀ s' H', Inv X' pins σ H' s' → N H' → Q .none s') : wpAny (model X'.prog X'.w) X'.A (call (.builtin "set.add") [.ref D, u]) Q E s := by
  obtain ⟨b, k, L, rfl, hb, hD, m, few, n⟩ := h
  cases r
  exact set_add I hu hD m hb few fun s' L' c1 c2 I' => q s' _ I' (n L' c1 c2)
theorem scK_run {pins : List (Addr × Obj)} {σ : L2.St} {Q : VK} {elt tg iter : Expr} {ifs : List Expr} {scope : Scope} {own : List (Str × Nat)} {pos : Pos} {g : TG} {tt : TT} {te : TE} {J : It} {fp : List Addr} {it D : Addr} {tn : Nat → Heap → Prop} {s3 : Shared} {H3 : Hp} {W : Nat → Nat → Hp → Prop} {m0 : Nat}
    (hc : X.calm = true) (hu : X.A.units + 2 < cLine) (hN : X.N.Nodup) (ok : BlkOk X.N X.env.scope scope own)
    (hg : ∀ (s : Shared) (H : Hp) (C : Addr) (cl : List (Str × Addr)) (fp : List Addr), PG (X.blk s H scope (compEnvC scope cl C X.env) fp) tg g) (ht : ∀ (s : Shared) (H : Hp) (C : Addr) (cl : List (Str × Addr)) (fp : List Addr), PTs (X.blk s H scope (compEnvC scope cl C X.env) fp) ifs tt)
    (he : ∀ (s : Shared) (H : Hp) (C : Addr) (cl : List (Str × Addr)) (fp : List Addr), PE (X.blk s H scope (compEnvC scope cl C X.env) fp) elt te)
    (T : Turn X.prog X.w X.K tg J fp it tn) (I3 : Inv X pins σ H3 s3) (f3 : ∀ b ∈ fp, FpOk X pins H3 b ∧ b < s3.heap.objs.size) (st3 : tn 0 s3.heap) (w0 : W 0 m0 H3)
    (turn : ∀ i m H, W i m H → (J.stop i H ∧ Q (.ref D) H) ∨ (J.go i H ∧ ∃ Nx : Hp → Prop, (∀ H', Nx H' → ∃ m', m' < m ∧ W (i + 1) m' H') ∧ ∀ x H', J.yld i H x H' → g x (wipe σ (own.map (·.2))) H' fun σ2 H2 => wipe σ2 (own.map (·.2)) = wipe σ (own.map (·.2)) ∧ tt σ2 H2 fun b H3 =>
      if b = true then te σ2 H3 fun y H4 => addK X.prog X.w D y H4 Nx else Nx H3)) :
    codeAny (model X.prog X.w) X.A (.compStart (.SetComp elt [⟨tg, iter, ifs, 0⟩] scope pos) 0 (.ref it) (.ref D) (compEnvC scope (cellsFrom (s3.heap.objs.size + 1) scope.names (cloFrom X.env.cells scope.names [])) s3.heap.objs.size X.env))
      (compPost (model X.prog X.w) X.A X.xe none (EP X pins σ Q) (.ref D) s3.heap.objs.size) { s3 with heap := pushCells (s3.heap.push { cls := .type "dict", data := .dict #[] }) scope.names } := by
  have I4 := block_start I3 ok hN f3
  obtain ⟨cells, hcells⟩ : ∃ c, c = cellsFrom (s3.heap.objs.size + 1) scope.names (cloFrom X.env.cells scope.names []) := ⟨_, rfl⟩
  rw [← hcells] at I4 ⊢
  have pg := hg s3 H3 s3.heap.objs.size cells fp
  have pt := ht s3 H3 s3.heap.objs.size cells fp
  have pe := he s3 H3 s3.heap.objs.size cells fp
  have cL : (compEnvC scope cells s3.heap.objs.size X.env).locals = s3.heap.objs.size := rfl
  generalize compEnvC scope cells s3.heap.objs.size X.env = ce at I4 pg pt pe cL ⊢
  have st4 : tn 0 ({ s3 with heap := pushCells (s3.heap.push { cls := .type "dict", data := .dict #[] }) scope.names } : Shared).heap := T.keep _ _ (pushCells (s3.heap.push { cls := .type "dict", data := .dict #[] }) scope.names) st3 fun b _ o e => pushCells_keeps _ _ _ _ (Heap.get?_push_of_some _ e)
  have own' : ∀ {σ' : L2.St} {H' : Hp} {s' : Shared}, Inv (X.blk s3 H3 scope ce fp) [] σ' H' s' → (∀ b ∈ fp, H' b = none) → ∀ b ∈ fp, FpOk (X.blk s3 H3 scope ce fp) [] H' b := fun I' hn b hb =>
    ⟨hn b hb, (I'.ok.exf b hb).1, I'.ok.exfs b hb, .inl hb, fun x c e => (I'.ok.exf b hb).2 x c e, fun p hp => nomatch hp⟩
  generalize ({ s3 with heap := pushCells (s3.heap.push { cls := .type "dict", data := .dict #[] }) scope.names } : Shared) = s4 at I4 st4 ⊢
  have nofp : ∀ b ∈ fp, H3 b = none := fun b hb => (f3 b hb).1.1
  have loop : codeAny (model X.prog X.w) X.A (.compLoop (.SetComp elt [⟨tg, iter, ifs, 0⟩] scope pos) 0 (.ref it) (.ref D) ce) (compPost (model X.prog X.w) X.A X.xe none (EP X pins σ Q) (.ref D) s3.heap.objs.size) s4 := by
    refine PpSet.compLoopS_any (fun n s' => ∃ i H', Inv (X.blk s3 H3 scope ce fp) [] (wipe σ (own.map (·.2))) H' s' ∧ tn i s'.heap ∧ (∀ b ∈ fp, H' b = none) ∧ W i n H') ?_ m0 ⟨0, H3, I4, st4, nofp, w0⟩
    rintro n s5 ⟨i, H5, I5, st5, n5, w5⟩
    rcases turn i n H5 w5 with ⟨stop, qq⟩ | ⟨go, Nx, hNx, step⟩
    · refine thnF (T.done (X.blk s3 H3 scope ce fp) rfl rfl rfl hc i [] s5 _ H5 (fun _ _ => False) I5 (own' I5 n5) st5 stop) fun r s6 ⟨hr, I6⟩ => ?_
      subst hr
      have I7 : Inv X pins σ H5 s6 := I3.call' (ch := fp) I6.os I6.base I6.hok I6.bare fun b hb => ⟨(f3 b hb).1.2.2.2.1, (f3 b hb).1.2.1, (f3 b hb).1.2.2.2.2.1, (f3 b hb).1.2.2.2.2.2⟩
      have nC : H5 s3.heap.objs.size = none := cL ▸ (show H5 ce.locals = none from I6.free)
      obtain ⟨m, hn, _⟩ := I6.loc
      have hn' : s6.heap.Ns s3.heap.objs.size m := cL ▸ (show s6.heap.Ns ce.locals m from hn)
      obtain ⟨f0, f1, f2, f4, f5, f6⟩ := I3.fpOk (Nat.le_refl _) nC
      exact ⟨m, hn', fun h'' sb => ⟨.ref D, H5, I7.turned (t' := s6.toks) (fun b o hb e => (sb.2 b hb).trans e) f0 f1 f4 f5 f6, rfl, qq⟩⟩
    · refine thnF (T.item (X.blk s3 H3 scope ce fp) rfl rfl rfl hc i [] s5 _ H5 (fun _ _ => False) I5 (own' I5 n5) st5 go) fun r s6 ⟨u, hr, h6⟩ => ?_
      subst hr
      refine thnF h6 fun _ s7 ⟨x, H7, I7, r7, y7, st7, n7⟩ => ?_
      have I7' := I7.pinned (own' I7 n7) (T.obj _ _ st7)
      refine thnF (pg.run _ s7 _ H7 x u _ I7' r7 (step x H7 y7)) fun _ s8 ⟨σ8, H8, I8, hw8, q8⟩ => ?_
      refine thnF (pt.run _ s8 σ8 H8 _ I8 q8) fun b s9 ⟨H9, I9, q9⟩ => ?_
      have fin : ∀ {s' : Shared} {H' : Hp}, Inv (X.blk s3 H3 scope ce fp) ([] ++ pinsAt fp s7.heap) σ8 H' s' → Nx H' → ∃ m, m < n ∧ ∃ i H', Inv (X.blk s3 H3 scope ce fp) [] (wipe σ (own.map (·.2))) H' s' ∧ tn i s'.heap ∧ (∀ b ∈ fp, H' b = none) ∧ W i m H' := fun {s' H'} I' nx => by
        obtain ⟨m', hm, w'⟩ := hNx H' nx
        have pin : ∀ b ∈ fp, ∀ o, s7.heap.get? b = some o → s'.heap.get? b = some o ∧ H' b = none := fun b hb o e =>
          let z := I'.pin (b, o) (List.mem_append_right _ (List.mem_append_right _ (mem_pinsAt hb e)))
          ⟨z.1, z.2.1⟩
        refine ⟨m', hm, i + 1, H', (I'.unpinned (pins := [])).weak (by rw [← hw8, wipe_length]) (fun j v e => (wipe_some (hw8 ▸ e)).1), T.keep _ _ _ st7 fun b hb o e => (pin b hb o e).1, fun b hb => ?_, w'⟩
        obtain ⟨o, e, _⟩ := T.obj _ _ st7 b hb
        exact (pin b hb o e).2
      cases b with
      | false =>
        simp only [Bool.false_eq_true, if_false] at q9 ⊢
        exact fin I9 q9
      | true =>
        simp only [if_true] at q9 ⊢
        exact thnF (pe.run _ s9 σ8 H9 _ I9 q9) fun z s10 ⟨yv, H10, I10, r10, ad⟩ => addK_ok (X' := X.blk s3 H3 scope ce fp) I10 hu r10 ad fun s11 H11 I11 nx => fin I11 nx
  exact PpSet.codeAny_compStart_set loop (T.self X.A 0 _ _ _ st4 loop)
theorem pe_scK {elt tg iter : Expr} {ifs : List Expr} {scope : Scope} {own : List (Str × Nat)} {pos : Pos} {wi : TI} {g : TG} {tt : TT} {te : TE} (hc : X.calm = true) (hu : X.A.units + 2 < cLine) (hN : X.N.Nodup) (hi : PI X tg iter wi) (ok : BlkOk X.N X.env.scope scope own)
    (hg : ∀ (s : Shared) (H : Hp) (C : Addr) (cl : List (Str × Addr)) (fp : List Addr), PG (X.blk s H scope (compEnvC scope cl C X.env) fp) tg g) (ht : ∀ (s : Shared) (H : Hp) (C : Addr) (cl : List (Str × Addr)) (fp : List Addr), PTs (X.blk s H scope (compEnvC scope cl C X.env) fp) ifs tt)
    (he : ∀ (s : Shared) (H : Hp) (C : Addr) (cl : List (Str × Addr)) (fp : List Addr), PE (X.blk s H scope (compEnvC scope cl C X.env) fp) elt te) (hs : ∀ x, foldedSetIterable iter X.env x = pure x := by intro _; rfl) :
    PE X (.SetComp elt [⟨tg, iter, ifs, 0⟩] scope pos) (tScK X.prog X.w wi g tt te (own.map (·.2))) := by
  refine ⟨fun pins s σ H Q I h => ?_⟩
  rw [PpSet.eval_SetComp]
  have known : ∀ y ∈ scope.names, y.2 = .free → ∃ c, X.env.cells.lookup y.1 = some c := fun y hy e => I.ok.has _ (ok.free y hy e)
  refine wpAny_comprehension_free (use := none) rfl hs (closure_ok known) ok.kind (fun y hy e => by rw [ok.uniq y hy, e]) (thn (hi.run pins s σ H _ I h) fun xv s1 hx => thn hx fun itv s2 ⟨it, fp, tn, J, H2, ei, I2, T, st2, f2, q⟩ => ?_)
  subst ei
  refine PpSet.newSet_ok (newEnv_comp ?_)
  have hDn : H2 s2.heap.objs.size = none := I2.hok.fresh (Nat.le_refl _)
  obtain ⟨W, ⟨m0, w0⟩, turn⟩ := q _ hDn
  have I3 : Inv X pins σ (upd H2 s2.heap.objs.size (SetKO X.prog X.w s2.heap.objs.size [])) { s2 with heap := s2.heap.push { cls := .type "set", dict := none, data := .set #[] 0 (.fresh 0 0 (!X.w.params.followText "set-order")) } } :=
    I2.laid (t' := s2.toks) (fun b o e => Heap.get?_push_of_some _ e) (Nat.le_refl _) (setKO_new fresh_set)
  have f3 : ∀ b ∈ fp, FpOk X pins (upd H2 s2.heap.objs.size (SetKO X.prog X.w s2.heap.objs.size [])) b ∧ b < (s2.heap.push { cls := .type "set", dict := none, data := .set #[] 0 (.fresh 0 0 (!X.w.params.followText "set-order")) }).objs.size := fun b hb => by
    obtain ⟨o, e, _⟩ := T.obj _ _ st2 b hb
    have lt := Heap.lt_size e
    refine ⟨⟨by rw [upd_ne (Nat.ne_of_lt lt)]; exact (f2 b hb).1, (f2 b hb).2⟩, by rw [Heap.size_push]; exact Nat.lt_succ_of_lt lt⟩
  have st3 := T.keep _ _ (s2.heap.push { cls := .type "set", dict := none, data := .set #[] 0 (.fresh 0 0 (!X.w.params.followText "set-order")) }) st2 fun b _ o e => Heap.get?_push_of_some _ e
  exact scK_run (pos := pos) hc hu hN ok hg ht he T I3 f3 st3 w0 turn
end
end ST
end Bt
namespace Bt
namespace ST
open PySem PySem.Spec PyProof.Rows L2
/-! ### sets of tuples: len, in, reading lemmas -/
def rLenK (P : Program) (w : World) : List V → Hp → VK → Prop := fun xs H Q => ∃ (a : Addr) (L : List (Addr × List Key)), xs = [V.ref a] ∧ H a = some (SetKO P w a L) ∧ Q (.int L.length) H
theorem call_lenK {X : Cx} : CallR X (.builtin "len") (rLenK X.prog X.w) := by
  intro pins s σ H xs us Q I r h
  obtain ⟨a, L, rfl, ha, q⟩ := h
  obtain ⟨u, rfl, ru⟩ := vals1 r
  cases ru
  obtain ⟨es, ep, t, ⟨o, ho, hx, hd⟩, rows, tab, nd, room, few⟩ := (I.hok a _ ha).1
  have size : es.size = L.length := by rw [← Array.length_toList, rows, List.length_map]
  have fits : t.fits es.size = true := by
    have h1 := tab.sz
    rw [List.length_map] at h1
    unfold SetTable.fits SetTable.fill
    rw [tab.dm, Bool.and_eq_true, beq_iff_eq, decide_eq_true_eq]
    exact ⟨by omega, by show t.place.size + 0 ≤ t.mask; omega⟩
  exact call_len_set ho hx hd fits (by omega) ⟨.int L.length, H, I.tok _, ⟨_, by rw [size]⟩, q⟩
theorem hasK_iff {L : List (Addr × List Key)} {k : List Key} : (L.any fun p => decide (p.2 = k)) = true ↔ k ∈ L.map (·.2) := by
  rw [List.any_eq_true, List.mem_map]
  exact ⟨fun ⟨p, h, e⟩ => ⟨p, h, of_decide_eq_true e⟩, fun ⟨p, h, e⟩ => ⟨p, h, decide_eq_true e⟩⟩
def hasK (L : List (Addr × List Key)) (k : List Key) : Bool := L.any fun p => decide (p.2 = k)
/-- k in s, k not in s -/
def rInK (P : Program) (w : World) (f : Bool → Bool) : R2 := fun x y H Q => ∃ (b a : Addr) (k : List Key) (L : List (Addr × List Key)), x = .ref b ∧ y = .ref a ∧ H b = some (.tup (k.map kV)) ∧ H a = some (SetKO P w a L) ∧ Mem H L ∧ Q (.bl (f (hasK L k))) H
theorem has_ok {X : Cx} {pins : List (Addr × Obj)} {σ : L2.St} {H : Hp} {s : Shared} {E : Value → Shared → Prop} {a b : Addr} {k : List Key} {L : List (Addr × List Key)} {Q : Value → Shared → Prop} (I : Inv X pins σ H s) (hu : X.A.units + 3 < cLine) (hb : H b = some (.tup (k.map kV))) (ha : H a = some (SetKO X.prog X.w a L)) (m : Mem H L)
    (f : Bool → Bool) (h : ∀ tk, Q (.bool (f (hasK L k))) { s with toks := tk }) : wpAny (model X.prog X.w) X.A (do return .bool (f (← contains (.ref a) (.ref b)))) Q E s := by
  obtain ⟨es, ep, t, R⟩ := set_get I ha m
  obtain ⟨o, ho, hex, hd⟩ := id R.ob
  have ty : s.TypeIs (.ref a) "set" := ⟨o, ho, hex.1⟩
  refine wpAny_bind ?_
  unfold contains
  try with_reducible refine wpAny_holding ?_
  refine wpAny_bind (wpAny_specialOf ty F.slot_set_contains.lookup ?_)
  show wpAny _ _ (if (some (Value.builtin "set.__contains__") == some Value.none) = true then _ else _) _ E s
  rw [if_neg (by rw [beq_builtin_none]; exact Bool.false_ne_true)]
  refine wpAny_bind (wpAny_callSpecialUnlessNone?_slot (name := Str.ofString "__contains__") ty F.slot_set_contains
    (wpAny_call_entry F.slot_set_contains ty entry_set_contains ?_ (F.args_set_contains_2 _ _)))
  unfold Builtin.«frozenset.__contains__» Builtin.Frozenset.oneOther
  simp only [List.isEmpty_nil, bind_assoc]
  unfold Builtin.Frozenset.addrOf Builtin.Frozenset.withSetAsKey setContains
  refine wpAny_bind (wpAny_pure ?_)
  try dsimp only
  refine wpAny_bind (wpAny_pure ?_)
  try dsimp only
  refine wpAny_bind (wpAny_tryCatch ?_)
  refine wpAny_holding ?_
  refine wpAny_bind ((tupleKind (mixKind X.prog X.w)).pyHash (k := k) ?_ (key_of I.hok hb) ?_)
  · show X.A.in1.units < cLine
    simp only [Around.in1]
    omega
  unfold setFind
  rw [show (100000 : Nat) = 99999 + 1 from rfl]
  unfold setFindIn
  refine wpAny_bind (wpAny_bind (wpAny_setState_of ho hd R.fits ?_))
  dsimp only
  refine wp_if_neg (by simp [byScan, Value.scannable]) ?_
  have fin : ∀ (r : Option Nat), r.isSome = hasK L k → wpAny (model X.prog X.w) X.A.in1 (ret (Value.bool r.isSome)) (fun fin s' => ∃ v, fin = .done (.ret v) ∧ wpAny (model X.prog X.w) X.A (truthy v) (fun c s'' => wpAny (model X.prog X.w) X.A (pure (.bool (f c))) Q E s'') E s') E { s with toks := s.toks + (tupleKind (mixKind X.prog X.w)).draws k } := fun r e => by
    rw [e]
    exact wpAny_pure ⟨_, rfl, wpAny_truthy_bool (wpAny_pure (h _))⟩
  refine wpAny_bind (srch (s := { s with toks := s.toks + (tupleKind (mixKind X.prog X.w)).draws k }) R (key_of I.hok hb) ?_ false (fun hm r _ hr => ?_) fun hm K _ _ => ?_)
  · show X.A.in1.units < cLine
    simp only [Around.in1]
    omega
  · refine wpAny_pure ?_
    exact wpAny_pure (fin r (by rw [hr rfl]; exact (hasK_iff.mpr hm).symm))
  · refine wpAny_pure ?_
    exact wpAny_pure (fin none (by
      show false = hasK L k
      cases e : hasK L k with
      | false => rfl
      | true => exact absurd (hasK_iff.mp e) hm))
theorem op_inK {X : Cx} (hu : X.A.units + 3 < cLine) : OpR X (compareOp .In) (rInK X.prog X.w id) := by
  intro pins s σ H x y v u Q I rx ry h
  obtain ⟨b, a, k, L, rfl, rfl, hb, ha, m, q⟩ := h
  cases rx
  cases ry
  exact has_ok I hu hb ha m id fun tk => ⟨.bl (hasK L k), H, I.tok tk, rfl, q⟩
theorem op_notinK {X : Cx} (hu : X.A.units + 3 < cLine) : OpR X (compareOp .NotIn) (rInK X.prog X.w not) := by
  intro pins s σ H x y v u Q I rx ry h
  obtain ⟨b, a, k, L, rfl, rfl, hb, ha, m, q⟩ := h
  cases rx
  cases ry
  exact has_ok I hu hb ha m not fun tk => ⟨.bl (!hasK L k), H, I.tok tk, rfl, q⟩
/-- {.. for x in a list} -/
theorem s_scK {P : Program} {w : World} {wi : TI} {g : TG} {tt : TT} {te : TE} {vs : List Nat} {σ : L2.St} {H : Hp} {Q : VK} (h : wi σ H fun J H1 => ∀ D, H1 D = none → ∃ W : Nat → Nat → Hp → Prop, (∃ m, W 0 m (upd H1 D (SetKO P w D []))) ∧ ∀ i m H, W i m H →
  (J.stop i H ∧ Q (.ref D) H) ∨ (J.go i H ∧ ∃ Nx : Hp → Prop, (∀ H', Nx H' → ∃ m', m' < m ∧ W (i + 1) m' H') ∧ ∀ x H', J.yld i H x H' → g x (wipe σ vs) H' fun σ2 H2 => wipe σ2 vs = wipe σ vs ∧ tt σ2 H2 fun b H3 =>
    if b = true then te σ2 H3 fun y H4 => addK P w D y H4 Nx else Nx H3)) : tScK P w wi g tt te vs σ H Q := h
theorem sc_listK {P : Program} {w : World} {K : PySem.W.Frag} {a : Addr} {xs : List V} {g : TG} {tt : TT} {te : TE} {vs : List Nat} {σ : L2.St} {H1 : Hp} {D : Addr} {Qd : Hp → Prop} (Pv : Nat → Hp → Prop) (h0 : Pv 0 (upd H1 D (SetKO P w D []))) (hl : ∀ i H, i ≤ xs.length → Pv i H → SqL K H a xs)
    (hs : ∀ i x H, xs[i]? = some x → Pv i H → g x (wipe σ vs) H fun σ2 H2 => wipe σ2 vs = wipe σ vs ∧ tt σ2 H2 fun b H3 => if b = true then te σ2 H3 fun y H4 => addK P w D y H4 (Pv (i + 1)) else Pv (i + 1) H3) (hd : ∀ H, Pv xs.length H → Qd H) :
    ∃ W : Nat → Nat → Hp → Prop, (∃ m, W 0 m (upd H1 D (SetKO P w D []))) ∧ ∀ i m H, W i m H →
      ((Itl K a).stop i H ∧ Qd H) ∨ ((Itl K a).go i H ∧ ∃ Nx : Hp → Prop, (∀ H', Nx H' → ∃ m', m' < m ∧ W (i + 1) m' H') ∧ ∀ x H', (Itl K a).yld i H x H' → g x (wipe σ vs) H' fun σ2 H2 => wipe σ2 vs = wipe σ vs ∧ tt σ2 H2 fun b H3 =>
        if b = true then te σ2 H3 fun y H4 => addK P w D y H4 Nx else Nx H3) := by
  refine ⟨fun i m H => m = xs.length - i ∧ i ≤ xs.length ∧ Pv i H, ⟨xs.length, by simp, Nat.zero_le _, h0⟩, ?_⟩
  rintro i m H ⟨rfl, hi, p⟩
  have q := hl i H hi p
  by_cases hlt : i < xs.length
  · refine .inr ⟨⟨xs, xs[i], q, by simp [hlt]⟩, Pv (i + 1), fun H' p' => ⟨xs.length - (i + 1), by omega, rfl, hlt, p'⟩, fun x H' y => ?_⟩
    obtain ⟨rfl, y⟩ := y
    exact hs i x _ (y xs q) p
  · have e : i = xs.length := by omega
    subst e
    exact .inl ⟨⟨xs, q, Nat.le_refl _⟩, hd H p⟩
end ST
end Bt
namespace PySem.W
open Lean Elab Tactic Meta PySem PySem.Calls PyProof.Rows
/-! ### an own operator, the other operand of a built-in kind -/
section
variable {prog : Program} {w : World} {A : Around} {E : Value → Shared → Prop} {s : Shared} {K : Frag} {x C f g : Addr} {ox : Obj} {od : Option Obj} {T : String} {op : Operator} {r : Bool}
theorem own_left {b : Value} {ro rc : Option Value} {Q : Value → Shared → Prop} (KX : K.In s.heap) (I : InstAt s.heap x ox C od) (hb : Looks (model prog w) s.heap (typeOf b) (.type T)) (hc : selfFirst K C = true)
    (hs : findIn K (.ref C) (PySem.dunder op.info.2) = some (some (.ref f))) (hf : isFn K (.ref f) = true) (hr : findIn K (.ref C) (dunderR op.info.2) = some rc) (hp : rc = none ∨ ∃ g : Addr, rc = some (.ref g))
    (fills : fillsNumberSlot (.type T) op.info.2 = pure r) (look : typeLookup (.type T) (dunderR op.info.2) = pure ro) (hsub : subIn K (.type T) (.ref C) = some false)
    (h : wpAny (model prog w) A (call (.ref f) [.ref x, b]) (CmpBack Q) E s) : wpAny (model prog w) A (binaryOp op (.ref x) b) Q E s := by
  obtain ⟨cd, rest, hcd, hm⟩ := ksp_first hc
  rcases hi : op.info with ⟨sym, nm'⟩
  rw [hi] at hs hr fills look
  dsimp only at hs hr fills look
  have one := ksp_try KX I hs hf h
  obtain ⟨hh, g, d, tt, os⟩ := s
  have L1 : Looks (model prog w) hh (typeOf (.ref x)) (.ref C) := I.type
  have L2 : Looks (model prog w) hh (typeOf b) (.type T) := hb
  have L3 : Looks (model prog w) hh (fillsNumberSlot (.ref C) nm') true := fills_K KX hcd hm hs
  have L4 : Looks (model prog w) hh (fillsNumberSlot (.type T) nm') r := Looks.of_pure fills
  have L5 : Looks (model prog w) hh (isSubtype (.type T) (.ref C)) false := looks_subIn KX hsub
  have L6 : Looks (model prog w) hh (numberSlotInPython (.ref C) nm') true := ksp_inPy KX hs hr hp
  have L7 : Looks (model prog w) hh (numberSlotInPython (.type T) nm') false := Looks.of_pure rfl
  have L8 : Looks (model prog w) hh (typeLookup (.type T) (dunderR nm')) ro := Looks.of_pure look
  have ne : (Value.ref C == Value.type T) = false := Bool.eq_false_iff.mpr fun q => by cases beq_iff_eq.mp q
  simp only [binaryOp, hi]
  refine wpAny_holding (wpAny_bind ?_)
  unfold binaryOp1
  refine wpAny_bind (L1.at (wpAny_bind (L2.at (wpAny_bind (L3.at ?_)))))
  simp only [ne, Bool.false_eq_true, if_false]
  cases r <;>
  · ksp_lk
    refine wpAny_mono one (fun r s' hr' => ?_) fun _ _ e => e
    obtain ⟨v, rfl, hq⟩ := hr'
    ksp_lk
    exact hq
theorem own_right {a : Value} {Q : Value → Shared → Prop} (KX : K.In s.heap) (I : InstAt s.heap x ox C od) (ha : Looks (model prog w) s.heap (typeOf a) (.type T)) (hc : selfFirst K C = true)
    (hs : findIn K (.ref C) (PySem.dunder op.info.2) = some (some (.ref g))) (hr : findIn K (.ref C) (dunderR op.info.2) = some (some (.ref f))) (hf : isFn K (.ref f) = true)
    (fills : fillsNumberSlot (.type T) op.info.2 = pure false)
    (h : wpAny (model prog w) A (call (.ref f) [.ref x, a]) (CmpBack Q) E s) : wpAny (model prog w) A (binaryOp op a (.ref x)) Q E s := by
  obtain ⟨cd, rest, hcd, hm⟩ := ksp_first hc
  rcases hi : op.info with ⟨sym, nm'⟩
  rw [hi] at hs hr fills
  dsimp only at hs hr fills
  have one := ksp_try KX I hr hf h
  obtain ⟨hh, gg, d, tt, os⟩ := s
  have L1 : Looks (model prog w) hh (typeOf (.ref x)) (.ref C) := I.type
  have L2 : Looks (model prog w) hh (typeOf a) (.type T) := ha
  have L3 : Looks (model prog w) hh (fillsNumberSlot (.ref C) nm') true := fills_K KX hcd hm hs
  have L4 : Looks (model prog w) hh (fillsNumberSlot (.type T) nm') false := Looks.of_pure fills
  have ne : (Value.type T == Value.ref C) = false := Bool.eq_false_iff.mpr fun q => by cases beq_iff_eq.mp q
  simp only [binaryOp, hi]
  refine wpAny_holding (wpAny_bind ?_)
  unfold binaryOp1
  refine wpAny_bind (L2.at (wpAny_bind (L1.at (wpAny_bind (L4.at ?_)))))
  simp only [ne, Bool.false_eq_true, if_false]
  ksp_lk
  refine wpAny_mono one (fun r s' hr' => ?_) fun _ _ e => e
  obtain ⟨v, rfl, hq⟩ := hr'
  ksp_lk
  exact hq
/-- the left operand's slot declines first -/
theorem own_right2 {a : Value} {Q : Value → Shared → Prop} (KX : K.In s.heap) (I : InstAt s.heap x ox C od) (ha : Looks (model prog w) s.heap (typeOf a) (.type T)) (hc : selfFirst K C = true)
    (hs : findIn K (.ref C) (PySem.dunder op.info.2) = some (some (.ref g))) (hr : findIn K (.ref C) (dunderR op.info.2) = some (some (.ref f))) (hf : isFn K (.ref f) = true)
    (fills : fillsNumberSlot (.type T) op.info.2 = pure true) (hsub : subIn K (.ref C) (.type T) = some false)
    (dec : ∀ Q' : Option Value → Shared → Prop, Q' none s → wpAny (model prog w) A (tryMethod a (PySem.dunder op.info.2) (.ref x)) Q' E s)
    (h : wpAny (model prog w) A (call (.ref f) [.ref x, a]) (CmpBack Q) E s) : wpAny (model prog w) A (binaryOp op a (.ref x)) Q E s := by
  obtain ⟨cd, rest, hcd, hm⟩ := ksp_first hc
  rcases hi : op.info with ⟨sym, nm'⟩
  rw [hi] at hs hr fills dec
  dsimp only at hs hr fills dec
  have one := ksp_try KX I hr hf h
  obtain ⟨hh, gg, d, tt, os⟩ := s
  have L1 : Looks (model prog w) hh (typeOf (.ref x)) (.ref C) := I.type
  have L2 : Looks (model prog w) hh (typeOf a) (.type T) := ha
  have L3 : Looks (model prog w) hh (fillsNumberSlot (.ref C) nm') true := fills_K KX hcd hm hs
  have L4 : Looks (model prog w) hh (fillsNumberSlot (.type T) nm') true := Looks.of_pure fills
  have L5 : Looks (model prog w) hh (isSubtype (.ref C) (.type T)) false := looks_subIn KX hsub
  have L7 : Looks (model prog w) hh (numberSlotInPython (.type T) nm') false := Looks.of_pure rfl
  have ne : (Value.type T == Value.ref C) = false := Bool.eq_false_iff.mpr fun q => by cases beq_iff_eq.mp q
  simp only [binaryOp, hi]
  refine wpAny_holding (wpAny_bind ?_)
  unfold binaryOp1
  refine wpAny_bind (L2.at (wpAny_bind (L1.at (wpAny_bind (L4.at ?_)))))
  simp only [ne, Bool.false_eq_true, if_false]
  ksp_lk
  refine dec _ ?_
  ksp_lk
  refine wpAny_mono one (fun r s' hr' => ?_) fun _ _ e => e
  obtain ⟨v, rfl, hq⟩ := hr'
  ksp_lk
  exact hq
end
end PySem.W
namespace Bt
open PySem PySem.Spec PyProof.Rows L2
/-! ### what the end wants of the classes -/
theorem ve_own {CB : Addr} : PySem.HandSPX.refsVE [.ref CB, .type "ValueError", .type "Exception", .type "BaseException", .type "object"] = true := show PySem.HandSPX.refsVE [.type "ValueError", .type "Exception", .type "BaseException", .type "object"] = true by decide +kernel
theorem exm_self {K : PySem.W.Frag} {S : Addr} (h1 : PySem.W.subIn K (.ref S) (.type "BaseException") = some true) (h2 : PySem.W.isClsIn K S = true) (h3 : PySem.W.typeIn K (.ref S) = some (.type "type")) (h4 : PySem.W.subIn K (.ref S) (.ref S) = some true) :
    PySem.W.exmOne K (.ref S) (.ref S) = some true := by
  have e1 : (PySem.W.subIn K (.ref S) (.type "BaseException") == some true) = true := by rw [h1] <;> rfl
  have e2 : ((PySem.W.clsIn K S).isSome && PySem.W.typeIn K (.ref S) == some (.type "type")) = true := by
    have h2' : (PySem.W.clsIn K S).isSome = true := h2
    rw [h2', h3] <;> rfl
  show (if (PySem.W.subIn K (.ref S) (.type "BaseException") == some true) = true then (if ((PySem.W.clsIn K S).isSome && PySem.W.typeIn K (.ref S) == some (.type "type")) = true then PySem.W.subIn K (.ref S) (.ref S) else none) else none) = some true
  rw [if_pos e1, if_pos e2]
  exact h4
theorem exc_binds {K : PySem.W.Frag} {qual fld : Str} {params : Arguments} {body : List Stmt} {scope : Scope} {f : Addr} {fd : FuncData} (F : FunD K "__init__" qual params body scope [.non] [] f fd)
    (h : ∀ (T : Addr) (kV doc pm : Value) (an : Option Addr) (cdv ct : Value) (us its : List Value), us.length = 2 → its.length = 1 →
      ∃ k, bindArgs (PySem.W.fnOf "__init__" qual params body scope (.ref T) kV doc pm an cdv ct) ⟨us, []⟩ = seqItems? (.ref T) >>= k ∧ k (some its.toArray) = pure ((["self", fld] : List Str).zip (us ++ its.drop 1))) : Binds K fd ["self", fld] [] := by
  obtain ⟨ds, hv, hb⟩ := F.binds1 (ps := ["self", fld]) 2 1 (by simp) rfl h
  cases hv
  exact hb
theorem kit_own {K : PySem.W.Frag} {C : Addr} : PySem.W.kitOne K (.ref C) (.ref C) = some true := by
  unfold PySem.W.kitOne
  rw [if_pos (by simp)]
theorem sub_no {K : PySem.W.Frag} {C : Addr} {T : String} (h : Kd T) : PySem.W.subIn K (.type T) (.ref C) = some false := by
  cases h <;> rfl
theorem kit_no {K : PySem.W.Frag} {C : Addr} {T : String} (h2 : PySem.W.isClsIn K C = true) (h3 : PySem.W.typeIn K (.ref C) = some (.type "type")) (h : Kd T) : PySem.W.kitOne K (.type T) (.ref C) = some false := by
  have e2 : ((PySem.W.clsIn K C).isSome && PySem.W.typeIn K (.ref C) == some (.type "type")) = true := by
    have h2' : (PySem.W.clsIn K C).isSome = true := h2
    rw [h2', h3] <;> rfl
  show (if ((Value.type T) == (Value.ref C)) = true then some true else (if ((PySem.W.clsIn K C).isSome && PySem.W.typeIn K (.ref C) == some (.type "type")) = true then PySem.W.subIn K (.type T) (.ref C) else none)) = some false
  rw [if_neg (by cases h <;> exact fun z => nomatch z), if_pos e2]
  exact sub_no h
theorem nf_kd {K : PySem.W.Frag} {C : Addr} {T : String} (h : Kd T) : PySem.W.notFirst K C (.type T) = true := by
  unfold PySem.W.notFirst
  rw [sub_no h]
  exact Bool.or_true _
theorem nf_own {K : PySem.W.Frag} {C : Addr} : PySem.W.notFirst K C (.ref C) = true := by
  unfold PySem.W.notFirst
  simp
end Bt
namespace Bt
open PySem PySem.Spec PyProof.Rows L2
theorem fills_of {T nm : String} {fo ro : Option Value} (h1 : typeLookup (.type T) (PySem.dunder nm) = pure fo) (h2 : typeLookup (.type T) (dunderR nm) = pure ro) :
    fillsNumberSlot (.type T) nm = pure ((fo.isSome && !isSeqSlot fo) || (ro.isSome && !isSeqSlot ro)) := by
  unfold fillsNumberSlot
  simp [h1, h2]
/-- what a built-in kind says of an operator -/
def OpK (nm T : String) (r : Bool) : Prop := fillsNumberSlot (.type T) nm = pure r ∧ ∃ ro, typeLookup (.type T) (dunderR nm) = pure ro
theorem opK_of {T nm : String} {fo ro : Option Value} {r : Bool} (h1 : typeLookup (.type T) (PySem.dunder nm) = pure fo) (h2 : typeLookup (.type T) (dunderR nm) = pure ro) (e : ((fo.isSome && !isSeqSlot fo) || (ro.isSome && !isSeqSlot ro)) = r) : OpK nm T r :=
  ⟨by rw [← e]; exact fills_of h1 h2, ro, h2⟩
theorem mul_none : OpK "mul" "NoneType" false := opK_of (fo := none) (ro := none) (by rw [typeLookup_type, builtinLookup_eq_fast]; kernel_rfl) (by rw [typeLookup_type, builtinLookup_eq_fast]; kernel_rfl) (by decide +kernel)
theorem mul_bool : OpK "mul" "bool" true := opK_of (fo := (some (.builtin "int.__mul__"))) (ro := (some (.builtin "int.__rmul__"))) (by rw [typeLookup_type, builtinLookup_eq_fast]; kernel_rfl) (by rw [typeLookup_type, builtinLookup_eq_fast]; kernel_rfl) (by decide +kernel)
theorem mul_int : OpK "mul" "int" true := opK_of (fo := (some (.builtin "int.__mul__"))) (ro := (some (.builtin "int.__rmul__"))) (by rw [typeLookup_type, builtinLookup_eq_fast]; kernel_rfl) (by rw [typeLookup_type, builtinLookup_eq_fast]; kernel_rfl) (by decide +kernel)
theorem mul_str : OpK "mul" "str" false := opK_of (fo := (some (.builtin "str.__mul__"))) (ro := (some (.builtin "str.__rmul__"))) (by rw [typeLookup_type, builtinLookup_eq_fast]; kernel_rfl) (by rw [typeLookup_type, builtinLookup_eq_fast]; kernel_rfl) (by decide +kernel)
theorem mul_list : OpK "mul" "list" false := opK_of (fo := (some (.builtin "list.__mul__"))) (ro := (some (.builtin "list.__rmul__"))) (by rw [typeLookup_type, builtinLookup_eq_fast]; kernel_rfl) (by rw [typeLookup_type, builtinLookup_eq_fast]; kernel_rfl) (by decide +kernel)
theorem mul_tuple : OpK "mul" "tuple" false := opK_of (fo := (some (.builtin "tuple.__mul__"))) (ro := (some (.builtin "tuple.__rmul__"))) (by rw [typeLookup_type, builtinLookup_eq_fast]; kernel_rfl) (by rw [typeLookup_type, builtinLookup_eq_fast]; kernel_rfl) (by decide +kernel)
theorem mul_dict : OpK "mul" "dict" false := opK_of (fo := none) (ro := none) (by rw [typeLookup_type, builtinLookup_eq_fast]; kernel_rfl) (by rw [typeLookup_type, builtinLookup_eq_fast]; kernel_rfl) (by decide +kernel)
theorem fdv_none : OpK "floordiv" "NoneType" false := opK_of (fo := none) (ro := none) (by rw [typeLookup_type, builtinLookup_eq_fast]; kernel_rfl) (by rw [typeLookup_type, builtinLookup_eq_fast]; kernel_rfl) (by decide +kernel)
theorem fdv_bool : OpK "floordiv" "bool" true := opK_of (fo := (some (.builtin "int.__floordiv__"))) (ro := (some (.builtin "int.__rfloordiv__"))) (by rw [typeLookup_type, builtinLookup_eq_fast]; kernel_rfl) (by rw [typeLookup_type, builtinLookup_eq_fast]; kernel_rfl) (by decide +kernel)
theorem fdv_int : OpK "floordiv" "int" true := opK_of (fo := (some (.builtin "int.__floordiv__"))) (ro := (some (.builtin "int.__rfloordiv__"))) (by rw [typeLookup_type, builtinLookup_eq_fast]; kernel_rfl) (by rw [typeLookup_type, builtinLookup_eq_fast]; kernel_rfl) (by decide +kernel)
theorem fdv_str : OpK "floordiv" "str" false := opK_of (fo := none) (ro := none) (by rw [typeLookup_type, builtinLookup_eq_fast]; kernel_rfl) (by rw [typeLookup_type, builtinLookup_eq_fast]; kernel_rfl) (by decide +kernel)
theorem fdv_list : OpK "floordiv" "list" false := opK_of (fo := none) (ro := none) (by rw [typeLookup_type, builtinLookup_eq_fast]; kernel_rfl) (by rw [typeLookup_type, builtinLookup_eq_fast]; kernel_rfl) (by decide +kernel)
theorem fdv_tuple : OpK "floordiv" "tuple" false := opK_of (fo := none) (ro := none) (by rw [typeLookup_type, builtinLookup_eq_fast]; kernel_rfl) (by rw [typeLookup_type, builtinLookup_eq_fast]; kernel_rfl) (by decide +kernel)
theorem fdv_dict : OpK "floordiv" "dict" false := opK_of (fo := none) (ro := none) (by rw [typeLookup_type, builtinLookup_eq_fast]; kernel_rfl) (by rw [typeLookup_type, builtinLookup_eq_fast]; kernel_rfl) (by decide +kernel)
theorem opK_mul {T : String} (h : Kd T) : ∃ r, OpK "mul" T r := by
  cases h
  · exact ⟨_, mul_none⟩
  · exact ⟨_, mul_bool⟩
  · exact ⟨_, mul_int⟩
  · exact ⟨_, mul_str⟩
  · exact ⟨_, mul_list⟩
  · exact ⟨_, mul_tuple⟩
  · exact ⟨_, mul_dict⟩
theorem opK_fdv {T : String} (h : Kd T) : ∃ r, OpK "floordiv" T r := by
  cases h
  · exact ⟨_, fdv_none⟩
  · exact ⟨_, fdv_bool⟩
  · exact ⟨_, fdv_int⟩
  · exact ⟨_, fdv_str⟩
  · exact ⟨_, fdv_list⟩
  · exact ⟨_, fdv_tuple⟩
  · exact ⟨_, fdv_dict⟩
theorem int_mul_inst (a : Int) (t : Tok) (x : Addr) : Meets (Builtin.«int.__mul__» ⟨[.int a t, .ref x], []⟩) (fun _ R s => (∃ C dx, s.heap.get? x = some (PySem.W.instObj C dx)) ∧ R (.ok (.ret Value.notImplemented)) s) :=
  .of_wp fun prog w A R s h => by obtain ⟨hp, g, d, tk, os⟩ := s; obtain ⟨⟨C, dx, hl⟩, h⟩ := h; unfold PySem.W.instObj at hl; wp_walk; exact ⟨_, rfl, h⟩
theorem bool_mul_inst (a : Bool) (x : Addr) : Meets (Builtin.«int.__mul__» ⟨[.bool a, .ref x], []⟩) (fun _ R s => (∃ C dx, s.heap.get? x = some (PySem.W.instObj C dx)) ∧ R (.ok (.ret Value.notImplemented)) s) :=
  .of_wp fun prog w A R s h => by obtain ⟨hp, g, d, tk, os⟩ := s; obtain ⟨⟨C, dx, hl⟩, h⟩ := h; unfold PySem.W.instObj at hl; wp_walk; exact ⟨_, rfl, h⟩
theorem relV_back {v : V} {u : Value} {Q : Value → Shared → Prop} {s : Shared} (r : RelV v u) (q : Q u s) : PySem.W.CmpBack Q u s := by
  cases u <;> first | exact q | (cases v <;> first | (obtain ⟨_, e⟩ := r; exact nomatch e) | exact nomatch r)
theorem dec_int {prog : Program} {w : World} {A : Around} {E : Value → Shared → Prop} {s : Shared} {i : Int} {t : Tok} {p : Addr} (hget : ∃ C' dx', s.heap.get? p = some (PySem.W.instObj C' dx')) (Q' : Option Value → Shared → Prop) (q' : Q' none s) :
    wpAny (model prog w) A (tryMethod (.int i t) (PySem.dunder "mul") (.ref p)) Q' E s := by
  have e1 := F.entry_int_mul
  have e2 := F.args_int_mul_2 (.int i t) (.ref p)
  have e3 := int_mul_inst i t p
  have e4 : s.TypeIs (.int i t) "int" := typeIs_int s i t
  have e5 := F.slot_int_mul
  have e6 : wpAny (model prog w) A (call (.builtin "int.__mul__") [.int i t, .ref p]) (fun v s' => v = .notImplemented ∧ Q' none s') E s := call_meets e5 e4 e1 e2 e3 ⟨hget, rfl, q'⟩
  exact @wpAny_tryMethod_declines (model prog w) A E s (.int i t) (.ref p) "int" (PySem.dunder "mul") "int.__mul__" Q' e4 e5 e6
theorem dec_bool {prog : Program} {w : World} {A : Around} {E : Value → Shared → Prop} {s : Shared} {i : Bool} {p : Addr} (hget : ∃ C' dx', s.heap.get? p = some (PySem.W.instObj C' dx')) (Q' : Option Value → Shared → Prop) (q' : Q' none s) :
    wpAny (model prog w) A (tryMethod (.bool i) (PySem.dunder "mul") (.ref p)) Q' E s := by
  have e1 := F.entry_int_mul
  have e2 := F.args_int_mul_2 (.bool i) (.ref p)
  have e3 := bool_mul_inst i p
  have e4 : s.TypeIs (.bool i) "bool" := PySem.typeIs_bool s i
  have e5 := F.slot_bool_mul
  have e6 : wpAny (model prog w) A (call (.builtin "int.__mul__") [.bool i, .ref p]) (fun v s' => v = .notImplemented ∧ Q' none s') E s := call_meets e5 e4 e1 e2 e3 ⟨hget, rfl, q'⟩
  exact @wpAny_tryMethod_declines (model prog w) A E s (.bool i) (.ref p) "bool" (PySem.dunder "mul") "int.__mul__" Q' e4 e5 e6
theorem Pl.of_bl {K : PySem.W.Frag} {H : Hp} {x : V} {T : String} (h : Pl K H x T) (e : T = "bool") : ∃ z, x = .bl z := by
  have key : ∀ t, TyX K H x t → t = .type "bool" → ∃ z, x = .bl z := fun t h e => by
    cases h with
    | base b =>
      cases b with
      | bl z => exact ⟨z, rfl⟩
      | ins _ _ _ _ _ _ => cases e
      | _ => exact ty_ne e (by decide)
    | _ => exact ty_ne e (by decide)
  exact key _ h.1 (by rw [e])
/-! ### o * y, o // y by an own operator that may raise; y * o by the reflected one -/
section
variable {X : Cx} {CX : CXT} {k : Nat} {C g f : Addr} {fd : FuncData} {ps : List Str} {sp : Sp} {E : L2.St → XK} {pos : Pos} {a b : Expr} {ta tb : TE} {op : Operator}
/-- what the class says of the operator -/
structure OwnOp (K : PySem.W.Frag) (C : Addr) (op : Operator) (f : Addr) : Prop where
  sf : PySem.W.selfFirst K C = true
  at_ : PySem.W.findIn K (.ref C) (PySem.dunder op.info.2) = some (some (.ref f))
  fn : PySem.W.isFn K (.ref f) = true
  rc : ∃ rc, PySem.W.findIn K (.ref C) (dunderR op.info.2) = some rc ∧ (rc = none ∨ ∃ g : Addr, rc = some (.ref g))
def tOwnL (K : PySem.W.Frag) (C : Addr) (sp : Sp) (E : L2.St → XK) (ta tb : TE) : TE := fun σ H Q => ta σ H fun x H1 => tb σ H1 fun y H2 => ∃ p dx fs T, x = V.ref p ∧ H2 p = some (.ins C dx fs) ∧ Pl K H2 y T ∧ sp [x, y] H2 Q (E σ)
theorem pe_ownL (kinds : ∀ T, Kd T → ∃ r, OpK op.info.2 T r) (O : OwnOp X.K C op f) (F : FnOk X.prog X.w X.K X.mg X.base CX k f fd ps sp) (hr : Room k X.A) (hb : Binds X.K fd ps []) (hx : ∀ σ, PassesAt CX X σ (E σ)) (ha : PE X a ta) (hbb : PE X b tb) :
    PE X (.BinOp a op b pos) (tOwnL X.K C sp E ta tb) := by
  refine ⟨fun pins s σ H Q I h => ?_⟩
  refine wpAny_BinOp (binT ha hbb I h fun v u s2 x y H2 I2 rx ry q => ?_)
  obtain ⟨p, dx, fs, T, rfl, hp, ty, hs⟩ := q
  obtain rfl : v = Value.ref p := rx
  obtain ⟨mA, J, _⟩ := ins_get I2.hok hp
  obtain ⟨od, J, _⟩ := J.look
  obtain ⟨P, Z, pz, _⟩ := kit_of I2 ry ty.1
  obtain ⟨r, fl, ro, lk⟩ := kinds T ty.2
  obtain ⟨rc, h1, h2⟩ := O.rc
  refine PySem.W.own_left I2.kIn J (Z.ty _ _ I2.kIn pz) O.sf O.at_ O.fn h1 h2 fl lk (sub_no ty.2) ?_
  refine wpAny_mono (run_fnSD (us := [.ref p, u]) (vs := [.ref p, y]) (dvs := []) F hr hb .nil (hx σ) I2 (.cons rfl (.cons ry .nil)) hs) (fun v s' z => ?_) fun _ _ e => e
  obtain ⟨y', H', I', r', q'⟩ := z
  exact relV_back r' ⟨y', H', I', r', q'⟩
structure OwnR (K : PySem.W.Frag) (C : Addr) (op : Operator) (g f : Addr) : Prop where
  sf : PySem.W.selfFirst K C = true
  at_ : PySem.W.findIn K (.ref C) (PySem.dunder op.info.2) = some (some (.ref g))
  rc : PySem.W.findIn K (.ref C) (dunderR op.info.2) = some (some (.ref f))
  fn : PySem.W.isFn K (.ref f) = true
  s1 : PySem.W.subIn K (.ref C) (.type "int") = some false
  s2 : PySem.W.subIn K (.ref C) (.type "bool") = some false
def tOwnR (K : PySem.W.Frag) (C : Addr) (sp : Sp) (E : L2.St → XK) (ta tb : TE) : TE := fun σ H Q => ta σ H fun y H1 => tb σ H1 fun x H2 => ∃ p dx fs T, x = V.ref p ∧ H2 p = some (.ins C dx fs) ∧ Pl K H2 y T ∧ sp [x, y] H2 Q (E σ)
theorem pe_ownR (O : OwnR X.K C .Mult g f) (F : FnOk X.prog X.w X.K X.mg X.base CX k f fd ps sp) (hr : Room k X.A) (hb : Binds X.K fd ps []) (hx : ∀ σ, PassesAt CX X σ (E σ)) (ha : PE X a ta) (hbb : PE X b tb) :
    PE X (.BinOp a .Mult b pos) (tOwnR X.K C sp E ta tb) := by
  refine ⟨fun pins s σ H Q I h => ?_⟩
  refine wpAny_BinOp (binT ha hbb I h fun u v s2 y x H2 I2 ry rx q => ?_)
  obtain ⟨p, dx, fs, T, rfl, hp, ty, hs⟩ := q
  obtain rfl : v = Value.ref p := rx
  obtain ⟨mA, J, _⟩ := ins_get I2.hok hp
  obtain ⟨od, J, _⟩ := J.look
  obtain ⟨P, Z, pz, _⟩ := kit_of I2 ry ty.1
  have hget : ∃ C' dx', s2.heap.get? p = some (PySem.W.instObj C' dx') := by
    obtain ⟨_, _, _, z, _⟩ := I2.hok p _ hp
    exact ⟨_, _, z⟩
  have run : wpAny (model X.prog X.w) X.A (call (.ref f) [.ref p, u]) (PySem.W.CmpBack (EP X pins σ Q)) X.xe s2 := by
    refine wpAny_mono (run_fnSD (us := [.ref p, u]) (vs := [.ref p, y]) (dvs := []) F hr hb .nil (hx σ) I2 (.cons rfl (.cons ry .nil)) hs) (fun v s' z => ?_) fun _ _ e => e
    obtain ⟨y', H', I', r', q'⟩ := z
    exact relV_back r' ⟨y', H', I', r', q'⟩
  have T0 := Z.ty (model X.prog X.w) _ I2.kIn pz
  have low : ∀ {T : String}, OpK "mul" T false → PySem.W.Looks (model X.prog X.w) s2.heap (typeOf u) (.type T) → wpAny (model X.prog X.w) X.A (binaryOp .Mult u (.ref p)) (EP X pins σ Q) X.xe s2 := fun k t =>
    PySem.W.own_right (op := .Mult) I2.kIn J t O.sf O.at_ O.rc O.fn k.1 run
  obtain ⟨tx, kd⟩ := ty
  have hty : TyX X.K H2 y (.type T) := tx
  cases kd with
  | non => exact low mul_none T0
  | str => exact low mul_str T0
  | lst => exact low mul_list T0
  | tup => exact low mul_tuple T0
  | dct => exact low mul_dict T0
  | int =>
    obtain ⟨i, rfl⟩ := Pl.of_int ⟨tx, .int⟩ rfl
    obtain ⟨t, rfl⟩ := ry
    exact PySem.W.own_right2 (op := .Mult) I2.kIn J T0 O.sf O.at_ O.rc O.fn mul_int.1 O.s1 (dec_int hget) run
  | bl =>
    obtain ⟨i, rfl⟩ := Pl.of_bl ⟨tx, .bl⟩ rfl
    obtain rfl : u = Value.bool i := ry
    exact PySem.W.own_right2 (op := .Mult) I2.kIn J T0 O.sf O.at_ O.rc O.fn mul_bool.1 O.s2 (dec_bool hget) run
end
end Bt
namespace Bt
open PySem PySem.Spec PyProof.Rows L2
open PySem.W (dataLe alike AllAlike Sortable EachIs)
/-! ### sorted(xs) of data that are alike, any length -/
/-- the items beside what they read as -/
abbrev Prs : Type := List (V × PyData)
abbrev prLe : V × PyData → V × PyData → Bool := dataLe false (fun z : V × PyData => z.2)
def rSortD (K : PySem.W.Frag) : List V → Hp → VK → Prop := fun vs H Q => ∃ (a : Addr) (zs : Prs), vs = [V.ref a] ∧ SqL K H a (zs.map (·.1)) ∧ (∀ z ∈ zs, Dp K H z.1 z.2 ∧ z.2.depth ≤ 60) ∧ AllAlike (zs.map (·.2)) ∧ Sortable (zs.map (·.2)) ∧
  ∀ p, H p = none → Q (.ref p) (upd H p (.lst ((zs.mergeSort prLe).map (·.1))))
theorem each_vals : ∀ {zs : Prs} {us : List Value}, Vals (zs.map (·.1)) us → EachIs (fun u z => RelV z.1 u) us zs
  | [], us, h => by
    cases h
    exact .nil
  | z :: zs, us, h => by
    cases h with
    | cons h r => exact .cons h (each_vals r)
theorem vals_each : ∀ {zs : Prs} {us : List Value}, EachIs (fun u z => RelV z.1 u) us zs → Vals (zs.map (·.1)) us
  | [], _, h => by
    cases h
    exact .nil
  | z :: zs, _, h => by
    cases h with
    | cons h r => exact .cons h (vals_each r)
theorem each_reads {X : Cx} {pins : List (Addr × Obj)} {σ : L2.St} {H : Hp} {s : Shared} (I : Inv X pins σ H s) : ∀ {zs : Prs} {us : List Value}, Vals (zs.map (·.1)) us → (∀ z ∈ zs, Dp X.K H z.1 z.2) → EachIs (fun u z => ∃ as, Reads s.heap u z.2 as) us zs
  | [], us, h, _ => by
    cases h
    exact .nil
  | z :: zs, us, h, d => by
    cases h with
    | cons h r => exact .cons (Dp.reads I z.2 z.1 _ (d z List.mem_cons_self) h) (each_reads I r fun y hy => d y (List.mem_cons_of_mem _ hy))
theorem cr_sortD {X : Cx} (hu : X.A.units + 64 < cLine) : CallR X (.builtin "sorted") (rSortD X.K) := by
  intro pins s σ H vs us Q I r h
  obtain ⟨a, zs, rfl, hs, hd, al, sk, q⟩ := h
  obtain ⟨its, rv, hl, hz⟩ := I.list hs
  rw [Vals.ref1 r]
  rw [List.length_map] at hz
  refine PySem.W.sorted_data (enc := fun z : V × PyData => z.2) hl.isList (each_vals rv) (each_reads I rv fun z hz => (hd z hz).1) al sk hz (fun b hb => by have := (hd b hb).2; omega) fun out h1 h2 => ?_
  obtain ⟨ep, he'⟩ := PyProof.Rows.sortedAll_at s.heap its (List.toArray out)
  have hlen : ((zs.mergeSort prLe).map (·.1)).length ≤ sizeLine := by rw [List.length_map, List.length_mergeSort]; exact hz
  exact ⟨.ref _, upd H (s.heap.objs.size + 1) (.lst ((zs.mergeSort prLe).map (·.1))), I.laid (t' := s.toks) (fun _ _ => PyProof.Rows.sortedAll_old) (Nat.le_succ _) ⟨hlen, out, ep, vals_each h2, he'⟩, rfl, q _ (I.hok.fresh (Nat.le_succ _))⟩
theorem q_sortD {K : PySem.W.Frag} {H : Hp} {Q : VK} {a : Addr} (zs : Prs) (h : SqL K H a (zs.map (·.1))) (hd : ∀ z ∈ zs, Dp K H z.1 z.2 ∧ z.2.depth ≤ 60) (al : AllAlike (zs.map (·.2))) (sk : Sortable (zs.map (·.2)))
    (q : ∀ p H', H p = none → Same H H' → H' p = some (.lst ((zs.mergeSort prLe).map (·.1))) → Q (.ref p) H') : rSortD K [.ref a] H Q := ⟨a, zs, rfl, h, hd, al, sk, fun p n => q p _ n (Same.new n) upd_same⟩
end Bt
namespace Bt
open PySem PySem.Spec PyProof.Rows L2 LamX NdefX
open PySem.W (dataLt dataLe alike AllAlike Sortable)
theorem words71_ : True := by
  k_with "s_A7" => first
    | ((with_reducible refine' s_var ?hv ?_); (case hv => exact rfl))
    | with_reducible first
      | refine' s_c ?_ | refine' s_op ?_ | refine' s_asg ?_ | refine' s_gname ?_ | refine' s_seq ?_ | refine' s_next ?_ | refine' s_ret ?_ | refine' s_ifS ?_ | refine' s_drop ?_ | refine' s_retN ?_ | refine' s_test ?_ | refine' s_B ?_ | refine' q_test ?_ | refine' s_int ?_ | refine' s_cons ?_ | refine' s_nil ?_ | refine' s_call ?_ | refine' s_CB ?_ | refine' s_andT ?_ | refine' s_orT ?_ | refine' s_notT ?_ | refine' s_andV ?_ | refine' s_orV ?_ | refine' s_notV ?_ | refine' s_ifV ?_ | refine' s_chain ?_ | refine' s_sl ?_ | refine' s_noPart ?_ | refine' s_part ?_ | refine' s_gsub ?_ | refine' s_BM ?_ | refine' s_tup ?_ | refine' s_lst ?_ | refine' q_add ?_ | refine' q_sub ?_ | refine' q_lt ?_ | refine' q_le ?_ | refine' q_gt ?_ | refine' q_ge ?_ | refine' s_ifT ?_ | refine' s_ifF ?_ | refine' s_yes ?_ | refine' s_iStr ?_ | refine' s_M0 ?_ | refine' s_for ?_ | refine' s_rng1 ?_ | refine' s_par ?_ | refine' s_gcons ?_ | refine' s_gnil ?_ | refine' s_iList ?_ | refine' s_iEnum ?_ | refine' s_raise1 ?_
      | (refine' q_mod ?hm ?_; (case hm => first | omega | decide))
    | dsimp only
  k_with "r_A7" => repeat (k_extra "s_A7")
  trivial
/-! ### answers -/
theorem lt2 {a c : Nat} (h : a + 64 < c) : a + 2 < c := by omega
abbrev keyOf (q : Str × Str) : List Key := [.inr q.1, .inr q.2]
/-- u is no tuple, and never will be -/
def NoTup (H : Hp) (u : V) : Prop := ∀ a, u = .ref a → ∃ o, H a = some o ∧ ∀ ys, o ≠ .tup ys
theorem NoTup.mono {H H' : Hp} {u : V} (S : Same H H') (h : NoTup H u) : NoTup H' u := fun a e => let ⟨o, h1, h2⟩ := h a e; ⟨o, S _ _ h1, h2⟩
theorem NoTup.no {H : Hp} {u : V} (h : NoTup H u) : ¬ PlaceV H u := fun ⟨a, _, _, e, h', _⟩ => by
  obtain ⟨o, h1, h2⟩ := h a e
  rw [h1] at h'
  exact h2 _ (Option.some.inj h')
/-- what is_place says of u -/
inductive PlK (K : PySem.W.Frag) (H : Hp) (u : V) : Bool → Prop where
  | no {T : String} : Pl K H u T → T ≠ "tuple" → NoTup H u → PlK K H u false
  | tup {a : Addr} {ys : List V} {b : Bool} : u = .ref a → Pl K H u "tuple" → H a = some (.tup ys) → (∀ y ∈ ys, NameArg K H y) → (b = true ↔ PlaceV H u) → PlK K H u b
/-- what _is_answer says of x -/
inductive AnK (K : PySem.W.Frag) (H : Hp) (x : V) : Bool → Prop where
  | no {T : String} : Pl K H x T → T ≠ "tuple" → AnK K H x false
  | len {a : Addr} {xs : List V} : x = .ref a → Pl K H x "tuple" → H a = some (.tup xs) → xs.length ≠ 2 → AnK K H x false
  | two {a : Addr} {u v : V} {b : Bool} {T : String} : x = .ref a → Pl K H x "tuple" → H a = some (.tup [u, v]) → PlK K H u b → Pl K H v T → AnK K H x (b && subKd T "bool")
section
variable {K : PySem.W.Frag} {H H' : Hp} {Q : VK} {E : XK}
theorem place_back {a : Addr} {ys : List V} (S : Same H H') (h : H a = some (.tup ys)) : PlaceV H' (.ref a) → PlaceV H (.ref a) := fun ⟨a', x, y, e, h', n⟩ => by
  injection e with e
  subst e
  rw [S _ _ h] at h'
  exact ⟨a, x, y, rfl, by rw [h]; exact h', n⟩
theorem PlaceV.mono {u : V} (S : Same H H') : PlaceV H u → PlaceV H' u := fun ⟨a, x, y, e, h, n⟩ => ⟨a, x, y, e, S _ _ h, n⟩
theorem PlK.mono {u : V} {b : Bool} (S : Same H H') (h : PlK K H u b) : PlK K H' u b := by
  cases h with
  | no h n nt => exact .no (h.mono S) n (nt.mono S)
  | tup e h ha hy hb =>
    subst e
    exact .tup rfl (h.mono S) (S _ _ ha) (fun y my => (hy y my).mono S) (hb.trans ⟨fun z => z.mono S, place_back S ha⟩)
theorem AnK.mono {u : V} {b : Bool} (S : Same H H') (h : AnK K H u b) : AnK K H' u b := by
  cases h with
  | no h n => exact .no (h.mono S) n
  | len e h ha n => exact .len e (h.mono S) (S _ _ ha) n
  | two e h ha p t => exact .two e (h.mono S) (S _ _ ha) (p.mono S) (t.mono S)
theorem place_asked {u : V} {b : Bool} (h : PlK K H u b) (k : ∀ H', Same H H' → Q (.bl b) H') : spPlace K [u] H Q E := by
  cases h with
  | no h n nt => exact ⟨u, _, rfl, h, fun _ => k _ (Same.refl H), fun e => absurd e n⟩
  | tup e h ha hy hb =>
    subst e
    refine ⟨_, _, rfl, h, fun n => absurd rfl n, fun _ => ⟨_, _, rfl, ha, hy, fun n H1 S1 => ?_, fun y H1 S1 => ?_⟩⟩
    · cases b with
      | false => exact k H1 S1
      | true => exact absurd (hb.mp rfl) n
    · rw [hb.mpr y] at k
      exact k H1 S1
end
theorem PlK.yes {K : PySem.W.Frag} {H : Hp} {u : V} (h : PlK K H u true) : ∃ (a : Addr) (q : Str × Str), u = .ref a ∧ H a = some (.tup [.str q.1, .str q.2]) ∧ Nm q.1 ∧ Nm q.2 := by
  cases h with
  | tup e h ha hy hb =>
    obtain ⟨a, x, y, e2, h2, ⟨z1, rfl, n1⟩, ⟨z2, rfl, n2⟩⟩ := hb.mp rfl
    exact ⟨a, (z1, z2), e2, h2, n1, n2⟩
structure TxtA7 (K : PySem.W.Frag) (mg : Str → Option Value) : Prop where
  n_dict : mg "dict" = none
  d__is_answer : Df K mg "_is_answer" s__is_answer ["value"]
  d__are_answers : Df K mg "_are_answers" s__are_answers ["value"]
section
variable {P : Program} {w : World} {K : PySem.W.Frag} {mg : Str → Option Value} {base : Heap}
def spIsAns (K : PySem.W.Frag) : Sp := fun vs H Q _ => ∃ x b, vs = [x] ∧ AnK K H x b ∧ ∀ H', Same H H' → Q (.bl b) H'
theorem ok__is_answer (T : Txt K mg) (N : TxtN K mg) (I : TxtI K mg) (A7 : TxtA7 K mg) : Cal P w K mg base 3 "_is_answer" (spIsAns K) := by
  refine A7.d__is_answer.cal sc__is_answer (fun vs H Q E h => ?_) (fun f cdv A outer s H vs Q E hr h => ?_)
  · obtain ⟨x, b, rfl, _⟩ := h
    rfl
  · obtain ⟨x, b, rfl, hx, k⟩ := h
    have hu := hr.units
    refine ⟨_, (pss_one (ps_ret (pe_and (pe_callB call_isi (by rfl) T.n_isinstance (by decide +kernel) (pa_cons (pv 0) (pa_cons (pe_bltn (v := .ty "tuple") (by rfl) T.n_tuple (by decide +kernel) rfl) pa_nil))) (pe_and (pe_cmpR (op_eqU hu) (pe_callB call_lenQ (by rfl) N.n_len (by decide +kernel) (pa_cons (pv 0) pa_nil)) pe_int (by rfl)) (pe_and (pe_c (ok_is_place T N I) hr (by decide) rfl (pa_cons (pe_ix ix_seq (pv 0) pe_int (fun _ _ => rfl)) pa_nil)) (pe_one (pe_callB call_isi (by rfl) T.n_isinstance (by decide +kernel) (pa_cons (pe_ix ix_seq (pv 0) pe_int (fun _ _ => rfl)) (pa_cons (pe_bltn (v := .ty "bool") (by rfl) T.n_bool (by decide +kernel) rfl) pa_nil))))))))), ?_⟩
    k_extra "r_A7"
    cases hx with
    | no h n =>
      refine q_isi h .tup ?_
      rw [show subKd _ "tuple" = false by cases h.2 <;> first | rfl | exact absurd rfl n]
      k_extra "r_A7"
      exact k _ (Same.refl H)
    | len e h ha n =>
      subst e
      refine q_isi h .tup ?_
      k_extra "r_A7"
      refine s_if1 rfl ?_
      k_extra "r_A7"
      refine q_lenT (SqT.of ha) ?_
      k_extra "r_A7"
      refine q_eq rfl ?_
      k_extra "r_A7"
      refine s_if0 (decide_eq_false fun z => ?_) ?_
      · have := V.int.inj z
        omega
      · k_extra "r_A7"
        exact k _ (Same.refl H)
    | two e h ha p t =>
      subst e
      refine q_isi h .tup ?_
      k_extra "r_A7"
      refine s_if1 rfl ?_
      k_extra "r_A7"
      refine q_lenT (SqT.of ha) ?_
      k_extra "r_A7"
      refine q_eq rfl ?_
      k_extra "r_A7"
      refine s_if1 (decide_eq_true rfl) ?_
      k_extra "r_A7"
      refine q_ixT (SqT.of ha) (at_of (j := 0) rfl rfl) ?_
      k_extra "r_A7"
      refine place_asked p fun H1 S1 => ?_
      refine ⟨_, rfl, ?_⟩
      cases ‹Bool› with
      | false => exact k H1 S1
      | true =>
        rw [if_pos rfl]
        k_extra "r_A7"
        refine q_ixT (SqT.of (S1 _ _ ha)) (at_of (j := 1) rfl rfl) ?_
        k_extra "r_A7"
        exact q_isi (t.mono S1) .bl (k H1 S1)
/-- what the set has got from the first i keys -/
structure Has (ks : List (List Key)) (es : List PE4) (i : Nat) (L : List (Addr × List Key)) : Prop where
  mem : ∀ k, k ∈ L.map (·.2) ↔ k ∈ ks.take i
  le : L.length ≤ i
  nd : L.length = i ↔ (ks.take i).Nodup
  of : ∀ p ∈ L, ∃ e ∈ es, p = (e.2.1, e.2.2.1)
theorem Has.next {ks : List (List Key)} {es : List PE4} {i : Nat} {L L' : List (Addr × List Key)} {e : PE4} (h : Has ks es i L) (hk : ks[i]? = some e.2.2.1) (he : e ∈ es) (c1 : e.2.2.1 ∈ L.map (·.2) → L' = L) (c2 : e.2.2.1 ∉ L.map (·.2) → L'.Perm ((e.2.1, e.2.2.1) :: L)) : Has ks es (i + 1) L' := by
  have ht : ks.take (i + 1) = ks.take i ++ [e.2.2.1] := by rw [List.take_add_one, hk]; rfl
  have hn : (ks.take (i + 1)).Nodup ↔ (ks.take i).Nodup ∧ e.2.2.1 ∉ ks.take i := by
    rw [ht, List.nodup_append]
    constructor
    · exact fun ⟨a, _, c⟩ => ⟨a, fun z => c _ z _ (List.mem_singleton.mpr rfl) rfl⟩
    · rintro ⟨a, b⟩
      refine ⟨a, by simp, fun x hx y hy e => b ?_⟩
      rw [List.mem_singleton] at hy
      rw [← hy, ← e]
      exact hx
  by_cases z : e.2.2.1 ∈ L.map (·.2)
  · rw [c1 z]
    have z' := (h.mem _).mp z
    refine ⟨fun k => ?_, Nat.le_succ_of_le h.le, ⟨fun q => absurd h.le (by omega), fun q => absurd z' (hn.mp q).2⟩, h.of⟩
    rw [h.mem, ht, List.mem_append, List.mem_singleton]
    exact ⟨.inl, fun q => q.elim id fun q => q ▸ z'⟩
  · have pm := c2 z
    have z' := fun q => z ((h.mem _).mpr q)
    have len : L'.length = L.length + 1 := pm.length_eq
    refine ⟨fun k => ?_, by have := h.le; omega, ?_, fun p hp => ?_⟩
    · rw [(pm.map (·.2)).mem_iff, List.map_cons, List.mem_cons, h.mem, ht, List.mem_append, List.mem_singleton]
      exact ⟨fun q => q.symm, fun q => q.symm⟩
    · rw [hn, len]
      exact ⟨fun q => ⟨h.nd.mp (by omega), z'⟩, fun q => by have := h.nd.mpr q.1; omega⟩
    · rcases List.mem_cons.mp (pm.mem_iff.mp hp) with rfl | hp
      · exact ⟨e, he, rfl⟩
      · exact h.of p hp
/-- answers: what they are -/
def IsA (es : List PE4) : Prop := ∀ e ∈ es, ∃ q b, e.2.2 = (keyOf q, .bl b) ∧ Nm q.1 ∧ Nm q.2
def spAre (K : PySem.W.Frag) : Sp := fun vs H Q _ => ∃ x T, vs = [x] ∧ Pl K H x T ∧ (T ≠ "list" → Q (.bl false) H) ∧
  (T = "list" → ∃ q xs, x = .ref q ∧ H q = some (.lst xs) ∧ xs.length < 63 ∧ ∃ r : V → Bool, (∀ y ∈ xs, AnK K H y (r y)) ∧ (xs.all r = false → ∀ H', Same H H' → Q (.bl false) H') ∧
    (xs.all r = true → ∃ es : List PE4, xs = es.map (fun e => .ref e.1) ∧ Prs4 H es ∧ IsA es ∧ ∀ H' b, (b = true ↔ (es.map (·.2.2.1)).Nodup) → Same H H' → Q (.bl b) H'))
theorem ok__are_answers (T : Txt K mg) (N : TxtN K mg) (TS : TxtS K mg) (I : TxtI K mg) (A7 : TxtA7 K mg) : Cal P w K mg base 4 "_are_answers" (spAre K) := by
  refine A7.d__are_answers.cal sc__are_answers (fun vs H Q E h => ?_) (fun fn cdv A outer s H vs Q E hr h => ?_)
  · obtain ⟨x, T, rfl, _⟩ := h
    rfl
  · obtain ⟨x, ty, rfl, hx, kN, kY⟩ := h
    have hu := hr.units
    refine ⟨_, (pss_cons (ps_if (pt_not (PW.pt (pw_and (pt_val (pe_callB call_isi (by rfl) T.n_isinstance (by decide +kernel) (pa_cons (pv 0) (pa_cons (pe_bltn (v := .ty "list") (by rfl) TS.n_list (by decide +kernel) rfl) pa_nil)))) (pw_and1 (pt_val (pe_callB (call_allB rfl) (by rfl) N.n_all (by decide +kernel) (pa_cons (pe_lc (own := [("item", 1)]) (g := gName 1) (tt := tYes) (te := tCall (spIsAns K) [] E0 (tCons (tVar 1) tNil)) rfl sc__are_answers.nd (pi_list (pv 0)) (blkOk_by (own := [("item", 1)]) (N := ["value", "item", "place", "_"]) (sc := defScope s__are_answers) (by decide +kernel)) (fun _ _ _ _ _ => pg_name (i := 1) sc__are_answers.nd rfl (Or.inl rfl)) (fun _ _ _ _ _ => pts_nil) (fun _ _ _ _ _ => by exact pe_c (ok__is_answer T N I A7) hr (by decide) rfl (pa_cons (pv 1) pa_nil))) pa_nil))))))) (pss_one (ps_ret pe_bl)) pss_nil)
      (pss_one (ps_ret (pe_cmpR op_eq (pe_callB ST.call_lenK (by rfl) N.n_len (by decide +kernel) (pa_cons (ST.pe_scK (own := [("place", 2), ("_", 3)]) (g := gTup K 2 (gCons (gName 2) (gCons (gName 3) gNil))) (tt := tYes) (te := tVar 2) rfl (lt2 hu) sc__are_answers.nd (pi_list (pv 0)) (blkOk_by (own := [("place", 2), ("_", 3)]) (N := ["value", "item", "place", "_"]) (sc := defScope s__are_answers) (by decide +kernel)) (fun _ _ _ _ _ => pg_tup (by rfl) (pgs_cons (pg_name (i := 2) sc__are_answers.nd rfl (Or.inl rfl)) (pgs_cons (pg_name (i := 3) sc__are_answers.nd rfl (Or.inl rfl)) pgs_nil))) (fun _ _ _ _ _ => pts_nil) (fun _ _ _ _ _ => (pv 2))) pa_nil)) (pe_callB call_lenQ (by rfl) N.n_len (by decide +kernel) (pa_cons (pv 0) pa_nil)) (by rfl))))), ?_⟩
    k_extra "r_A7"
    refine q_isi hx .lst ?_
    by_cases e : ty = "list"
    · obtain ⟨q, xs, rfl, hq, hz, r, hr', kF, kT⟩ := kY e
      subst e
      refine q_test (s_if1 rfl ?_)
      k_extra "r_A7"
      refine s_lc ?_
      k_extra "r_A7"
      refine ⟨q, rfl, ⟨_, SqL.of hq⟩, fun D nD => lc_list (K := K) (a := q) (xs := xs) (fun i H' => Same H H' ∧ H' D = some (.lst ((xs.take i).map fun y => .bl (r y)))) ⟨Same.new nD, upd_same⟩ (fun i H' _ h => SqL.of (h.1 _ _ hq)) ?_ ?_⟩
      · rintro j y H1 hj ⟨S1, h1⟩
        k_extra "r_A7"
        refine ⟨rfl, ?_⟩
        k_extra "r_A7"
        refine ⟨y, r y, rfl, (hr' y (List.mem_of_getElem? hj)).mono S1, fun H2 S2 => ?_⟩
        refine ⟨_, S2 _ _ h1, ?_, same_mut (S1.trans S2) nD, ?_⟩
        · rw [List.length_map, List.length_take]
          exact szlt (by omega)
        · rw [upd_same, take_map_more hj]
      · rintro H1 ⟨S1, h1⟩
        rw [List.take_of_length_le (Nat.le_refl _)] at h1
        k_extra "r_A7"
        refine q_allB (bs := xs.map r) (SqL.of (by rw [List.map_map]; exact h1)) ?_
        rw [show (xs.map r).all id = xs.all r by rw [List.all_map]; rfl]
        cases all : xs.all r with
        | false =>
          refine q_test (s_if1 rfl ?_)
          k_extra "r_A7"
          exact kF all _ S1
        | true =>
          obtain ⟨es, rfl, pr, ia, kE⟩ := kT all
          clear kF kT
          refine q_test (s_if0 rfl ?_)
          k_extra "r_A7"
          refine ST.s_scK ?_
          k_extra "r_A7"
          have hq1 := S1 _ _ hq
          have pr1 := pr.mono S1
          refine ⟨q, rfl, ⟨_, SqL.of hq1⟩, fun D2 nD2 => ST.sc_listK (K := K) (a := q) (fun i H' => Same H1 H' ∧ ∃ L, H' D2 = some (ST.SetKO P w D2 L) ∧ Has (es.map (·.2.2.1)) es i L) ⟨Same.new nD2, [], upd_same, ?_⟩ (fun i H' _ h => SqL.of (h.1 _ _ hq1)) ?_ ?_⟩
          · exact ⟨fun k => by simp, Nat.le_refl _, by simp, fun p hp => nomatch hp⟩
          · rintro j y H2 hj ⟨S2, L, hL, hs⟩
            rw [List.getElem?_map] at hj
            obtain ⟨e, he, rfl⟩ := Option.map_eq_some_iff.mp hj
            have me := List.mem_of_getElem? he
            obtain ⟨p1, p2⟩ := (pr1.mono S2) e me
            refine q_gtup (SqT.of p1) rfl ?_
            k_extra "r_A7"
            refine ⟨rfl, ?_⟩
            k_extra "r_A7"
            have lt := (List.getElem?_eq_some_iff.mp he).1
            rw [List.length_map] at hz
            refine ⟨e.2.1, e.2.2.1, L, rfl, p2, hL, fun p hp => ?_, by have := hs.le; omega, fun L' c1 c2 => ⟨same_mut S2 nD2, L', upd_same, hs.next (by rw [List.getElem?_map, he]; rfl) me c1 c2⟩⟩
            obtain ⟨e', me', rfl⟩ := hs.of p hp
            exact ((pr1.mono S2) e' me').2
          · rintro H2 ⟨S2, L, hL, hs⟩
            k_extra "r_A7"
            refine ⟨D2, L, rfl, hL, ?_⟩
            k_extra "r_A7"
            refine q_lenL (SqL.of (S2 _ _ hq1)) ⟨rfl, ?_⟩
            refine kE H2 _ ?_ (S1.trans S2)
            rw [decide_eq_true_eq]
            have nd := hs.nd
            rw [List.take_of_length_le (by simp)] at nd
            rw [← nd]
            exact ⟨fun z => by have := V.int.inj z; omega, fun z => by rw [z]⟩
    · rw [show subKd ty "list" = false by cases hx.2 <;> first | rfl | exact absurd rfl e]
      refine q_test (s_if0 rfl ?_)
      k_extra "r_A7"
      exact kN e
end
end Bt
namespace Bt
open PySem PySem.Spec PyProof.Rows L2 LamX NdefX
open PySem.W (dataLt dataLe alike AllAlike Sortable)
theorem words72_ : True := by
  k_with "s_A7b" => first
    | ((with_reducible refine' s_var ?hv ?_); (case hv => exact rfl))
    | with_reducible first
      | refine' s_c ?_ | refine' s_op ?_ | refine' s_asg ?_ | refine' s_gname ?_ | refine' s_seq ?_ | refine' s_next ?_ | refine' s_ret ?_ | refine' s_ifS ?_ | refine' s_drop ?_ | refine' s_retN ?_ | refine' s_test ?_ | refine' s_B ?_ | refine' q_test ?_ | refine' s_int ?_ | refine' s_cons ?_ | refine' s_nil ?_ | refine' s_call ?_ | refine' s_CB ?_ | refine' s_andT ?_ | refine' s_orT ?_ | refine' s_notT ?_ | refine' s_andV ?_ | refine' s_orV ?_ | refine' s_notV ?_ | refine' s_ifV ?_ | refine' s_chain ?_ | refine' s_sl ?_ | refine' s_noPart ?_ | refine' s_part ?_ | refine' s_gsub ?_ | refine' s_BM ?_ | refine' s_tup ?_ | refine' s_lst ?_ | refine' q_add ?_ | refine' q_sub ?_ | refine' q_lt ?_ | refine' q_le ?_ | refine' q_gt ?_ | refine' q_ge ?_ | refine' s_ifT ?_ | refine' s_ifF ?_ | refine' s_yes ?_ | refine' s_iStr ?_ | refine' s_M0 ?_ | refine' s_for ?_ | refine' s_rng1 ?_ | refine' s_par ?_ | refine' s_gcons ?_ | refine' s_gnil ?_ | refine' s_iList ?_ | refine' s_iEnum ?_ | refine' s_raise1 ?_
      | (refine' q_mod ?hm ?_; (case hm => first | omega | decide))
    | dsimp only
  k_with "r_A7b" => repeat (k_extra "s_A7b")
  trivial
theorem s_fld {K : PySem.W.Frag} {ta : TE} {f : Str} {σ : L2.St} {H : Hp} {Q : VK} (h : ta σ H fun x H1 => ∃ a C dx fs v, x = .ref a ∧ H1 a = some (.ins C dx fs) ∧ Cls K C ∧ NoAttr K C f ∧ fs.lookup f = some v ∧ Q v H1) : tFld K ta f σ H Q := h
theorem s_sFld {K : PySem.W.Frag} {ta tv : TE} {f : Str} {D : Ends} {σ : L2.St} {H : Hp} (h : tv σ H fun y H1 => ta σ H1 fun x H2 => ∃ a C dx fs, x = .ref a ∧ H2 a = some (.ins C dx fs) ∧ Cls K C ∧ NoAttr K C f ∧ fs.length < 1000 ∧ D.nx σ (upd H2 a (.ins C dx (putF f y fs)))) : sFld K ta tv f D σ H := h
/-! ### answers in order -/
abbrev AZ : Type := Addr × Addr × (Str × Str) × Bool
def toE (z : AZ) : PE4 := (z.1, z.2.1, keyOf z.2.2.1, .bl z.2.2.2)
def dPl (q : Str × Str) : PyData := .tuple [.str q.1, .str q.2]
def dAn (d : (Str × Str) × Bool) : PyData := .tuple [dPl d.1, .bool d.2]
def aLe (a b : AZ) : Bool := dataLe false dAn a.2.2 b.2.2
def aSort (zs : List AZ) : List AZ := zs.mergeSort aLe
/-- the answers zs stand in H -/
def AnsH (H : Hp) (zs : List AZ) : Prop := ∀ z ∈ zs, H z.1 = some (.tup [.ref z.2.1, .bl z.2.2.2]) ∧ H z.2.1 = some (.tup [.str z.2.2.1.1, .str z.2.2.1.2])
theorem AnsH.mono {H H' : Hp} {zs : List AZ} (S : Same H H') (h : AnsH H zs) : AnsH H' zs := fun z m => ⟨S _ _ (h z m).1, S _ _ (h z m).2⟩
theorem AnsH.prs {H : Hp} {zs : List AZ} (h : AnsH H zs) : Prs4 H (zs.map toE) := fun e he => by
  obtain ⟨z, mz, rfl⟩ := List.mem_map.mp he
  exact h z mz
theorem AnsH.of {H : Hp} : ∀ {es : List PE4}, Prs4 H es → IsA es → ∃ zs, es = zs.map toE ∧ AnsH H zs ∧ ∀ z ∈ zs, Nm z.2.2.1.1 ∧ Nm z.2.2.1.2
  | [], _, _ => ⟨[], rfl, (fun _ h => by cases h), (fun _ h => by cases h)⟩
  | e :: es, p, i => by
    obtain ⟨zs, rfl, h1, h2⟩ := AnsH.of (es := es) (fun x m => p x (List.mem_cons_of_mem _ m)) fun x m => i x (List.mem_cons_of_mem _ m)
    obtain ⟨q, b, ee, n1, n2⟩ := i e List.mem_cons_self
    obtain ⟨t, k, kv⟩ := e
    obtain ⟨p1, p2⟩ := p _ List.mem_cons_self
    dsimp only at ee p1 p2
    subst ee
    refine ⟨(t, k, q, b) :: zs, rfl, fun z m => ?_, fun z m => ?_⟩
    · rcases List.mem_cons.mp m with rfl | m
      · exact ⟨p1, p2⟩
      · exact h1 z m
    · rcases List.mem_cons.mp m with rfl | m
      · exact ⟨n1, n2⟩
      · exact h2 z m
theorem allAlike_an (zs : List AZ) : AllAlike (zs.map fun z => dAn z.2.2) := AllAlike.of fun b b' => by simp [dAn, dPl, alike, PySem.W.alikeAll]
theorem sortable_an (zs : List AZ) : Sortable (zs.map fun z => dAn z.2.2) := Sortable.tuples fun b => ⟨_, _, rfl⟩
theorem q_sortA {K : PySem.W.Frag} {H : Hp} {Q : VK} {a : Addr} {zs : List AZ} (h : SqL K H a (zs.map fun z => V.ref z.1)) (p : AnsH H zs) (q : ∀ p H', H p = none → Same H H' → H' p = some (.lst ((aSort zs).map fun z => V.ref z.1)) → Q (.ref p) H') : rSortD K [.ref a] H Q := by
  refine q_sortD (zs.map fun z => (V.ref z.1, dAn z.2.2)) (by rw [List.map_map]; exact h) (fun z hz => ?_) (by rw [List.map_map]; exact allAlike_an zs) (by rw [List.map_map]; exact sortable_an zs) fun r H' nr S hr => ?_
  · obtain ⟨y, my, rfl⟩ := List.mem_map.mp hz
    obtain ⟨p1, p2⟩ := p y my
    exact ⟨.tup (SqT.of p1) (.cons (.tup (SqT.of p2) (.cons (.str _) (.cons (.str _) .nil))) (.cons (.bl _) .nil)), by simp [dAn, dPl, PyData.depth, PyData.depthAll]⟩
  · refine q r H' nr S ?_
    have m1 : (zs.map fun z => ((V.ref z.1, dAn z.2.2) : V × PyData)).mergeSort prLe = (aSort zs).map fun z => (V.ref z.1, dAn z.2.2) :=
      (List.map_mergeSort (f := fun z : AZ => ((V.ref z.1, dAn z.2.2) : V × PyData)) (r := aLe) (s := prLe) fun _ _ _ _ => rfl).symm
    rw [m1, List.map_map] at hr
    exact hr
theorem aSort_perm (zs : List AZ) : (aSort zs).Perm zs := List.mergeSort_perm _ _
theorem AnsH.sort {H : Hp} {zs : List AZ} (h : AnsH H zs) : AnsH H (aSort zs) := fun z m => h z ((aSort_perm zs).mem_iff.mp m)
/-- what the dict of answers holds -/
def kvA (zs : List AZ) : List (List Key × V) := (aSort zs).map fun z => (keyOf z.2.2.1, .bl z.2.2.2)
theorem mergeT_new : ∀ (more kvs : List (List Key × V)), (more.map (·.1)).Nodup → (∀ p ∈ more, valV kvs p.1 = none) → mergeT kvs more = kvs ++ more
  | [], kvs, _, _ => by simp [mergeT]
  | p :: more, kvs, nd, h => by
    rw [List.map_cons, List.nodup_cons] at nd
    rw [mergeT_cons, putK_new _ (h p List.mem_cons_self), mergeT_new more _ nd.2 fun q hq => ?_]
    · simp
    · have hn : q.1 ≠ p.1 := fun e => nd.1 (List.mem_map.mpr ⟨q, hq, e⟩)
      rw [valV_snoc p.1 q.1 p.2 kvs (h p List.mem_cons_self), if_neg hn]
      exact h q (List.mem_cons_of_mem _ hq)
theorem keyOf_inj {p q : Str × Str} (h : keyOf p = keyOf q) : p = q := by
  injection h with h1 h2
  injection h2 with h2 _
  injection h1 with h1
  injection h2 with h2
  exact Prod.ext h1 h2
end Bt
namespace Bt
open PySem PySem.Spec PyProof.Rows L2 LamX NdefX
open PySem.W (dataLt dataLe alike AllAlike Sortable)
theorem words73_ : True := by
  k_with "s_A7c" => first
    | ((with_reducible refine' s_var ?hv ?_); (case hv => exact rfl))
    | with_reducible first
      | refine' s_c ?_ | refine' s_op ?_ | refine' s_asg ?_ | refine' s_gname ?_ | refine' s_seq ?_ | refine' s_next ?_ | refine' s_ret ?_ | refine' s_ifS ?_ | refine' s_drop ?_ | refine' s_retN ?_ | refine' s_test ?_ | refine' s_B ?_ | refine' q_test ?_ | refine' s_int ?_ | refine' s_cons ?_ | refine' s_nil ?_ | refine' s_call ?_ | refine' s_CB ?_ | refine' s_andT ?_ | refine' s_orT ?_ | refine' s_notT ?_ | refine' s_andV ?_ | refine' s_orV ?_ | refine' s_notV ?_ | refine' s_ifV ?_ | refine' s_chain ?_ | refine' s_sl ?_ | refine' s_noPart ?_ | refine' s_part ?_ | refine' s_gsub ?_ | refine' s_BM ?_ | refine' s_tup ?_ | refine' s_lst ?_ | refine' q_add ?_ | refine' q_sub ?_ | refine' q_lt ?_ | refine' q_le ?_ | refine' q_gt ?_ | refine' q_ge ?_ | refine' s_ifT ?_ | refine' s_ifF ?_ | refine' s_yes ?_ | refine' s_iStr ?_ | refine' s_M0 ?_ | refine' s_for ?_ | refine' s_rng1 ?_ | refine' s_par ?_ | refine' s_gcons ?_ | refine' s_gnil ?_ | refine' s_iList ?_ | refine' s_iEnum ?_ | refine' s_raise1 ?_
      | (refine' q_mod ?hm ?_; (case hm => first | omega | decide))
    | dsimp only
  k_with "r_A7c" => repeat (k_extra "s_A7c")
  trivial
theorem lt3 {a c : Nat} (h : a + 64 < c) : a + 3 < c := by omega
/-! ### Ask(..) -/
structure AskC (K : PySem.W.Frag) (mg : Str → Option Value) (CA : Addr) : Prop where
  cl : Cls K CA
  n1 : NoAttr K CA "_stands"
  g : mg "Ask" = some (.ref CA)
  makes : PySem.W.makesIn K CA = true
  kp : PySem.W.keepIn K (.ref CA) = true
  init : ∃ (f : Addr) (fd : FuncData), PySem.W.findIn K (.ref CA) "__init__" = some (some (.ref f)) ∧ PySem.W.isFn K (.ref f) = true ∧ Fun K "__init__" "Ask.__init__" s_Ask___init__ f fd ∧ Binds K fd ["self", "answers"] []
  i1 : PySem.W.findIn K (.ref CA) "__class__" = some (some (.builtin "object.__class__"))
  i2 : PySem.W.specialIn K (.builtin "object.__class__") "__get__" = some (some (.builtin "getset_descriptor.__get__"))
  i3 : PySem.W.takesIn K (.builtin "object.__class__") = some true
  i4 : PySem.W.mroIn K CA (.type "object") = some true
def stF (d : Addr) : List (Str × V) := putF "_stands" (.ref d) []
/-- an ask that stands -/
def AskAt (CA : Addr) (H : Hp) (x : Addr) (zs : List AZ) : Prop := ∃ dx d, H x = some (.ins CA dx (stF d)) ∧ H d = some (.dT (kvA zs))
theorem AskAt.mono {CA x : Addr} {H H' : Hp} {zs : List AZ} (S : Same H H') : AskAt CA H x zs → AskAt CA H' x zs := fun ⟨dx, d, h1, h2⟩ => ⟨dx, d, S _ _ h1, S _ _ h2⟩
def keysA (zs : List AZ) : List (Str × Str) := zs.map fun z => z.2.2.1
section
variable {P : Program} {w : World} {K : PySem.W.Frag} {mg : Str → Option Value} {base : Heap} {CA CL : Addr}
/-- the value v is a list of answers, or something else -/
structure ListArg (K : PySem.W.Frag) (H : Hp) (v : V) (bad : Prop) (good : List AZ → Prop) : Prop where
  ex : ∃ T, Pl K H v T ∧ (T ≠ "list" → bad) ∧ (T = "list" → ∃ q xs, v = .ref q ∧ H q = some (.lst xs) ∧ xs.length < 63 ∧ ∃ r : V → Bool, (∀ y ∈ xs, AnK K H y (r y)) ∧ (xs.all r = false → bad) ∧
    (xs.all r = true → ∃ zs, xs = zs.map (fun z => .ref z.1) ∧ AnsH H zs ∧ (∀ z ∈ zs, Nm z.2.2.1.1 ∧ Nm z.2.2.1.2) ∧ (¬ (keysA zs).Nodup → bad) ∧ ((keysA zs).Nodup → good zs)))
theorem nodup_keys (zs : List AZ) : ((zs.map toE).map (·.2.2.1)).Nodup ↔ (keysA zs).Nodup := by
  rw [List.map_map]
  constructor
  · intro h
    rw [show (zs.map ((fun e : PE4 => e.2.2.1) ∘ toE)) = (keysA zs).map keyOf by unfold keysA; rw [List.map_map]; rfl] at h
    exact List.Pairwise.of_map keyOf (fun _ _ ne e => ne (congrArg keyOf e)) h
  · intro h
    rw [show (zs.map ((fun e : PE4 => e.2.2.1) ∘ toE)) = (keysA zs).map keyOf by unfold keysA; rw [List.map_map]; rfl]
    exact List.Pairwise.map keyOf (fun _ _ ne e => ne (keyOf_inj e)) h
theorem kvA_keys {zs : List AZ} (h : (keysA zs).Nodup) : ((kvA zs).map (·.1)).Nodup := by
  unfold kvA
  rw [List.map_map]
  have pm : (aSort zs).Perm zs := aSort_perm zs
  have h2 : (keysA (aSort zs)).Nodup := (pm.map fun z : AZ => z.2.2.1).nodup_iff.mpr h
  rw [show (aSort zs).map ((fun p : List Key × V => p.1) ∘ fun z : AZ => (keyOf z.2.2.1, .bl z.2.2.2)) = (keysA (aSort zs)).map keyOf by unfold keysA; rw [List.map_map]; rfl]
  exact List.Pairwise.map keyOf (fun _ _ ne e => ne (keyOf_inj e)) h2
def spAskInit (K : PySem.W.Frag) (CA CL : Addr) : Sp := fun vs H Q E => ∃ x dx v, vs = [.ref x, v] ∧ H x = some (.ins CA dx []) ∧
  ListArg K H v (∀ H' d, Same H H' → H d = none → H' d = some (.xd [("value", v)]) → E (.ref CL) (some d) H') (fun zs => ∀ H' d, H' x = some (.ins CA dx (stF d)) → H' d = some (.dT (kvA zs)) → But x H H' → Q .non H')
theorem ok_ask_init {f : Addr} {fd : FuncData} (T : Txt K mg) (N : TxtN K mg) (TS : TxtS K mg) (I : TxtI K mg) (A7 : TxtA7 K mg) (AC : AskC K mg CA) (XL : ExcF K mg "InvalidLook" "value" CL) (F : Fun K "__init__" "Ask.__init__" s_Ask___init__ f fd) :
    FnOk P w K mg base (L2.CX P w) 5 f fd ["self", "answers"] (spAskInit K CA CL) := by
  refine F.okX sc_Ask___init__ (fun vs H Q E h => ?_) (fun cdv A outer s H vs Q E hr h => ?_)
  · obtain ⟨x, dx, v, rfl, _⟩ := h
    rfl
  · obtain ⟨x, dx, v, rfl, hx, ⟨ty, hv, kN, kY⟩⟩ := h
    have hu := hr.units
    refine ⟨_, (pss_cons (ps_if (pt_not (pt_val (pe_c (ok__are_answers T N TS I A7) hr (by decide) rfl (pa_cons (pv 1) pa_nil)))) (pss_one (ps_raise1 rfl XL hr (by decide) (takes_of rfl rfl rfl rfl) (pv 1))) pss_nil)
      (pss_one (ps_fld (pv 0) (pe_callTy (call_dictT rfl (lt3 hu)) (by rfl) A7.n_dict (by decide +kernel) (pa_cons (pe_callB (cr_sortD hu) (by rfl) T.n_sorted (by decide +kernel) (pa_cons (pv 1) pa_nil)) pa_nil)) rfl))), ?_⟩
    k_extra "r_A7c"
    refine ⟨v, ty, rfl, hv, fun e => ?_, fun e => ?_⟩
    · k_extra "r_A7c"
      refine s_if1 rfl ?_
      refine s_raise1 ?_
      k_extra "r_A7c"
      exact fun d H3 nd S3 hd => kN e H3 d S3 nd hd
    · obtain ⟨q, xs, rfl, hq, hz, r, hr', kF, kT⟩ := kY e
      refine ⟨q, xs, rfl, hq, hz, r, hr', fun all H1 S1 => ?_, fun all => ?_⟩
      · k_extra "r_A7c"
        refine s_if1 rfl ?_
        refine s_raise1 ?_
        k_extra "r_A7c"
        exact fun d H3 nd S3 hd => kF all H3 d (S1.trans S3) (S1.free nd) hd
      · obtain ⟨zs, rfl, an, nm, kD, kG⟩ := kT all
        refine ⟨zs.map toE, by rw [List.map_map]; rfl, an.prs, fun e he => ?_, fun H1 b hb S1 => ?_⟩
        · obtain ⟨z, mz, rfl⟩ := List.mem_map.mp he
          exact ⟨_, _, rfl, nm z mz⟩
        · rw [nodup_keys] at hb
          cases b with
          | false =>
            k_extra "r_A7c"
            refine s_if1 rfl ?_
            refine s_raise1 ?_
            k_extra "r_A7c"
            exact fun d H3 nd S3 hd => kD (fun z => nomatch hb.mpr z) H3 d (S1.trans S3) (S1.free nd) hd
          | true =>
            have nd := hb.mp rfl
            k_extra "r_A7c"
            refine s_if0 rfl ?_
            k_extra "r_A7c"
            refine s_sFld ?_
            k_extra "r_A7c"
            refine q_sortA (SqL.of (S1 _ _ hq)) (an.mono S1) fun p H2 np S2 hp => ?_
            have an2 := (an.mono (S1.trans S2)).sort
            refine ⟨p, (aSort zs).map toE, rfl, SqL.of (by rw [List.map_map]; exact hp), fun e he => ?_, fun d ndd => ?_⟩
            · obtain ⟨z, mz, rfl⟩ := List.mem_map.mp he
              exact ⟨SqT.of (an2 z mz).1, (an2 z mz).2⟩
            · have em : mergeT [] (((aSort zs).map toE).map fun e => e.2.2) = kvA zs := by
                rw [List.map_map]
                exact mergeT_new _ [] (kvA_keys nd) fun _ _ => rfl
              rw [em]
              k_extra "r_A7c"
              have S3 : Same H2 (upd H2 d (.dT (kvA zs))) := Same.new ndd
              have T3 := S1.trans (S2.trans S3)
              refine ⟨x, CA, dx, [], rfl, T3 _ _ hx, AC.cl, AC.n1, by decide, ?_⟩
              k_extra "r_A7c"
              have ne : d ≠ x := fun z => by rw [z] at ndd; rw [(S1.trans S2) _ _ hx] at ndd; cases ndd
              exact kG nd _ d upd_same (by rw [upd_ne ne, upd_same]) fun b o n e => (upd_ne n).trans (T3 _ _ e)
end
end Bt
namespace Bt
open PySem PySem.Spec PyProof.Rows L2 LamX NdefX
open PySem.W (dataLt dataLe alike AllAlike Sortable)
theorem words74_ : True := by
  k_with "s_A7d" => first
    | ((with_reducible refine' s_var ?hv ?_); (case hv => exact rfl))
    | with_reducible first
      | refine' s_c ?_ | refine' s_op ?_ | refine' s_asg ?_ | refine' s_gname ?_ | refine' s_seq ?_ | refine' s_next ?_ | refine' s_ret ?_ | refine' s_ifS ?_ | refine' s_drop ?_ | refine' s_retN ?_ | refine' s_test ?_ | refine' s_B ?_ | refine' q_test ?_ | refine' s_int ?_ | refine' s_cons ?_ | refine' s_nil ?_ | refine' s_call ?_ | refine' s_CB ?_ | refine' s_andT ?_ | refine' s_orT ?_ | refine' s_notT ?_ | refine' s_andV ?_ | refine' s_orV ?_ | refine' s_notV ?_ | refine' s_ifV ?_ | refine' s_chain ?_ | refine' s_sl ?_ | refine' s_noPart ?_ | refine' s_part ?_ | refine' s_gsub ?_ | refine' s_BM ?_ | refine' s_tup ?_ | refine' s_lst ?_ | refine' q_add ?_ | refine' q_sub ?_ | refine' q_lt ?_ | refine' q_le ?_ | refine' q_gt ?_ | refine' q_ge ?_ | refine' s_ifT ?_ | refine' s_ifF ?_ | refine' s_yes ?_ | refine' s_iStr ?_ | refine' s_M0 ?_ | refine' s_for ?_ | refine' s_rng1 ?_ | refine' s_par ?_ | refine' s_gcons ?_ | refine' s_gnil ?_ | refine' s_iList ?_ | refine' s_iEnum ?_ | refine' s_raise1 ?_
      | (refine' q_mod ?hm ?_; (case hm => first | omega | decide))
    | dsimp only
  k_with "r_A7d" => repeat (k_extra "s_A7d")
  trivial
theorem lt1 {a c : Nat} (h : a + 64 < c) : a + 1 < c := by omega
/-! ### what an ask tells -/
theorem s_callSD {sp : Sp} {dvs : List V} {E : L2.St → XK} {t : TA} {σ : L2.St} {H : Hp} {Q : VK} (h : t σ H fun vs H1 => sp (vs ++ dvs) H1 Q (E σ)) : tCallSD sp dvs E t σ H Q := h
section
variable {X : Cx} {k j : Nat} {x : Str} {sp : Sp} {p pos : Pos} {e : Expr} {es : List Expr} {t : TA} {W : WX}
theorem pe_cxS (c : CalX X.prog X.w X.K X.mg X.base k x sp) (hr : Room j X.A) (hk : k ≤ j) (tk : Takes X W) (hg : Gl X x) (ha : PA X (e :: es) t)
    (hdb : (x == ("__debug__" : Str)) = false := by decide) (he : starEach (e :: es) X.env = (false, eval e X.env) :: starEach es X.env := by rfl) (hpl : (backTo pos (starEach es X.env)).any (·.1) = false := by rfl) :
    PE X (.Call (.Name x p) (e :: es) [] pos) (tCallSD sp [] (fun σ => WE W σ) t) := by
  obtain ⟨f, fd, ps, F, hm, kp, b⟩ := c.ex
  exact pe_callSD F (hr.mono hk) hg hm kp b .nil (fun σ => passAt tk σ) ha hdb he hpl
end

theorem s_din {ty td : TE} {σ : L2.St} {H : Hp} {Q : VK} (h : ty σ H fun y H1 => td σ H1 fun x H2 => ∃ a o, x = .ref a ∧ DGet H2 a y o ∧ Q (.bl o.isSome) H2) : tDIn ty td σ H Q := h
theorem s_dget1 {td ty : TE} {σ : L2.St} {H : Hp} {Q : VK} (h : td σ H fun x H1 => ∃ a, x = .ref a ∧ IsD H1 a ∧ ty σ H1 fun y H2 => ∃ o, DGet H2 a y o ∧ Q (o.getD .non) H2) : tDGet1 td ty σ H Q := h
theorem s_lockE {t : TE} {σ : L2.St} {H : Hp} {Q : VK} (h : ∃ d u, H d = some u ∧ Mut (some u) ∧ ∀ od, t σ (upd H d (.frz od u)) fun v H' => H' d = some (.frz od u) ∧ Q v (upd H' d u)) : tLockE t σ H Q := h
theorem kv_of {ds : List ((Str × Str) × Bool)} : ∀ {es : List PE4}, es.map (·.2.2) = ds.map (fun d => ((keyOf d.1, .bl d.2) : List Key × V)) → ∃ ws : List AZ, es = ws.map toE ∧ ws.map (·.2.2) = ds := by
  induction ds with
  | nil =>
    intro es h
    cases es with
    | nil => exact ⟨[], rfl, rfl⟩
    | cons e es => cases h
  | cons d ds ih =>
    intro es h
    cases es with
    | nil => cases h
    | cons e es =>
      rw [List.map_cons, List.map_cons] at h
      injection h with h1 h2
      obtain ⟨ws, rfl, rfl⟩ := ih h2
      obtain ⟨t, k, kv⟩ := e
      dsimp only at h1
      subst h1
      exact ⟨(t, k, d) :: ws, rfl, rfl⟩
theorem kvA_ds (zs : List AZ) : kvA zs = ((aSort zs).map (·.2.2)).map (fun d => ((keyOf d.1, .bl d.2) : List Key × V)) := by
  unfold kvA
  rw [List.map_map]
  rfl
theorem AnsH.back {H : Hp} {ws : List AZ} (h : Prs4 H (ws.map toE)) : AnsH H ws := fun z m => h (toE z) (List.mem_map.mpr ⟨z, m, rfl⟩)
structure AskP (K : PySem.W.Frag) (CA : Addr) : Prop where
  ans : ∃ (p f : Addr) (fd : FuncData), PropOf K CA "answers" p f ∧ Fun K "answers" "Ask.answers" s_Ask_answers f fd ∧ Binds K fd ["self"] []
  std : ∃ (f : Addr) (fd : FuncData), Meth K CA "standing" f ∧ Fun K "standing" "Ask.standing" s_Ask_standing f fd ∧ Binds K fd ["self"] []
  say : ∃ (f : Addr) (fd : FuncData), Meth K CA "says" f ∧ Fun K "says" "Ask.says" s_Ask_says f fd ∧ Binds K fd ["self", "place"] []
section
variable {P : Program} {w : World} {K : PySem.W.Frag} {mg : Str → Option Value} {base : Heap} {CA CL : Addr}
def spAnswers (CA : Addr) : Sp := fun vs H Q _ => ∃ x zs, vs = [.ref x] ∧ AskAt CA H x zs ∧ ∀ D H' ws, H D = none → Same H H' → H' D = some (.lst (ws.map fun z : AZ => V.ref z.1)) → AnsH H' ws → ws.map (·.2.2) = (aSort zs).map (·.2.2) → Q (.ref D) H'
theorem ok_ask_answers {f : Addr} {fd : FuncData} (TS : TxtS K mg) (AC : AskC K mg CA) (F : Fun K "answers" "Ask.answers" s_Ask_answers f fd) : FnOk P w K mg base CX0 1 f fd ["self"] (spAnswers CA) := by
  refine F.ok sc_Ask_answers (fun vs H Q E h => ?_) (fun cdv A outer s H vs Q E hr h => ?_)
  · obtain ⟨x, zs, rfl, _⟩ := h
    rfl
  · obtain ⟨x, zs, rfl, ⟨dx, d, hx, hd⟩, k⟩ := h
    refine ⟨_, (pss_one (ps_ret (pe_listItT rfl (pe_fld (pv 0) rfl) (by rfl) TS.n_list (by decide +kernel)))), ?_⟩
    k_extra "r_A7d"
    refine s_fld ?_
    k_extra "r_A7d"
    refine ⟨x, CA, dx, _, .ref d, rfl, hx, AC.cl, AC.n1, rfl, ?_⟩
    refine ⟨d, _, rfl, hd, fun H' p es S np hp he pr => ?_⟩
    rw [kvA_ds] at he
    obtain ⟨ws, rfl, hw⟩ := kv_of he
    rw [List.map_map] at hp
    exact k p H' ws np S hp (AnsH.back pr) hw
def spIn (K : PySem.W.Frag) (CA : Addr) : Sp := fun vs H Q _ => ∃ x v zs b, vs = [.ref x, v] ∧ AskAt CA H x zs ∧ PlK K H v b ∧ (b = false → ∀ H', Same H H' → Q (.bl false) H') ∧
  (b = true → ∃ a q, v = .ref a ∧ H a = some (.tup [.str q.1, .str q.2]) ∧ ∀ H', Same H H' → Q (.bl (valV (kvA zs) (keyOf q)).isSome) H')
theorem ok_ask_in {f : Addr} {fd : FuncData} (T : Txt K mg) (N : TxtN K mg) (I : TxtI K mg) (AC : AskC K mg CA) (F : Fun K "__contains__" "Ask.__contains__" s_Ask___contains__ f fd) : FnOk P w K mg base CX0 3 f fd ["self", "place"] (spIn K CA) := by
  refine F.ok sc_Ask___contains__ (fun vs H Q E h => ?_) (fun cdv A outer s H vs Q E hr h => ?_)
  · obtain ⟨x, v, zs, b, rfl, _⟩ := h
    rfl
  · obtain ⟨x, v, zs, b, rfl, ⟨dx, d, hx, hd⟩, hv, kF, kT⟩ := h
    have hu := hr.units
    refine ⟨_, (pss_one (ps_ret (pe_and (pe_c (ok_is_place T N I) hr (by decide) rfl (pa_cons (pv 1) pa_nil)) (pe_one (pe_cmp (pc_din (lt1 hu) (pv 1) (pe_fld (pv 0) rfl))))))), ?_⟩
    k_extra "r_A7d"
    refine place_asked hv fun H1 S1 => ⟨_, rfl, ?_⟩
    cases b with
    | false => exact kF rfl H1 S1
    | true =>
      obtain ⟨a, q, rfl, ha, kq⟩ := kT rfl
      rw [if_pos rfl]
      refine s_din ?_
      k_extra "r_A7d"
      refine s_fld ?_
      k_extra "r_A7d"
      refine ⟨x, CA, dx, _, .ref d, rfl, S1 _ _ hx, AC.cl, AC.n1, rfl, ?_⟩
      exact ⟨d, _, rfl, DGet.t (k := keyOf q) (S1 _ _ hd) (S1 _ _ ha), kq H1 S1⟩
/-- says: the answer, None; InvalidPlace for a value that is no place -/
def spSays (K : PySem.W.Frag) (CA CL : Addr) : Sp := fun vs H Q E => ∃ x v zs b, vs = [.ref x, v] ∧ AskAt CA H x zs ∧ PlK K H v b ∧ (b = false → ∀ H' d, Same H H' → H d = none → H' d = some (.xd [("value", v)]) → E (.ref CL) (some d) H') ∧
  (b = true → ∃ a q, v = .ref a ∧ H a = some (.tup [.str q.1, .str q.2]) ∧ ∀ H', Same H H' → Q ((valV (kvA zs) (keyOf q)).getD .non) H')
theorem ok_ask_says {f : Addr} {fd : FuncData} (T : Txt K mg) (N : TxtN K mg) (I : TxtI K mg) (AC : AskC K mg CA) (XP : ExcF K mg "InvalidPlace" "value" CL) (F : Fun K "says" "Ask.says" s_Ask_says f fd) : FnOk P w K mg base (L2.CX P w) 4 f fd ["self", "place"] (spSays K CA CL) := by
  refine F.okX sc_Ask_says (fun vs H Q E h => ?_) (fun cdv A outer s H vs Q E hr h => ?_)
  · obtain ⟨x, v, zs, b, rfl, _⟩ := h
    rfl
  · obtain ⟨x, v, zs, b, rfl, ⟨dx, d, hx, hd⟩, hv, kF, kT⟩ := h
    have hu := hr.units
    refine ⟨_, (pss_cons (ps_expr (pe_cxS (ok_check_place T N I XP) hr (by decide) (takes_of rfl rfl rfl rfl) rfl (pa_cons (pv 1) pa_nil)))
      (pss_one (ps_ret (pe_dget1 (lt1 hu) (pe_fld (pv 0) rfl) (pv 1) ⟨rfl, rfl, rfl, rfl⟩)))), ?_⟩
    k_extra "r_A7d"
    refine s_callSD ?_
    k_extra "r_A7d"
    have yes : b = true → ∀ H1, Same H H1 → ∀ Z : Ends, Z.rt = Q → tRet (tDGet1 (tFld K (tVar 0) "_stands") (tVar 1)) Z (start ["self", "place"] [.ref x, v]) H1 := fun eb H1 S1 Z ez => by
      obtain ⟨a, q, rfl, ha, kq⟩ := kT eb
      refine s_ret (s_dget1 (s_fld ?_))
      k_extra "r_A7d"
      refine ⟨x, CA, dx, _, .ref d, rfl, S1 _ _ hx, AC.cl, AC.n1, rfl, d, rfl, .inr ⟨_, .inl (S1 _ _ hd)⟩, ?_⟩
      k_extra "r_A7d"
      refine ⟨_, DGet.t (k := keyOf q) (S1 _ _ hd) (S1 _ _ ha), ?_⟩
      rw [ez]
      exact kq H1 S1
    cases hv with
    | no h n nt => exact ⟨v, _, rfl, h, fun e => absurd e n, fun p => absurd p nt.no, fun _ H3 d S3 nd hd => kF rfl H3 d S3 nd hd⟩
    | tup e h ha hy hb =>
      subst e
      refine ⟨_, _, rfl, h, fun _ => ⟨_, _, rfl, ha, hy⟩, fun p => ⟨rfl, fun H1 S1 => ?_⟩, fun np H3 d S3 nd hd => ?_⟩
      · exact yes (hb.mpr p) H1 S1 _ rfl
      · cases b with
        | false => exact kF rfl H3 d S3 nd hd
        | true => exact absurd (hb.mp rfl) np
theorem s_iItT {td : TE} {σ : L2.St} {H : Hp} {R : It → Hp → Prop} (h : td σ H fun x H1 => ∃ d o kvs, x = .ref d ∧ H1 d = some (.frz o (.dT kvs)) ∧ R (Itit d o kvs) H1) : iItemsT td σ H R := h
theorem Pls.imp {H H' : Hp} {xs : List V} {ps : List (Str × Str)} (i : ∀ a ys, H a = some (.tup ys) → H' a = some (.tup ys)) (h : Pls H xs ps) : Pls H' xs ps := by
  induction h with
  | nil => exact .nil
  | cons h _ ih => exact .cons (let ⟨a, e, h⟩ := h; ⟨a, e, i _ _ h⟩) ih
def spStd (CA : Addr) : Sp := fun vs H Q _ => ∃ x zs, vs = [.ref x] ∧ AskAt CA H x zs ∧ zs.length < 64 ∧ ∀ D H' xs, H D = none → Same H H' → H' D = some (.lst xs) → Pls H' xs (((aSort zs).filter fun z => z.2.2.2).map fun z => z.2.2.1) → Q (.ref D) H'
theorem ok_ask_standing {f : Addr} {fd : FuncData} (AC : AskC K mg CA) (F : Fun K "standing" "Ask.standing" s_Ask_standing f fd) : FnOk P w K mg base CX0 1 f fd ["self"] (spStd CA) := by
  refine F.ok sc_Ask_standing (fun vs H Q E h => ?_) (fun cdv A outer s H vs Q E hr h => ?_)
  · obtain ⟨x, zs, rfl, _⟩ := h
    rfl
  · obtain ⟨x, zs, rfl, ⟨dx, d, hx, hd⟩, hz, k⟩ := h
    refine ⟨_, (pss_one (ps_ret (pe_lock (pe_lc (own := [("place", 1), ("stands", 2)]) (g := gTup K 2 (gCons (gName 1) (gCons (gName 2) gNil))) (tt := tB (tVar 2)) (te := tVar 1) rfl sc_Ask_standing.nd (pi_itemsT (pe_fld (pv 0) rfl)) (blkOk_by (own := [("place", 1), ("stands", 2)]) (N := ["self", "place", "stands"]) (sc := defScope s_Ask_standing) (by decide +kernel)) (fun _ _ _ _ _ => pg_tup (by rfl) (pgs_cons (pg_name (i := 1) sc_Ask_standing.nd rfl (Or.inl rfl)) (pgs_cons (pg_name (i := 2) sc_Ask_standing.nd rfl (Or.inl rfl)) pgs_nil))) (fun _ _ _ _ _ => by exact pts_one (pt_val (pv 2))) (fun _ _ _ _ _ => by exact pv 1))))), ?_⟩
    k_extra "r_A7d"
    refine s_lockE ⟨d, .dT (kvA zs), hd, trivial, fun od => ?_⟩
    have xd : x ≠ d := fun z => by rw [z, hd] at hx; cases hx
    refine s_lc (s_iItT (s_fld ?_))
    k_extra "r_A7d"
    refine ⟨x, CA, dx, _, .ref d, rfl, by rw [upd_ne xd]; exact hx, AC.cl, AC.n1, rfl, d, od, _, rfl, upd_same, fun D nD => ?_⟩
    have nd : D ≠ d := fun z => by rw [z, upd_same] at nD; cases nD
    have hD : H D = none := by rw [upd_ne nd] at nD; exact nD
    refine lc_itemsT (fun i H' => (∀ b o, b ≠ d → H b = some o → H' b = some o) ∧ H' d = some (.frz od (.dT (kvA zs))) ∧ ∃ xs, H' D = some (.lst xs) ∧ Pls H' xs ((((aSort zs).take i).filter fun z => z.2.2.2).map fun z => z.2.2.1) ∧ xs.length ≤ i) ?_ (fun i H' _ h => h.2.1) ?_ ?_
    · exact ⟨fun b o n e => by rw [upd_ne (ne_of_none e hD), upd_ne n]; exact e, by rw [upd_ne nd.symm, upd_same], [], upd_same, .nil, Nat.le_refl _⟩
    · rintro i T b kk v H1 hi ⟨h1, h2, xs, h3, h4, h5⟩ nT hb
      have ST : Same H1 (upd H1 T (.tup [.ref b, v])) := Same.new nT
      refine q_gtup (SqT.of upd_same) rfl ?_
      k_extra "r_A7d"
      refine ⟨rfl, ?_⟩
      unfold kvA at hi
      rw [List.getElem?_map] at hi
      obtain ⟨z, hz', ez⟩ := Option.map_eq_some_iff.mp hi
      cases ez
      k_extra "r_A7d"
      have lt : i < zs.length := by
        have := (List.getElem?_eq_some_iff.mp hz').1
        rwa [(aSort_perm zs).length_eq] at this
      have ht : (aSort zs).take (i + 1) = (aSort zs).take i ++ [z] := by rw [List.take_add_one, hz']; rfl
      rw [ht, List.filter_append, List.map_append]
      obtain ⟨t, kb, q, bb⟩ := z
      cases bb with
      | true =>
        rw [if_pos rfl]
        k_extra "r_A7d"
        have nD2 : ∀ a ys, upd H1 T (.tup [.ref b, .bl true]) a = some (.tup ys) → upd (upd H1 T (.tup [.ref b, .bl true])) D (.lst (xs ++ [.ref b])) a = some (.tup ys) := fun a ys e => by
          rw [upd_ne (fun z => by rw [z, ST _ _ h3] at e; cases e)]
          exact e
        refine ⟨xs, ST _ _ h3, szlt (by omega), fun b' o n e => (upd_ne (ne_of_none e hD)).trans (ST _ _ (h1 b' o n e)), (upd_ne nd.symm).trans (ST _ _ h2), _, upd_same, ?_, by simp; omega⟩
        exact ((h4.mono ST).imp nD2).snoc ⟨b, rfl, nD2 _ _ (ST _ _ hb)⟩
      | false =>
        rw [if_neg (by simp)]
        refine ⟨fun b' o n e => ST _ _ (h1 b' o n e), ST _ _ h2, xs, ST _ _ h3, ?_, by omega⟩
        simpa using h4.mono ST
    · rintro H1 ⟨h1, h2, xs, h3, h4, h5⟩
      have len : (kvA zs).length = (aSort zs).length := by unfold kvA; rw [List.length_map]
      rw [len, List.take_of_length_le (Nat.le_refl _)] at h4
      refine ⟨h2, k D _ xs hD (fun b o e => ?_) ((upd_ne nd).trans h3) (h4.imp fun a ys e => ?_)⟩
      · by_cases z : b = d
        · rw [z, hd] at e
          rw [z, upd_same]
          exact e
        · rw [upd_ne z]
          exact h1 b o z e
      · rw [upd_ne (fun z => by rw [z, h2] at e; cases e)]
        exact e
end
end Bt
namespace Bt
open PySem PySem.Spec PyProof.Rows L2 LamX NdefX
open PySem.W (dataLt dataLe alike AllAlike Sortable)
theorem words75_ : True := by
  k_with "s_A7e" => first
    | ((with_reducible refine' s_var ?hv ?_); (case hv => exact rfl))
    | with_reducible first
      | refine' s_c ?_ | refine' s_op ?_ | refine' s_asg ?_ | refine' s_gname ?_ | refine' s_seq ?_ | refine' s_next ?_ | refine' s_ret ?_ | refine' s_ifS ?_ | refine' s_drop ?_ | refine' s_retN ?_ | refine' s_test ?_ | refine' s_B ?_ | refine' q_test ?_ | refine' s_int ?_ | refine' s_cons ?_ | refine' s_nil ?_ | refine' s_call ?_ | refine' s_CB ?_ | refine' s_andT ?_ | refine' s_orT ?_ | refine' s_notT ?_ | refine' s_andV ?_ | refine' s_orV ?_ | refine' s_notV ?_ | refine' s_ifV ?_ | refine' s_chain ?_ | refine' s_sl ?_ | refine' s_noPart ?_ | refine' s_part ?_ | refine' s_gsub ?_ | refine' s_BM ?_ | refine' s_tup ?_ | refine' s_lst ?_ | refine' q_add ?_ | refine' q_sub ?_ | refine' q_lt ?_ | refine' q_le ?_ | refine' q_gt ?_ | refine' q_ge ?_ | refine' s_ifT ?_ | refine' s_ifF ?_ | refine' s_yes ?_ | refine' s_iStr ?_ | refine' s_M0 ?_ | refine' s_for ?_ | refine' s_rng1 ?_ | refine' s_par ?_ | refine' s_gcons ?_ | refine' s_gnil ?_ | refine' s_iList ?_ | refine' s_iEnum ?_ | refine' s_raise1 ?_
      | (refine' q_mod ?hm ?_; (case hm => first | omega | decide))
    | dsimp only
  k_with "r_A7e" => repeat (k_extra "s_A7e")
  trivial
/-! ### equal lists of answers, Ask.__eq__ -/
abbrev Dn : Type := (Str × Str) × Bool
theorem eqv_str (a b : Str) : PyData.eqv (.str a) (.str b) = decide (a = b) := by
  simp only [PyData.eqv]
  by_cases h : a = b <;> simp [h]
theorem eqv_pl (p q : Str × Str) : PyData.eqv (dPl p) (dPl q) = decide (p = q) := by
  obtain ⟨p1, p2⟩ := p
  obtain ⟨q1, q2⟩ := q
  unfold dPl
  simp only [PyData.eqv, PyData.eqvAll, Prod.mk.injEq, Bool.and_true]
  rw [Bool.decide_and]
  congr 1 <;> · by_cases h : _ = _ <;> simp_all
theorem eqv_an (a b : Dn) : PyData.eqv (dAn a) (dAn b) = decide (a = b) := by
  obtain ⟨a1, a2⟩ := a
  obtain ⟨b1, b2⟩ := b
  have h := eqv_pl a1 b1
  unfold dAn
  simp only [PyData.eqv, PyData.eqvAll, Bool.and_true, h, Prod.mk.injEq]
  rw [Bool.decide_and]
  congr 1
theorem eqvAll_an : ∀ (xs ys : List Dn), PyData.eqvAll (xs.map dAn) (ys.map dAn) = decide (xs = ys)
  | [], [] => by simp [PyData.eqvAll]
  | [], y :: ys => by simp [PyData.eqvAll]
  | x :: xs, [] => by simp [PyData.eqvAll]
  | x :: xs, y :: ys => by
    simp only [List.map_cons, PyData.eqvAll, eqvAll_an xs ys, eqv_an, List.cons.injEq]
    rw [Bool.decide_and]
/-- the list of answers, as data -/
def dAs (ds : List Dn) : PyData := .list (ds.map dAn)
theorem eqv_as (xs ys : List Dn) : PyData.eqv (dAs xs) (dAs ys) = decide (xs = ys) := by
  unfold dAs
  rw [PyData.eqv]
  exact eqvAll_an xs ys
def NmA (ds : List Dn) : Prop := ∀ d ∈ ds, Nm d.1.1 ∧ Nm d.1.2
theorem canLay_as : ∀ {ds : List Dn}, NmA ds → PyData.canLayAll0 (ds.map dAn) = true
  | [], _ => by simp [PyData.canLayAll0]
  | d :: ds, h => by
    have z1 : PyData.strOk d.1.1 = true := (h d List.mem_cons_self).1.asc.ok
    have z2 : PyData.strOk d.1.2 = true := (h d List.mem_cons_self).2.asc.ok
    simp only [List.map_cons, PyData.canLayAll0, canLay_as fun z hz => h z (List.mem_cons_of_mem _ hz), Bool.and_true, dAn, dPl, PyData.canLay0, z1, z2]
theorem depth_as : ∀ (ds : List Dn), PyData.depthAll (ds.map dAn) ≤ 8
  | [] => by simp [PyData.depthAll]
  | d :: ds => by
    have := depth_as ds
    simp only [List.map_cons, PyData.depthAll, dAn, dPl, PyData.depth]
    omega
theorem sh_as {ds : List Dn} (h : NmA ds) : SeqAt.shaped (dAs ds) = true := by
  unfold SeqAt.shaped dAs
  rw [Bool.and_eq_true, decide_eq_true_eq]
  have := depth_as ds
  refine ⟨by simp only [PyData.canLay0]; exact canLay_as h, ?_⟩
  simp only [PyData.depth]
  omega
theorem AnsH.dps {K : PySem.W.Frag} {H : Hp} : ∀ {ws : List AZ}, AnsH H ws → DpAll K H (ws.map fun z => V.ref z.1) ((ws.map (·.2.2)).map dAn)
  | [], _ => .nil
  | z :: ws, h => by
    obtain ⟨p1, p2⟩ := h z List.mem_cons_self
    exact .cons (.tup (SqT.of p1) (.cons (.tup (SqT.of p2) (.cons (.str _) (.cons (.str _) .nil))) (.cons (.bl _) .nil))) (AnsH.dps fun y m => h y (List.mem_cons_of_mem _ m))
theorem AnsH.dp {K : PySem.W.Frag} {H : Hp} {D : Addr} {ws : List AZ} (h : AnsH H ws) (hD : H D = some (.lst (ws.map fun z => V.ref z.1))) : Dp K H (.ref D) (dAs (ws.map (·.2.2))) := .lst (SqL.of hD) h.dps
/-- the data of an ask -/
def dsA (zs : List AZ) : List Dn := (aSort zs).map (·.2.2)
theorem dsA_nm {zs : List AZ} (h : NmA (zs.map (·.2.2))) : NmA (dsA zs) := fun d hd => h d (((aSort_perm zs).map (·.2.2)).mem_iff.mp hd)
section
variable {X : Cx} {k : Nat} {CA : Addr} {e : Expr} {te : TE} {pos : Pos}
theorem pe_answers (TS : TxtS X.K X.mg) (AC : AskC X.K X.mg CA) (AP : AskP X.K CA) (hr : Room k X.A) (hk : 2 ≤ k) (he : PE X e te) (hab : attributeBase e "answers" X.env (eval e X.env) = eval e X.env := by rfl) : PE X (.Attribute e "answers" pos) (tProp CA (spAnswers CA) [] E0 te) := by
  obtain ⟨p, f, fd, hp, F, b⟩ := AP.ans
  exact pe_prop he AC.cl hp (ok_ask_answers TS AC F) (hr.mono hk) b .nil pass0 hab
theorem q_answers {H : Hp} {Q : VK} {x : Addr} {zs : List AZ} (h : AskAt CA H x zs) (q : ∀ D H' ws, H D = none → Same H H' → H' D = some (.lst (ws.map fun z : AZ => V.ref z.1)) → AnsH H' ws → ws.map (·.2.2) = dsA zs → Q (.ref D) H') :
    ∃ b dx fs, V.ref x = .ref b ∧ H b = some (.ins CA dx fs) ∧ spAnswers CA (.ref b :: []) H Q E0 := let ⟨dx, d, h1, h2⟩ := h; ⟨x, dx, _, rfl, h1, x, zs, rfl, ⟨dx, d, h1, h2⟩, q⟩
end
section
variable {P : Program} {w : World} {K : PySem.W.Frag} {mg : Str → Option Value} {base : Heap} {CA CL : Addr}
def spAskEq (K : PySem.W.Frag) (CA : Addr) : Sp := fun vs H Q _ => ∃ x y zs, vs = [.ref x, y] ∧ AskAt CA H x zs ∧ NmA (zs.map (·.2.2)) ∧
  ((∃ b zs', y = .ref b ∧ AskAt CA H b zs' ∧ NmA (zs'.map (·.2.2)) ∧ ∀ H', Same H H' → Q (.bl (decide (dsA zs = dsA zs'))) H') ∨ ∃ t, TyX K H y t ∧ PySem.W.kitOne K t (.ref CA) = some false ∧ ∀ H', Same H H' → Q (.bl false) H')
theorem ok_ask_eq {f : Addr} {fd : FuncData} (T : Txt K mg) (TS : TxtS K mg) (AC : AskC K mg CA) (AP : AskP K CA) (kY : PySem.W.kitOne K (.ref CA) (.ref CA) = some true) (F : Fun K "__eq__" "Ask.__eq__" s_Ask___eq__ f fd) : FnOk P w K mg base CX0 3 f fd ["self", "other"] (spAskEq K CA) := by
  refine F.ok sc_Ask___eq__ (fun vs H Q E h => ?_) (fun cdv A outer s H vs Q E hr h => ?_)
  · obtain ⟨x, y, zs, rfl, _⟩ := h
    rfl
  · obtain ⟨x, y, zs, rfl, hx, nz, hy⟩ := h
    have hu := hr.units
    refine ⟨_, (pss_one (ps_ret (pe_and (pe_callB call_isi (by rfl) T.n_isinstance (by decide +kernel) (pa_cons (pv 1) (pa_cons (pe_glob (v := .ref CA) (by rfl) AC.g rfl) pa_nil))) (pe_one (pe_cmpR (op_eqU hu) (pe_answers TS AC AP hr (by decide) (pv 0)) (pe_answers TS AC AP hr (by decide) (pv 1)) (by rfl)))))), ?_⟩
    k_extra "r_A7e"
    rcases hy with ⟨b, zs', rfl, hb, nz', k⟩ | ⟨t, ht, kt, k⟩
    · have hb' := hb
      obtain ⟨dx, d, h1, h2⟩ := hb'
      refine ⟨.ref b, .ref CA, .ref CA, .ref CA, true, rfl, .own CA, .base (.ins h1 AC.cl AC.i1 AC.i2 AC.i3 AC.i4), kY, ?_⟩
      k_extra "r_A7e"
      refine s_prop ?_
      k_extra "r_A7e"
      refine q_answers hx fun D1 H1 ws nD S1 hD an e1 => ?_
      refine s_prop ?_
      k_extra "r_A7e"
      refine q_answers (hb.mono S1) fun D2 H2 ws' nD2 S2 hD2 an2 e2 => ?_
      refine q_eqD ((an.mono S2).dp (S2 _ _ hD)) (an2.dp hD2) (by rw [e1]; exact sh_as (dsA_nm nz)) (by rw [e2]; exact sh_as (dsA_nm nz')) ?_
      rw [eqv_as, e1, e2]
      exact k H2 (S1.trans S2)
    · refine ⟨y, .ref CA, t, .ref CA, false, rfl, .own CA, ht, kt, ?_⟩
      k_extra "r_A7e"
      exact k H (Same.refl H)
end
end Bt
namespace Bt
open PySem PySem.Spec PyProof.Rows L2 LamX NdefX
open PySem.W (dataLt dataLe alike AllAlike Sortable)
theorem words76_ : True := by
  k_with "s_A7f" => first
    | ((with_reducible refine' s_var ?hv ?_); (case hv => exact rfl))
    | with_reducible first
      | refine' s_c ?_ | refine' s_op ?_ | refine' s_asg ?_ | refine' s_gname ?_ | refine' s_seq ?_ | refine' s_next ?_ | refine' s_ret ?_ | refine' s_ifS ?_ | refine' s_drop ?_ | refine' s_retN ?_ | refine' s_test ?_ | refine' s_B ?_ | refine' q_test ?_ | refine' s_int ?_ | refine' s_cons ?_ | refine' s_nil ?_ | refine' s_call ?_ | refine' s_CB ?_ | refine' s_andT ?_ | refine' s_orT ?_ | refine' s_notT ?_ | refine' s_andV ?_ | refine' s_orV ?_ | refine' s_notV ?_ | refine' s_ifV ?_ | refine' s_chain ?_ | refine' s_sl ?_ | refine' s_noPart ?_ | refine' s_part ?_ | refine' s_gsub ?_ | refine' s_BM ?_ | refine' s_tup ?_ | refine' s_lst ?_ | refine' q_add ?_ | refine' q_sub ?_ | refine' q_lt ?_ | refine' q_le ?_ | refine' q_gt ?_ | refine' q_ge ?_ | refine' s_ifT ?_ | refine' s_ifF ?_ | refine' s_yes ?_ | refine' s_iStr ?_ | refine' s_M0 ?_ | refine' s_for ?_ | refine' s_rng1 ?_ | refine' s_par ?_ | refine' s_gcons ?_ | refine' s_gnil ?_ | refine' s_iList ?_ | refine' s_iEnum ?_ | refine' s_raise1 ?_
      | (refine' q_mod ?hm ?_; (case hm => first | omega | decide))
    | dsimp only
  k_with "r_A7f" => repeat (k_extra "s_A7f")
  trivial
/-! ### the law's helpers: shuffled, says of an ask -/
theorem pss_deadA {X : Cx} {b : List Stmt} : PSs X b (fun _ _ _ => False) := ⟨fun _ _ _ _ _ _ h => h.elim⟩
theorem cutV_take {xs : List V} (k : Nat) : cutV xs none (some (k : Int)) = xs.take k := by
  unfold cutV
  rw [HT.sIx_nat, HT.sIx_none, List.drop_zero, Nat.sub_zero]
  rcases Nat.lt_or_ge xs.length k with h | h
  · rw [Nat.min_eq_right (by omega), List.take_of_length_le (Nat.le_refl _), List.take_of_length_le (by omega)]
  · rw [Nat.min_eq_left h]
theorem cutV_drop {xs : List V} (k : Nat) : cutV xs (some (k : Int)) none = xs.drop k := by
  unfold cutV
  rw [HT.sIx_nat, HT.sIx_none]
  rcases Nat.lt_or_ge xs.length k with h | h
  · rw [Nat.min_eq_right (by omega), List.drop_eq_nil_of_le (Nat.le_refl _), List.drop_eq_nil_of_le (by omega), List.take_nil]
  · rw [Nat.min_eq_left h, List.take_of_length_le (by rw [List.length_drop]; omega)]
structure TxtF7 (K : PySem.W.Frag) (mg : Str → Option Value) : Prop where
  d_shuf : Df K mg "_law_shuffled" s__law_shuffled ["_law_purse_here", "_law_rows"]
  d_says : Df K mg "_law_says" s__law_says ["_law_look", "_law_place"]
section
variable {P : Program} {w : World} {K : PySem.W.Frag} {mg : Str → Option Value} {base : Heap}
def spShuf : Sp := fun vs H Q _ => ∃ p a xs, vs = [.ref p, .ref a] ∧ Purse H p ∧ H a = some (.lst xs) ∧ a ≠ p ∧ xs.length ≤ 100 ∧ ∀ D H' ys, H D = none → H' D = some (.lst ys) → ys.Perm xs → Purse H' p → But p H H' → Q (.ref D) H'
theorem ok__law_shuffled (L : TxtL K mg) (N : TxtN K mg) (F7 : TxtF7 K mg) : Cal P w K mg base 2 "_law_shuffled" spShuf := by
  refine F7.d_shuf.cal sc__law_shuffled (fun vs H Q E h => ?_) (fun f cdv A outer s H vs Q E hr h => ?_)
  · obtain ⟨p, a, xs, rfl, _⟩ := h
    rfl
  · obtain ⟨p, a, xs, rfl, hp, ha, nap, hz, k⟩ := h
    refine ⟨_, (pss_cons (ps_set (i := 2) sc__law_shuffled.nd rfl (.inl rfl) (pe_lst pa_nil))
      (pss_cons (ps_for PassesOwn.never rfl (pi_list (pv 1)) (pg_name (i := 3) sc__law_shuffled.nd rfl (.inl rfl))
        (pss_cons (ps_set (i := 4) sc__law_shuffled.nd rfl (.inl rfl) (pe_c (ok__law_draw L) hr (by decide) rfl (pa_cons (pv 0) (pa_cons (pe_op op_addU (pe_callB call_lenQ (by rfl) N.n_len (by decide +kernel) (pa_cons (pv 2) pa_nil)) pe_int) pa_nil))))
          (pss_one (ps_set (i := 2) sc__law_shuffled.nd rfl (.inl rfl) (pe_op op_addU (pe_op op_addU (pe_slice sl_list (pv 2) po_none (po_some (pv 4))) (pe_lst (pa_cons (pv 3) pa_nil))) (pe_slice sl_list (pv 2) (po_some (pv 4)) po_none))))))
      (pss_one (ps_ret (pv 2))))), ?_⟩
    have pn : ∀ {H' : Hp} {b : Addr}, H' b = none → Purse H' p → b ≠ p := fun hb hq z => by obtain ⟨_, _, _, e, _⟩ := hq; rw [← z, hb] at e; cases e
    k_extra "r_A7f"
    refine q_newL (by show 0 ≤ sizeLine; decide) fun F H1 nF S1 hF => ?_
    k_extra "r_A7f"
    refine ⟨a, rfl, ⟨_, SqL.of (S1 _ _ ha)⟩, q_forL (K := K) (a := a) (xs := xs) (fun i σ H' => ∃ F v3 v4 ys, σ = [some (.ref p), some (.ref a), some (.ref F), v3, v4] ∧ H F = none ∧ H' F = some (.lst ys) ∧ ys.Perm (xs.take i) ∧ Purse H' p ∧ But p H H')
      ⟨F, _, _, [], rfl, nF, hF, .nil, hp.mono S1, fun b o _ e => S1 _ _ e⟩ (fun i σ H' _ ⟨_, _, _, _, _, _, _, _, _, B⟩ => SqL.of (B _ _ nap ha)) ?_ ?_⟩
    · rintro i x σ H2 hx ⟨F2, v3, v4, ys, rfl, nF2, hF2, pm, pu, B⟩
      have len : ys.length ≤ i := by rw [pm.length_eq, List.length_take]; omega
      have lt : i < xs.length := (List.getElem?_eq_some_iff.mp hx).1
      k_extra "r_A7f"
      refine q_lenL (SqL.of hF2) ?_
      k_extra "r_A7f"
      refine ⟨p, _, rfl, pu, by omega, by omega, fun n H3 n0 n1 pu3 B3 => ?_⟩
      have nFp : F2 ≠ p := fun z => by rw [z] at nF2; obtain ⟨_, _, _, e, _⟩ := hp; rw [nF2] at e; cases e
      have hF3 := B3 _ _ nFp hF2
      obtain ⟨j, rfl⟩ : ∃ j : Nat, n = j := ⟨n.toNat, by omega⟩
      k_extra "r_A7f"
      refine q_slL (SqL.of hF3) fun L1 H4 nL1 S4 h4 => ?_
      rw [cutV_take] at h4
      k_extra "r_A7f"
      refine q_newL (by show 1 ≤ sizeLine; decide) fun L2 H5 n5 S5 h5 => ?_
      refine q_cat (S5 _ _ h4) h5 (sz (by rw [List.length_take]; simp; omega)) fun L3 H6 n6 S6 h6 => ?_
      k_extra "r_A7f"
      refine q_slL (SqL.of ((S4.trans (S5.trans S6)) _ _ hF3)) fun L4 H7 n7 S7 h7 => ?_
      rw [cutV_drop] at h7
      refine q_cat (S7 _ _ h6) h7 (sz (by rw [List.length_append, List.length_take, List.length_drop]; simp; omega)) fun L5 H8 n8 S8 h8 => ?_
      k_extra "r_A7f"
      have T := S4.trans (S5.trans (S6.trans (S7.trans S8)))
      refine ⟨L5, _, _, _, rfl, ?_, h8, ?_, pu3.mono T, fun b o nb e => T _ _ (B3 _ _ nb (B _ _ nb e))⟩
      · cases e : H L5 with
        | none => rfl
        | some o =>
          have n5p := pn n8 (pu3.mono (S4.trans (S5.trans (S6.trans S7))))
          have := (S4.trans (S5.trans (S6.trans S7))) _ _ (B3 _ _ n5p (B _ _ n5p e))
          rw [n8] at this
          cases this
      · rw [List.take_add_one, hx]
        have q1 : ((ys.take j ++ [x]) ++ ys.drop j).Perm (ys ++ [x]) := by
          rw [List.append_assoc, List.singleton_append]
          refine List.perm_middle.trans ?_
          rw [List.take_append_drop]
          exact (List.perm_append_singleton x ys).symm
        exact q1.trans (pm.append_right [x])
    · rintro σ H2 ⟨F2, v3, v4, ys, rfl, nF2, hF2, pm, pu, B⟩
      rw [List.take_of_length_le (Nat.le_refl _)] at pm
      k_extra "r_A7f"
      exact k F2 H2 ys nF2 hF2 pm pu B
/-- what the answers say of q -/
def sayA (zs : List AZ) (q : Str × Str) : V := ((zs.find? fun z => decide (z.2.2.1 = q)).map fun z => V.bl z.2.2.2).getD .non
theorem sh_pl {q : Str × Str} (h1 : Nm q.1) (h2 : Nm q.2) : SeqAt.shaped (dPl q) = true := by
  unfold SeqAt.shaped
  simp [dPl, PyData.canLay0, PyData.canLayAll0, PyData.depth, PyData.depthAll, h1.asc.ok, h2.asc.ok]
theorem dp_pl {K : PySem.W.Frag} {H : Hp} {a : Addr} {q : Str × Str} (h : H a = some (.tup [.str q.1, .str q.2])) : Dp K H (.ref a) (dPl q) := .tup (SqT.of h) (.cons (.str _) (.cons (.str _) .nil))
def spSaysA : Sp := fun vs H Q _ => ∃ t b a ws q, vs = [.ref t, .ref b] ∧ H t = some (.tup [.str "ask", .ref a]) ∧ H a = some (.lst (ws.map fun z : AZ => V.ref z.1)) ∧ AnsH H ws ∧ NmA (ws.map (·.2.2)) ∧ H b = some (.tup [.str q.1, .str q.2]) ∧ Nm q.1 ∧ Nm q.2 ∧
  ∀ H', Same H H' → Q (sayA ws q) H'
theorem ok__law_says (F7 : TxtF7 K mg) : Cal P w K mg base 2 "_law_says" spSaysA := by
  refine F7.d_says.cal sc__law_says (fun vs H Q E h => ?_) (fun f cdv A outer s H vs Q E hr h => ?_)
  · obtain ⟨t, b, a, ws, q, rfl, _⟩ := h
    rfl
  · obtain ⟨t, b, a, ws, q, rfl, ht, ha, an, nm, hb, n1, n2, k⟩ := h
    have hu := hr.units
    refine ⟨_, (pss_cons (ps_if (pt_cmpR op_eq (pe_ix ix_seq (pv 0) pe_int (fun _ _ => rfl)) pe_str (by rfl)) (pss_cons (ps_for PassesOwn.never rfl (pi_list (pe_ix ix_seq (pv 0) pe_int (fun _ _ => rfl))) (pg_tup (by rfl) (pgs_cons (pg_name (i := 2) sc__law_says.nd rfl (.inl rfl)) (pgs_cons (pg_name (i := 3) sc__law_says.nd rfl (.inl rfl)) pgs_nil)))
          (pss_one (ps_if (pt_cmpR (op_eqU hu) (pv 2) (pv 1) (by rfl)) (pss_one (ps_ret (pv 3))) pss_nil)))
        (pss_one (ps_ret pe_non))) pss_nil)
      pss_deadA), ?_⟩
    k_extra "r_A7f"
    refine q_ixT (SqT.of ht) (at_of (j := 0) rfl rfl) ?_
    k_extra "r_A7f"
    refine ⟨rfl, q_test (s_if1 (decide_eq_true rfl) ?_)⟩
    k_extra "r_A7f"
    refine q_ixT (SqT.of ht) (at_of (j := 1) rfl rfl) ?_
    refine ⟨a, rfl, ⟨_, SqL.of ha⟩, q_forL (K := K) (a := a) (xs := ws.map fun z => V.ref z.1) (fun i σ H' => ∃ v2 v3, σ = [some (.ref t), some (.ref b), v2, v3, none, none, none, none, none, none, none] ∧ Same H H' ∧ ∀ z ∈ ws.take i, z.2.2.1 ≠ q) ⟨_, _, rfl, Same.refl H, fun z hz => by simp at hz⟩ (fun i σ H' _ ⟨_, _, _, S, _⟩ => SqL.of (S _ _ ha)) ?_ ?_⟩
    · rintro i x σ H1 hx ⟨v2, v3, rfl, S1, no⟩
      rw [List.getElem?_map] at hx
      obtain ⟨z, hz, rfl⟩ := Option.map_eq_some_iff.mp hx
      have mz := List.mem_of_getElem? hz
      obtain ⟨p1, p2⟩ := (an.mono S1) z mz
      have nz := nm z.2.2 (List.mem_map.mpr ⟨z, mz, rfl⟩)
      refine q_gtup (SqT.of p1) rfl ?_
      k_extra "r_A7f"
      refine q_eqD (dp_pl p2) (dp_pl (S1 _ _ hb)) (sh_pl nz.1 nz.2) (sh_pl n1 n2) ?_
      rw [eqv_pl]
      by_cases e : z.2.2.1 = q
      · refine q_test (s_if1 (decide_eq_true e) ?_)
        k_extra "r_A7f"
        have : sayA ws q = .bl z.2.2.2 := by
          have lt := (List.getElem?_eq_some_iff.mp hz)
          have hw : ws = ws.take i ++ z :: ws.drop (i + 1) := by
            rw [← lt.2, ← List.drop_eq_getElem_cons lt.1, List.take_append_drop]
          unfold sayA
          rw [hw, List.find?_append, List.find?_eq_none.mpr (fun y hy => by simpa using no y hy), Option.none_or]
          simp [List.find?_cons, e]
        rw [← this]
        exact k H1 S1
      · refine q_test (s_if0 (decide_eq_false e) ?_)
        k_extra "r_A7f"
        refine ⟨_, _, rfl, S1, fun y hy => ?_⟩
        rw [List.take_add_one, hz, List.mem_append] at hy
        rcases hy with hy | hy
        · exact no y hy
        · simp at hy
          rw [hy]
          exact e
    · rintro σ H1 ⟨v2, v3, rfl, S1, no⟩
      k_extra "r_A7f"
      have : sayA ws q = .non := by
        rw [List.take_of_length_le (by simp)] at no
        unfold sayA
        rw [List.find?_eq_none.mpr (fun y hy => by simpa using no y hy)]
        rfl
      rw [← this]
      exact k H1 S1
end
end Bt
namespace Bt
open PySem PySem.Spec PyProof.Rows L2
/-! ### try: .. except A as e: .. except B as e: .. -/
section
variable {X : Cx} {x1 x2 n : Str} {c1 c2 : Value} {i : Nat} {body su1 su2 : List Stmt} {b1 b2 : Stmt} {p1 p2 q1 q2 pos : Pos} {tb : WX → TS} {ts1 ts2 : Addr → Value → Option Addr → TS} {Wout : WX}
abbrev SuiteOk (X : Cx) (b : Stmt) (su : List Stmt) (ts : Addr → Value → Option Addr → TS) : Prop :=
  ∀ (a : Addr) (oe : Obj) (cls : Value) (d : Option Addr) (pn : List (Addr × Obj)), Zc cls d oe → (∃ vs, oe.data = .fields vs) → PSs (X.suite a ((a, oe) :: pn)) (b :: su) (ts a cls d)
theorem ps_try_as2 (hs : X.stack = X.env :: X.outer) (hf : X.env.frame = some X.env.locals) (hN : X.N.Nodup) (hi : X.N[i]? = some n) (hl : X.env.kindOf n = some .local) (nm1 : Names X x1 c1) (nm2 : Names X x2 c2) (tk : Takes X Wout)
    (hb : ∀ (W : WX) (pn : List (Addr × Obj)) (xe : Value → Shared → Prop), Takes (X.tr pn xe) W → PassesOwn (model X.prog X.w) X.A X.env xe → PSs (X.tr pn xe) body (tb W)) (s1 : SuiteOk X b1 su1 ts1) (s2 : SuiteOk X b2 su2 ts2) :
    PS X (.Try body [.ExceptHandler (some (.Name x1 p1)) (some n) (b1 :: su1) q1, .ExceptHandler (some (.Name x2 p2)) (some n) (b2 :: su2) q2] [] [] pos) (fun D σ H => tb (wAs X.K c1 i ts1 (wAs X.K c2 i ts2 Wout D) D) D σ H) := by
  refine ⟨fun pins s σ H D I h => wpAny_Try_except ?_⟩
  have okX := I.ok
  have frames : X.A.frames = some (X.env :: X.outer) := by rw [okX.frames, hs]
  have loc : Loc X.env.scope n := .inl hl
  have run := (hb (wAs X.K c1 i ts1 (wAs X.K c2 i ts2 Wout D) D) (X.pn ++ pins) (fun ev t1 => wpAny (model X.prog X.w) X.A (noteFrame ev X.env) (fun _ t2 => wpAny (model X.prog X.w) X.A (setFlight ev none) (fun _ t3 =>
    wpAny (model X.prog X.w) X.A (handleBy ev X.env [.ExceptHandler (some (.Name x1 p1)) (some n) (b1 :: su1) q1, .ExceptHandler (some (.Name x2 p2)) (some n) (b2 :: su2) q2]) (SP X pins D) X.xe t3) X.xe t2) X.xe t1) (fun u sx xx => ?caught) PassesOwn.looking).run [] s σ H D (I.toTry _) h
  case caught =>
    obtain ⟨ea, Bx, sI, _, σe, He, cls, d, rfl, Je, notb, up0, skyE, fresh, osE, barE, wish⟩ := xx
    have J0 : Inv X pins σe He sI := Je.ofTry okX
    have sky0 : Sky Bx (X.env :: X.outer) ea (Zc cls d) X.env.locals sx.heap := by rw [← hs]; exact skyE
    show wpAny (model X.prog X.w) X.A (noteFrame (.ref ea) X.env) _ _ _
    refine Sky.land Zc.steady frames hf sky0 fun h3 flight up3 => ?_
    have J3 : Inv X pins σe He { sx with heap := h3 } := J0.landed notb flight.1 (up0.trans up3) osE barE
    obtain ⟨o3, v3, at3, z3, d3⟩ := flight.there
    have out : ea ∉ frs (X.env :: X.outer) := fun hm => by
      obtain ⟨_, o', e', nf⟩ := flight.2.2.1.mem hm
      rw [at3] at e'
      cases e'
      exact nf _ d3
    have nLoc : ea ≠ X.env.locals := fun z => out (List.mem_filterMap.mpr ⟨X.env, List.mem_cons_self, by rw [hf, z]⟩)
    have nFs : ea ∉ X.fs := fun hm => by
      obtain ⟨ev, he, q⟩ := List.mem_filterMap.mp hm
      exact out (List.mem_filterMap.mpr ⟨ev, List.mem_cons_of_mem _ he, q⟩)
    have S3 := J3.suite at3 d3 fresh nLoc nFs
    have tyE : PySem.W.Looks (model X.prog X.w) h3 (typeOf (.ref ea)) cls := fun A Q E s kk q => wpAny_typeOf_ref (kk _ _ at3) (by rw [z3.1]; exact q)
    have clause : ∀ {y : Str} {c : Value} {b : Stmt} {su : List Stmt} {np qp : Pos} {ts : Addr → Value → Option Addr → TS} {W2 : WX} {rest : List ExceptHandler}, Names X y c → SuiteOk X b su ts → wAs X.K c i ts W2 D cls d σe He →
        (W2 cls d σe He → wpAny (model X.prog X.w) X.A (handleBy (.ref ea) X.env rest) (SP X pins D) X.xe { sx with heap := h3 }) →
        wpAny (model X.prog X.w) X.A (handleBy (.ref ea) X.env (.ExceptHandler (some (.Name y np)) (some n) (b :: su) qp :: rest)) (SP X pins D) X.xe { sx with heap := h3 } := by
      intro y c b su np qp ts W2 rest nm sOk w next
      obtain ⟨ans, hm, yes, no⟩ := w
      refine wpAny_handleBy_cons (codeAny_handlers_test ?_) (by intro q; cases q)
      have matches_ := PySem.W.exm_one (M := model X.prog X.w) J3.kIn tyE hm
      have name : ∀ {Q E : Value → Shared → Prop}, Q c { sx with heap := h3 } → wpAny (model X.prog X.w) (X.A.mark (some (.ref ea))) (eval (.Name y np) X.env) Q E { sx with heap := h3 } := fun {Q E} q => by
        obtain ⟨g1, g2, g3 | ⟨g3, g4, g5⟩⟩ := nm
        · exact ld_glob (X := X.suite ea ((ea, o3) :: (X.pn ++ pins))) S3 g1 g3 q g2
        · exact ld_blt (X := X.suite ea ((ea, o3) :: (X.pn ++ pins))) S3 g1 g3 g4 q g5 g2
      refine name (matches_.here ?_)
      cases ans with
      | false => exact next (no rfl)
      | true =>
        refine codeAny_handlers_suite_as (HandSPX.lands_againZ flight fun h4 fl4 up4 => ?_)
        have J4 : Inv X pins σe He { sx with heap := h4 } := J0.landed notb fl4.1 ((up0.trans up3).trans up4) osE barE
        obtain ⟨o4, v4, at4, z4, d4⟩ := fl4.there
        have S4 := J4.suite at4 d4 fresh nLoc nFs
        refine store_ok (X := X.suite ea ((ea, o4) :: (X.pn ++ pins))) (v := .ref ea) S4 hN hi loc rfl (fun s5 S5 => ?_) (.inr hl)
        refine wpAny_mono ((sOk ea o4 cls d (X.pn ++ pins) z4 ⟨_, d4⟩).run [] s5 _ He _ S5 (yes rfl ea fresh)) (fun fl s6 sp => ?_) (fun _ _ z => False.elim z)
        have leave : ∀ {σ6 : L2.St} {H6 : Hp} {Q : Shared → Prop}, Inv (X.suite ea ((ea, o4) :: (X.pn ++ pins))) [] σ6 H6 s6 → (∀ s7, Inv X pins (σ6.set i none) H6 s7 → Q s7) →
            wpAny (model X.prog X.w) X.A (do bindName X.env n .none; unbindBehindTheSuite X.env n qp) (fun _ s7 => Q s7) X.xe s6 := fun S6 q => gone_ok (S6.unsuite okX) hN hi hl q
        cases fl with
        | next => obtain ⟨σ6, H6, S6, q6⟩ := sp; exact leave S6 fun _ J7 => ⟨_, _, J7, q6⟩
        | brk => obtain ⟨σ6, H6, S6, q6⟩ := sp; exact leave S6 fun _ J7 => ⟨_, _, J7, q6⟩
        | cont => obtain ⟨σ6, H6, S6, q6⟩ := sp; exact leave S6 fun _ J7 => ⟨_, _, J7, q6⟩
        | ret u => obtain ⟨v6, σ6, H6, S6, r6, q6⟩ := sp; exact leave S6 fun _ J7 => ⟨_, _, _, J7, r6, q6⟩
    refine clause nm1 s1 wish fun wish2 => clause nm2 s2 wish2 fun last => ?_
    refine wpAny_handleBy_nil ?_
    obtain ⟨_, _, _, oz, vz, Tz, _, _, atz, zz, dz, f1, _⟩ := id flight
    unfold PySem.passOn
    refine wpAny_bind (wpAny_field atz dz f1 ?_)
    rw [if_neg (show ¬ ((Value.ref Tz == Value.none) = true) from by simp)]
    have thrown : wpAny (model X.prog X.w) X.A (setFlight (.ref ea) X.env.frame) (fun _ t4 => wpAny (model X.prog X.w) X.A (throw (.ref ea) : Sem Flow) (SP X pins D) X.xe t4) X.xe { sx with heap := h3 } := by
      rw [hf]
      refine HandSPX.setFlight_upZ flight fun h4 in4 up4 => wpAny_throw (tk _ _ ?_)
      exact ⟨ea, Bx, sI, pins, σe, He, cls, d, rfl, J0, notb, (up0.trans up3).trans up4, .inr (.inr (by rw [hs]; exact in4)), fresh, osE, barE, last⟩
    first
      | exact wpAny_bind (wpAny_pure (wpAny_bind thrown))
      | exact wpAny_bind thrown
  refine wpAny_mono run (fun fl s1 sp => ?_) fun _ _ z => z
  cases fl with
  | next => obtain ⟨σ', H', J', q⟩ := sp; exact wpAny_execs_nil ⟨σ', H', J'.ofTry okX, q⟩
  | brk => obtain ⟨σ', H', J', q⟩ := sp; exact ⟨σ', H', J'.ofTry okX, q⟩
  | cont => obtain ⟨σ', H', J', q⟩ := sp; exact ⟨σ', H', J'.ofTry okX, q⟩
  | ret u => obtain ⟨v, σ', H', J', r, q⟩ := sp; exact ⟨v, σ', H', J'.ofTry okX, r, q⟩
end
end Bt
namespace Bt
open PySem PySem.Spec PyProof.Rows L2 LamX NdefX
open PySem.W (dataLt dataLe alike AllAlike Sortable)
theorem words77_ : True := by
  k_with "s_A7g" => first
    | ((with_reducible refine' s_var ?hv ?_); (case hv => exact rfl))
    | with_reducible first
      | refine' s_c ?_ | refine' s_op ?_ | refine' s_asg ?_ | refine' s_gname ?_ | refine' s_seq ?_ | refine' s_next ?_ | refine' s_ret ?_ | refine' s_ifS ?_ | refine' s_drop ?_ | refine' s_retN ?_ | refine' s_test ?_ | refine' s_B ?_ | refine' q_test ?_ | refine' s_int ?_ | refine' s_cons ?_ | refine' s_nil ?_ | refine' s_call ?_ | refine' s_CB ?_ | refine' s_andT ?_ | refine' s_orT ?_ | refine' s_notT ?_ | refine' s_andV ?_ | refine' s_orV ?_ | refine' s_notV ?_ | refine' s_ifV ?_ | refine' s_chain ?_ | refine' s_sl ?_ | refine' s_noPart ?_ | refine' s_part ?_ | refine' s_gsub ?_ | refine' s_BM ?_ | refine' s_tup ?_ | refine' s_lst ?_ | refine' q_add ?_ | refine' q_sub ?_ | refine' q_lt ?_ | refine' q_le ?_ | refine' q_gt ?_ | refine' q_ge ?_ | refine' s_ifT ?_ | refine' s_ifF ?_ | refine' s_yes ?_ | refine' s_iStr ?_ | refine' s_M0 ?_ | refine' s_for ?_ | refine' s_rng1 ?_ | refine' s_par ?_ | refine' s_gcons ?_ | refine' s_gnil ?_ | refine' s_iList ?_ | refine' s_iEnum ?_ | refine' s_raise1 ?_
      | (refine' q_mod ?hm ?_; (case hm => first | omega | decide))
    | dsimp only
  k_with "r_A7g" => repeat (k_extra "s_A7g")
  trivial
/-! ### values equal to themselves; says in a try -/
theorem room66 {k : Nat} {A : Around} (r : Room k A) : A.units + 1 + 65 < cLine := by have := r.un; omega
def SelfV (K : PySem.W.Frag) (H : Hp) (x : V) : Prop := EqV K H 0 x x true
theorem SelfV.ref {K : PySem.W.Frag} {H : Hp} (a : Addr) : SelfV K H (.ref a) := .same a
theorem SelfV.str {K : PySem.W.Frag} {H : Hp} {z : Str} (h : PyData.strOk z = true) : SelfV K H (.str z) := by
  have sh : SeqAt.shaped (.str z) = true := by unfold SeqAt.shaped; simp [PyData.canLay0, PyData.depth, h]
  have := EqV.data (K := K) (H := H) (n := 0) (.str z) (.str z) sh sh
  rw [SeqAt.eqv_refl _ (SeqAt.canLay_of_shaped sh)] at this
  exact this
theorem SelfV.non {K : PySem.W.Frag} {H : Hp} : SelfV K H .non := by
  have sh : SeqAt.shaped .none = true := by decide
  have := EqV.data (K := K) (H := H) (n := 0) .non .non sh sh
  rw [SeqAt.eqv_refl _ (SeqAt.canLay_of_shaped sh)] at this
  exact this
theorem SelfV.bl {K : PySem.W.Frag} {H : Hp} {b : Bool} : SelfV K H (.bl b) := by
  have sh : SeqAt.shaped (.bool b) = true := by cases b <;> decide
  have := EqV.data (K := K) (H := H) (n := 0) (.bl b) (.bl b) sh sh
  rw [SeqAt.eqv_refl _ (SeqAt.canLay_of_shaped sh)] at this
  exact this
theorem SelfV.int {K : PySem.W.Frag} {H : Hp} {i : Int} : SelfV K H (.int i) := by
  have sh : SeqAt.shaped (.int i) = true := by unfold SeqAt.shaped; simp [PyData.canLay0, PyData.depth]
  have := EqV.data (K := K) (H := H) (n := 0) (.int i) (.int i) sh sh
  rw [SeqAt.eqv_refl _ (SeqAt.canLay_of_shaped sh)] at this
  exact this
mutual
theorem EqV.up {K : PySem.W.Frag} {H H' : Hp} (S : Same H H') : ∀ (n : Nat) (x y : V) (b : Bool), EqV K H n x y b → ∀ m, n ≤ m → EqV K H' m x y b
  | _, _, _, _, .same a, _, _ => .same a
  | _, _, _, _, .data h1 h2 h3 h4, _, _ => .data (Dp.mono S h1) (Dp.mono S h2) h3 h4
  | _, _, _, _, .lst ne h1 h2 h3, m, hm => by
    obtain ⟨m', rfl⟩ : ∃ m', m = m' + 1 := ⟨m - 1, by omega⟩
    exact .lst ne (SqL_monoN (ext_same S) h1) (SqL_monoN (ext_same S) h2) (EqVs.up S _ _ _ _ h3 m' (by omega))
theorem EqVs.up {K : PySem.W.Frag} {H H' : Hp} (S : Same H H') : ∀ (n : Nat) (xs ys : List V) (bs : List Bool), EqVs K H n xs ys bs → ∀ m, n ≤ m → EqVs K H' m xs ys bs
  | _, _, _, _, .nil, _, _ => .nil
  | _, _, _, _, .cons h hs, m, hm => .cons (EqV.up S _ _ _ _ h m hm) (EqVs.up S _ _ _ _ hs m hm)
end
theorem SelfV.mono {K : PySem.W.Frag} {H H' : Hp} {x : V} (S : Same H H') (h : SelfV K H x) : SelfV K H' x := EqV.up S _ _ _ _ h 0 (Nat.le_refl _)
theorem dp_any {K : PySem.W.Frag} {H H' : Hp} {x : V} {d : PyData} (n : ∀ a, x ≠ .ref a) (h : Dp K H x d) : Dp K H' x d := by
  cases h with
  | non => exact .non
  | bl b => exact .bl b
  | int i => exact .int i
  | str z => exact .str z
  | lst h _ => exact absurd rfl (n _)
  | tup h _ => exact absurd rfl (n _)
theorem SelfV.any {K : PySem.W.Frag} {H H' : Hp} {x : V} (h : SelfV K H x) : SelfV K H' x := by
  have key : ∀ (n : Nat) (y z : V) (b : Bool), EqV K H n y z b → n = 0 → y = x → z = x → b = true → SelfV K H' x := fun n y z b h e0 e1 e2 e3 => by
    by_cases r : ∃ a, x = .ref a
    · obtain ⟨a, rfl⟩ := r
      exact .same a
    · cases h with
      | same a => exact absurd ⟨a, e1.symm⟩ r
      | data hd he sd se =>
        subst e1
        have := EqV.data (K := K) (H := H') (n := 0) (dp_any (fun a e => r ⟨a, e⟩) hd) (dp_any (fun a e => r ⟨a, e2.symm ▸ e⟩) he) sd se
        rw [e3] at this
        subst e2
        exact this
      | lst _ _ _ _ => exact absurd e0 (by omega)
  exact key 0 x x true h rfl rfl rfl rfl
theorem selfs {K : PySem.W.Frag} {H : Hp} {n : Nat} : ∀ {xs : List V}, (∀ x ∈ xs, SelfV K H x) → EqVs K H n xs xs (xs.map fun _ => true)
  | [], _ => .nil
  | x :: xs, h => .cons (EqV.up (Same.refl H) _ _ _ _ (h x List.mem_cons_self) n (Nat.zero_le n)) (selfs fun y hy => h y (List.mem_cons_of_mem _ hy))
theorem all_trues (xs : List V) : (xs.map fun _ => true).all id = true := by
  rw [List.all_map, List.all_eq_true]
  exact fun _ _ => rfl
theorem NoTup.keep {H H' : Hp} {u : V} (S : Same H H') (h : NoTup H u) : NoTup H' u := h.mono S
section
variable {X : Cx} {k : Nat} {CA CL : Addr} {o e : Expr} {to te : TE} {pos apos : Pos}
theorem pe_saysS {W : WX} (T : Txt X.K X.mg) (N : TxtN X.K X.mg) (I : TxtI X.K X.mg) (AC : AskC X.K X.mg CA) (AP : AskP X.K CA) (XP : ExcF X.K X.mg "InvalidPlace" "value" CL) (hr : Room k X.A) (hk : 4 ≤ k) (tk : Takes X W) (ho : PE X o to) (ha : PE X e te)
    {pl : Sem Bool} (ht : eval (.Call (.Attribute o "says" apos) [e] [] pos) X.env = (do
      let ov ← eval o X.env
      standAt apos.atName
      let (f, first) ← holding [ov] (getMethod ov "says" pl)
      callWith pos f first (backTo pos (starEach [e] X.env)) (backToKw pos (keywordEach [] X.env))) := by rfl)
    (he : starEach [e] X.env = (false, eval e X.env) :: starEach [] X.env := by rfl) (hpl : (backTo pos (starEach [] X.env)).any (·.1) = false := by rfl) :
    PE X (.Call (.Attribute o "says" apos) [e] [] pos) (tMethE CA "says" (spSays X.K CA CL) (fun σ => WE W σ) to (tCons te tNil)) := by
  obtain ⟨f, fd, m, F, b⟩ := AP.say
  exact pe_methE (pl := pl) ho AC.cl m (ok_ask_says T N I AC XP F) (hr.mono hk) b (fun σ => passAt tk σ) (pa_cons ha pa_nil he) ht he hpl
theorem pe_says (T : Txt X.K X.mg) (N : TxtN X.K X.mg) (I : TxtI X.K X.mg) (AC : AskC X.K X.mg CA) (AP : AskP X.K CA) (XP : ExcF X.K X.mg "InvalidPlace" "value" CL) (hr : Room k X.A) (hk : 4 ≤ k) (ho : PE X o to) (ha : PE X e te)
    {pl : Sem Bool} (ht : eval (.Call (.Attribute o "says" apos) [e] [] pos) X.env = (do
      let ov ← eval o X.env
      standAt apos.atName
      let (f, first) ← holding [ov] (getMethod ov "says" pl)
      callWith pos f first (backTo pos (starEach [e] X.env)) (backToKw pos (keywordEach [] X.env))) := by rfl)
    (he : starEach [e] X.env = (false, eval e X.env) :: starEach [] X.env := by rfl) (hpl : (backTo pos (starEach [] X.env)).any (·.1) = false := by rfl) :
    PE X (.Call (.Attribute o "says" apos) [e] [] pos) (tMethE CA "says" (spSays X.K CA CL) (fun _ => E0) to (tCons te tNil)) := by
  obtain ⟨f, fd, m, F, b⟩ := AP.say
  exact pe_methE (pl := pl) ho AC.cl m (ok_ask_says T N I AC XP F) (hr.mono hk) b (fun σ pins H s e s' I q => passL pins σ H s e s' I q) (pa_cons ha pa_nil he) ht he hpl
end
theorem stF_no {d : Addr} : (stF d).lookup (Str.ofString "says") = none := by
  unfold stF
  rw [lookup_putF, if_neg (by decide +kernel)]
  rfl
theorem stF_nos {d : Addr} : (stF d).lookup (Str.ofString "standing") = none := by
  unfold stF
  rw [lookup_putF, if_neg (by decide +kernel)]
  rfl
structure TxtG7 (K : PySem.W.Frag) (mg : Str → Option Value) : Prop where
  d_raises : Df K mg "_law_raises" s__law_raises ["_law_look", "_law_value"]
section
variable {P : Program} {w : World} {K : PySem.W.Frag} {mg : Str → Option Value} {base : Heap} {CA CL : Addr}
def spLRaise (K : PySem.W.Frag) (CA : Addr) : Sp := fun vs H Q _ => ∃ x v zs, vs = [.ref x, v] ∧ AskAt CA H x zs ∧ PlK K H v false ∧ SelfV K H v ∧ ∀ H', Same H H' → Q (.bl true) H'
theorem ok__law_raises (T : Txt K mg) (N : TxtN K mg) (I : TxtI K mg) (AC : AskC K mg CA) (AP : AskP K CA) (XP : ExcF K mg "InvalidPlace" "value" CL) (G7 : TxtG7 K mg) : Cal P w K mg base 6 "_law_raises" (spLRaise K CA) := by
  refine G7.d_raises.cal sc__law_raises (fun vs H Q E h => ?_) (fun fn cdv A outer s H vs Q E hr h => ?_)
  · obtain ⟨x, v, zs, rfl, _⟩ := h
    rfl
  · obtain ⟨x, v, zs, rfl, hx, hv, sv, k⟩ := h
    have hu := hr.units
    refine ⟨_, (pss_cons (ps_set (i := 2) sc__law_raises.nd rfl (.inl rfl) (pe_lst (pa_cons pe_str pa_nil)))
      (pss_cons (ps_try_as (i := 3) (tb := fun W => tDrop (tMethE CA "says" (spSays K CA CL) (fun σ => WE W σ) (tVar 0) (tCons (tVar 1) tNil))) (ts := fun a cls d => tAsg (tLst (tCons (tXf a cls d CL "value" (tVar 3)) tNil)) (gName 2)) (Wout := fun _ _ _ _ => False) rfl rfl sc__law_raises.nd rfl rfl ⟨rfl, by decide, Or.inl XP.g⟩ L2.takes0
        (fun W pn xe tk _ => pss_one (ps_expr (by exact (pe_saysS T N I AC AP XP hr (by decide) tk (pv 0) (pv 1)))))
        (fun a oe cls d pn hz hf => pss_one (ps_set (i := 2) sc__law_raises.nd rfl (Or.inl rfl) (by exact pe_lst (pa_cons (pe_xf XP.xf XP.no hz hf (pv 3)) pa_nil)))))
      (pss_one (ps_ret (pe_cmpR (op_eqI (n := 1) (room66 hr)) (pv 2) (pe_lst (pa_cons (pv 1) pa_nil)) (by rfl)))))), ?_⟩
    k_extra "r_A7g"
    refine q_newL (by show 1 ≤ sizeLine; decide) fun l0 H1 n1 S1 h1 => ?_
    k_extra "r_A7g"
    obtain ⟨dx, d, g1, g2⟩ := hx.mono S1
    refine ⟨.ref x, rfl, x, dx, _, rfl, g1, stF_no, ?_⟩
    k_extra "r_A7g"
    refine ⟨x, v, zs, false, rfl, ⟨dx, d, g1, g2⟩, hv.mono S1, fun _ H2 d2 S2 nd hd => ⟨true, XP.te, fun _ a0 ha0 => ?_, fun q => Bool.noConfusion q⟩, fun z => nomatch z⟩
    k_extra "r_A7g"
    refine ⟨_, rfl, rfl, rfl, d2, _, v, rfl, hd, (by simp [List.lookup]), ?_⟩
    k_extra "r_A7g"
    refine q_newL (by show 1 ≤ sizeLine; decide) fun l1 H3 n3 S3 h3 => ?_
    k_extra "r_A7g"
    refine q_newL (by show 1 ≤ sizeLine; decide) fun l2 H4 n4 S4 h4 => ?_
    have T4 := S1.trans (S2.trans (S3.trans S4))
    refine ⟨l1, l2, _, _, _, rfl, rfl, .inl ⟨SqL.of (S4 _ _ h3), SqL.of h4⟩, selfs (xs := [v]) (fun y hy => by rw [List.mem_singleton.mp hy]; exact sv.mono T4), ?_⟩
    exact k _ T4
end
end Bt
namespace Bt
open PySem PySem.Spec PyProof.Rows L2
theorem words3_ : True := by
  k_with "s_E7" => first
    | ((with_reducible refine' s_var ?hv ?_); (case hv => exact rfl))
    | with_reducible first
      | refine' s_c ?_ | refine' s_op ?_ | refine' s_asg ?_ | refine' s_gname ?_ | refine' s_seq ?_ | refine' s_next ?_ | refine' s_ret ?_ | refine' s_ifS ?_ | refine' s_drop ?_ | refine' s_retN ?_
      | refine' s_test ?_ | refine' s_B ?_ | refine' q_test ?_ | refine' s_int ?_ | refine' s_cons ?_ | refine' s_nil ?_ | refine' s_call ?_ | refine' s_CB ?_ | refine' s_andT ?_ | refine' s_orT ?_ | refine' s_notT ?_
      | refine' s_andV ?_ | refine' s_orV ?_ | refine' s_notV ?_ | refine' s_ifV ?_ | refine' s_chain ?_ | refine' s_sl ?_ | refine' s_noPart ?_ | refine' s_part ?_ | refine' s_gsub ?_ | refine' s_BM ?_ | refine' s_tup ?_ | refine' s_lst ?_
      | refine' q_add ?_ | refine' q_sub ?_ | refine' q_lt ?_ | refine' q_le ?_ | refine' q_gt ?_ | refine' q_ge ?_ | refine' s_ifT ?_ | refine' s_ifF ?_
      | (refine' q_mod ?hm ?_; (case hm => first | omega | decide)) | (refine' q_fdiv ?hm ?hn ?_; (case hm => first | omega | decide); (case hn => first | omega | decide))
      | (refine' q_mulR ?hm ?_; (case hm => first | omega | decide)) | (refine' q_mulL ?hm ?_; (case hm => first | omega | decide))
    | dsimp only
  k_with "r_E7" => repeat (k_extra "s_E7")
  trivial
/-! ### Form(..) -/
section
variable {X : Cx} {C CI : Addr} {k : Nat} {p pos : Pos} {e e2 : Expr} {ta tb : TE}
theorem pe_form2S {W : WX} (T : Txt X.K X.mg) (FC : FormC X.K X.mg C) (XI : ExcF X.K X.mg "InvalidForm" "value" CI) (hr : Room k X.A) (hk : 5 ≤ k) (tk : Takes X W) (h1 : PE X e ta) (h2 : PE X e2 tb) (hg : Gl X "Form" := by rfl)
    (s1 : starEach (e :: [e2]) X.env = (false, eval e X.env) :: starEach [e2] X.env := by rfl) (s2 : starEach (e2 :: []) X.env = (false, eval e2 X.env) :: starEach [] X.env := by rfl) (s3 : (backTo pos (starEach [e2] X.env)).any (·.1) = false := by rfl) :
    PE X (.Call (.Name "Form" p) [e, e2] [] pos) (tMakeS C (spFormInit X.K C CI) [] (fun σ => WE W σ) (tCons ta (tCons tb tNil))) := by
  obtain ⟨f, fd, d1, d2, i1, i2, F, b, _, _, _, _⟩ := FC.init
  exact pe_makeS ⟨FC.makes, i1, i2, FC.kp⟩ (ok_form_init T FC XI F) (hr.mono hk) hg FC.g b .nil (fun σ => passAt tk σ) (pa_cons h1 (pa_cons h2 pa_nil s2) s1) (by decide) s1 s3
theorem pe_form2 (T : Txt X.K X.mg) (FC : FormC X.K X.mg C) (XI : ExcF X.K X.mg "InvalidForm" "value" CI) (hr : Room k X.A) (hk : 5 ≤ k) (h1 : PE X e ta) (h2 : PE X e2 tb) (hg : Gl X "Form" := by rfl)
    (s1 : starEach (e :: [e2]) X.env = (false, eval e X.env) :: starEach [e2] X.env := by rfl) (s2 : starEach (e2 :: []) X.env = (false, eval e2 X.env) :: starEach [] X.env := by rfl) (s3 : (backTo pos (starEach [e2] X.env)).any (·.1) = false := by rfl) :
    PE X (.Call (.Name "Form" p) [e, e2] [] pos) (tMake C (spFormInit X.K C CI) [] E0 (tCons ta (tCons tb tNil))) := by
  obtain ⟨f, fd, d1, d2, i1, i2, F, b, _, _, _, _⟩ := FC.init
  exact pe_make ⟨FC.makes, i1, i2, FC.kp⟩ (ok_form_init T FC XI F) (hr.mono hk) hg FC.g b .nil passL (pa_cons h1 (pa_cons h2 pa_nil s2) s1) (by decide) s1 s3
theorem pe_form1 (T : Txt X.K X.mg) (FC : FormC X.K X.mg C) (XI : ExcF X.K X.mg "InvalidForm" "value" CI) (hr : Room k X.A) (hk : 5 ≤ k) (h1 : PE X e ta) (hg : Gl X "Form" := by rfl)
    (s1 : starEach (e :: []) X.env = (false, eval e X.env) :: starEach [] X.env := by rfl) (s3 : (backTo pos (starEach [] X.env)).any (·.1) = false := by rfl) :
    PE X (.Call (.Name "Form" p) [e] [] pos) (tMake C (spFormInit X.K C CI) [.int 1] E0 (tCons ta tNil)) := by
  obtain ⟨f, fd, d1, d2, i1, i2, F, _, v1, b1, _, _⟩ := FC.init
  exact pe_make ⟨FC.makes, i1, i2, FC.kp⟩ (ok_form_init T FC XI F) (hr.mono hk) hg FC.g b1 v1 passL (pa_cons h1 pa_nil s1) (by decide) s1 s3
theorem pe_form0 (T : Txt X.K X.mg) (FC : FormC X.K X.mg C) (XI : ExcF X.K X.mg "InvalidForm" "value" CI) (hr : Room k X.A) (hk : 5 ≤ k) (hg : Gl X "Form" := by rfl) :
    PE X (.Call (.Name "Form" p) [] [] pos) (tMake C (spFormInit X.K C CI) [.str alphaS, .int 1] E0 tNil) := by
  obtain ⟨f, fd, d1, d2, i1, i2, F, _, _, _, v2, b2⟩ := FC.init
  exact pe_make0 ⟨FC.makes, i1, i2, FC.kp⟩ (ok_form_init T FC XI F) (hr.mono hk) hg FC.g b2 v2 passL
end
theorem s_make {C : Addr} {sp : Sp} {dvs : List V} {E : XK} {t : TA} {σ : L2.St} {H : Hp} {Q : VK} (h : t σ H fun vs H1 => ∀ x dx, H1 x = none → H1 dx = none → dx ≠ x → sp (.ref x :: (vs ++ dvs)) (upd (upd H1 dx (.own x)) x (.ins C dx [])) (fun v H2 => v = .non ∧ Q (.ref x) H2) E) : tMake C sp dvs E t σ H Q := h
theorem s_makeS {C : Addr} {sp : Sp} {dvs : List V} {E : L2.St → XK} {t : TA} {σ : L2.St} {H : Hp} {Q : VK} (h : t σ H fun vs H1 => ∀ x dx, H1 x = none → H1 dx = none → dx ≠ x → sp (.ref x :: (vs ++ dvs)) (upd (upd H1 dx (.own x)) x (.ins C dx [])) (fun v H2 => v = .non ∧ Q (.ref x) H2) (E σ)) : tMakeS C sp dvs E t σ H Q := h
theorem same_made {H : Hp} {x dx C : Addr} (nx : H x = none) (nd : H dx = none) : Same H (upd (upd H dx (.own x)) x (.ins C dx [])) := fun b o e => by
  rw [upd_ne (ne_of_none e nx), upd_ne (ne_of_none e nd)]; exact e
theorem q_form {K : PySem.W.Frag} {C CI : Addr} {H : Hp} {Q : Addr → Hp → Prop} {E : XK} {z : Str} {c : Int} (lz : Letters z) (c0 : 1 ≤ c) (c1 : c ≤ 1000) (q : ∀ a H', H a = none → Same H H' → FormAt C H' a z c → Q a H') :
    ∀ x dx, H x = none → H dx = none → dx ≠ x → spFormInit K C CI [.ref x, .str z, .int c] (upd (upd H dx (.own x)) x (.ins C dx [])) (fun v H2 => v = .non ∧ Q x H2) E := fun x dx nx nd ne =>
  ⟨x, dx, .str z, .int c, _, _, rfl, upd_same, Pl.str, Pl.int, fun z' e => by cases e; exact ⟨by rw [lz.len]; decide, lz.asc⟩, fun _ H' hx b => ⟨rfl, q x H' nx (fun a o e => b a o (ne_of_none e nx) (same_made nx nd _ _ e)) ⟨dx, hx⟩⟩,
    fun nv => absurd ⟨⟨z, rfl, lz⟩, c, rfl, c0, c1⟩ nv⟩
theorem q_formX {K : PySem.W.Frag} {C CI : Addr} {H : Hp} {Q : Addr → Hp → Prop} {E : XK} {l c : V} {T1 T2 : String} (hl : Pl K H l T1) (hc : Pl K H c T2) (hz : ∀ z, l = .str z → z.length < 64 ∧ Asc z) (nv : ¬ Valid l c)
    (q : ∀ H' t d, Same H H' → H t = none → H d = none → H' d = some (.xd [("value", .ref t)]) → H' t = some (.tup [l, c]) → E (.ref CI) (some d) H') :
    ∀ x dx, H x = none → H dx = none → dx ≠ x → spFormInit K C CI [.ref x, l, c] (upd (upd H dx (.own x)) x (.ins C dx [])) (fun v H2 => v = .non ∧ Q x H2) E := fun x dx nx nd ne =>
  ⟨x, dx, l, c, T1, T2, rfl, upd_same, hl.mono (same_made nx nd), hc.mono (same_made nx nd), hz, fun v => absurd v nv, fun _ H' t d S nt ndd hd ht => q H' t d (fun b o e => S _ _ (same_made nx nd _ _ e)) ((same_made nx nd).free nt) ((same_made nx nd).free ndd) hd ht⟩
end Bt
namespace Bt
open PySem PySem.Spec PyProof.Rows L2 LamX NdefX
open PySem.W (dataLt dataLe alike AllAlike Sortable)
theorem words78_ : True := by
  k_with "s_A7h" => first
    | ((with_reducible refine' s_var ?hv ?_); (case hv => exact rfl))
    | with_reducible first
      | refine' s_c ?_ | refine' s_op ?_ | refine' s_asg ?_ | refine' s_gname ?_ | refine' s_seq ?_ | refine' s_next ?_ | refine' s_ret ?_ | refine' s_ifS ?_ | refine' s_drop ?_ | refine' s_retN ?_ | refine' s_test ?_ | refine' s_B ?_ | refine' q_test ?_ | refine' s_int ?_ | refine' s_cons ?_ | refine' s_nil ?_ | refine' s_call ?_ | refine' s_CB ?_ | refine' s_andT ?_ | refine' s_orT ?_ | refine' s_notT ?_ | refine' s_andV ?_ | refine' s_orV ?_ | refine' s_notV ?_ | refine' s_ifV ?_ | refine' s_chain ?_ | refine' s_sl ?_ | refine' s_noPart ?_ | refine' s_part ?_ | refine' s_gsub ?_ | refine' s_BM ?_ | refine' s_tup ?_ | refine' s_lst ?_ | refine' q_add ?_ | refine' q_sub ?_ | refine' q_lt ?_ | refine' q_le ?_ | refine' q_gt ?_ | refine' q_ge ?_ | refine' s_ifT ?_ | refine' s_ifF ?_ | refine' s_yes ?_ | refine' s_iStr ?_ | refine' s_M0 ?_ | refine' s_for ?_ | refine' s_rng1 ?_ | refine' s_par ?_ | refine' s_gcons ?_ | refine' s_gnil ?_ | refine' s_iList ?_ | refine' s_iEnum ?_ | refine' s_raise1 ?_
      | (refine' q_mod ?hm ?_; (case hm => first | omega | decide))
    | dsimp only
  k_with "r_A7h" => repeat (k_extra "s_A7h")
  trivial
/-! ### Ask(..) as an expression, _law_refused -/
theorem nm_arg {K : PySem.W.Frag} {H : Hp} {z : Str} (h : Nm z) : NameArg K H (.str z) := ⟨"str", Pl.str, fun y e => by cases e; have := h.2.1; omega⟩
theorem plk_of {K : PySem.W.Frag} {H : Hp} {a : Addr} {q : Str × Str} (h : H a = some (.tup [.str q.1, .str q.2])) (n1 : Nm q.1) (n2 : Nm q.2) : PlK K H (.ref a) true :=
  .tup rfl (Pl.tup h) h (fun y hy => by
    rcases List.mem_cons.mp hy with rfl | hy
    · exact nm_arg n1
    · rw [List.mem_singleton.mp hy]
      exact nm_arg n2) ⟨fun _ => ⟨a, _, _, rfl, h, ⟨_, rfl, n1⟩, ⟨_, rfl, n2⟩⟩, fun _ => rfl⟩
theorem AnsH.ank {K : PySem.W.Frag} {H : Hp} {zs : List AZ} (h : AnsH H zs) (nm : NmA (zs.map (·.2.2))) {z : AZ} (m : z ∈ zs) : AnK K H (.ref z.1) true := by
  obtain ⟨p1, p2⟩ := h z m
  have n := nm z.2.2 (List.mem_map.mpr ⟨z, m, rfl⟩)
  exact .two rfl (Pl.tup p1) p1 (plk_of p2 n.1 n.2) Pl.bl
/-- values that Ask refuses -/
inductive RefV (K : PySem.W.Frag) (H : Hp) (v : V) : Prop where
  | other {T : String} : Pl K H v T → T ≠ "list" → SelfV K H v → RefV K H v
  | bad {q : Addr} {xs : List V} {r : V → Bool} : v = .ref q → H q = some (.lst xs) → xs.length < 60 → (∀ y ∈ xs, AnK K H y (r y)) → (∀ y ∈ xs, SelfV K H y) → xs.all r = false → RefV K H v
  | dup {q : Addr} {zs : List AZ} : v = .ref q → H q = some (.lst (zs.map fun z => V.ref z.1)) → zs.length < 60 → AnsH H zs → NmA (zs.map (·.2.2)) → ¬ (keysA zs).Nodup → RefV K H v
theorem RefV.mono {K : PySem.W.Frag} {H H' : Hp} {v : V} (S : Same H H') (h : RefV K H v) : RefV K H' v := by
  cases h with
  | other h n s => exact .other (h.mono S) n (s.mono S)
  | bad e h z a s r => exact .bad e (S _ _ h) z (fun y m => (a y m).mono S) (fun y m => (s y m).mono S) r
  | dup e h z a n d => exact .dup e (S _ _ h) z (a.mono S) n d
theorem RefV.arg {K : PySem.W.Frag} {H : Hp} {v : V} {bad : Prop} {good : List AZ → Prop} (h : RefV K H v) (b : bad) : ListArg K H v bad good := by
  cases h with
  | other h n s => exact ⟨⟨_, h, fun _ => b, fun e => absurd e n⟩⟩
  | bad e h z a s r =>
    subst e
    exact ⟨⟨_, Pl.lst h, fun n => absurd rfl n, fun _ => ⟨_, _, rfl, h, by omega, _, a, fun _ => b, fun t => by rw [r] at t; cases t⟩⟩⟩
  | dup e h z a n d =>
    subst e
    refine ⟨⟨_, Pl.lst h, fun n => absurd rfl n, fun _ => ⟨_, _, rfl, h, by rw [List.length_map]; omega, fun _ => true, fun y hy => ?_, fun t => ?_, fun _ => ⟨_, rfl, a, fun z m => n z.2.2 (List.mem_map.mpr ⟨z, m, rfl⟩), fun _ => b, fun g => absurd g d⟩⟩⟩⟩
    · obtain ⟨z, mz, rfl⟩ := List.mem_map.mp hy
      exact a.ank n mz
    · simp at t
section
variable {X : Cx} {k : Nat} {CA CL : Addr} {e1 : Expr} {t1 : TE} {p pos : Pos}
theorem pe_askS {W : WX} (T : Txt X.K X.mg) (N : TxtN X.K X.mg) (TS : TxtS X.K X.mg) (I : TxtI X.K X.mg) (A7 : TxtA7 X.K X.mg) (AC : AskC X.K X.mg CA) (XL : ExcF X.K X.mg "InvalidLook" "value" CL) (hr : Room k X.A) (hk : 6 ≤ k) (tk : Takes X W) (h1 : PE X e1 t1) (hg : Gl X "Ask" := by rfl)
    (s1 : starEach (e1 :: []) X.env = (false, eval e1 X.env) :: starEach [] X.env := by rfl) (s6 : (backTo pos (starEach [] X.env)).any (·.1) = false := by rfl) :
    PE X (.Call (.Name "Ask" p) [e1] [] pos) (tMakeS CA (spAskInit X.K CA CL) [] (fun σ => WE W σ) (tCons t1 tNil)) := by
  obtain ⟨f, fd, i1, i2, F, b⟩ := AC.init
  exact pe_makeS ⟨AC.makes, i1, i2, AC.kp⟩ (ok_ask_init T N TS I A7 AC XL F) (hr.mono hk) hg AC.g b .nil (fun σ => passAt tk σ) (pa_cons h1 pa_nil s1) (by decide) s1 s6
theorem pe_ask (T : Txt X.K X.mg) (N : TxtN X.K X.mg) (TS : TxtS X.K X.mg) (I : TxtI X.K X.mg) (A7 : TxtA7 X.K X.mg) (AC : AskC X.K X.mg CA) (XL : ExcF X.K X.mg "InvalidLook" "value" CL) (hr : Room k X.A) (hk : 6 ≤ k) (h1 : PE X e1 t1) (hg : Gl X "Ask" := by rfl)
    (s1 : starEach (e1 :: []) X.env = (false, eval e1 X.env) :: starEach [] X.env := by rfl) (s6 : (backTo pos (starEach [] X.env)).any (·.1) = false := by rfl) :
    PE X (.Call (.Name "Ask" p) [e1] [] pos) (tMake CA (spAskInit X.K CA CL) [] E0 (tCons t1 tNil)) := by
  obtain ⟨f, fd, i1, i2, F, b⟩ := AC.init
  exact pe_make ⟨AC.makes, i1, i2, AC.kp⟩ (ok_ask_init T N TS I A7 AC XL F) (hr.mono hk) hg AC.g b .nil passL (pa_cons h1 pa_nil s1) (by decide) s1 s6
/-- an ask of good answers -/
theorem q_ask {K : PySem.W.Frag} {H : Hp} {Q : Addr → Hp → Prop} {E : XK} {q : Addr} {zs : List AZ} (hq : H q = some (.lst (zs.map fun z => V.ref z.1))) (hz : zs.length < 60) (an : AnsH H zs) (nm : NmA (zs.map (·.2.2))) (nd : (keysA zs).Nodup) (k : ∀ x H', H x = none → Same H H' → AskAt CA H' x zs → Q x H') :
    ∀ x dx, H x = none → H dx = none → dx ≠ x → spAskInit K CA CL [.ref x, .ref q] (upd (upd H dx (.own x)) x (.ins CA dx [])) (fun v H2 => v = .non ∧ Q x H2) E := fun x dx nx nD ne => by
  have S := same_made (C := CA) nx nD
  refine ⟨x, dx, _, rfl, upd_same, ⟨⟨_, Pl.lst (S _ _ hq), fun n => absurd rfl n, fun _ => ⟨_, _, rfl, S _ _ hq, by rw [List.length_map]; omega, fun _ => true, fun y hy => ?_, fun t => ?_, fun _ => ⟨_, rfl, an.mono S, fun z m => nm z.2.2 (List.mem_map.mpr ⟨z, m, rfl⟩), fun g => absurd nd g, fun _ H' d hx hd B => ⟨rfl, k x H' nx (fun b o e => B b o (ne_of_none e nx) (S _ _ e)) ⟨dx, d, hx, hd⟩⟩⟩⟩⟩⟩⟩
  · obtain ⟨z, mz, rfl⟩ := List.mem_map.mp hy
    exact (an.mono S).ank nm mz
  · simp at t
end
end Bt
namespace Bt
open PySem PySem.Spec PyProof.Rows L2 LamX NdefX
open PySem.W (dataLt dataLe alike AllAlike Sortable)
theorem words79_ : True := by
  k_with "s_A7i" => first
    | ((with_reducible refine' s_var ?hv ?_); (case hv => exact rfl))
    | with_reducible first
      | refine' s_c ?_ | refine' s_op ?_ | refine' s_asg ?_ | refine' s_gname ?_ | refine' s_seq ?_ | refine' s_next ?_ | refine' s_ret ?_ | refine' s_ifS ?_ | refine' s_drop ?_ | refine' s_retN ?_ | refine' s_test ?_ | refine' s_B ?_ | refine' q_test ?_ | refine' s_int ?_ | refine' s_cons ?_ | refine' s_nil ?_ | refine' s_call ?_ | refine' s_CB ?_ | refine' s_andT ?_ | refine' s_orT ?_ | refine' s_notT ?_ | refine' s_andV ?_ | refine' s_orV ?_ | refine' s_notV ?_ | refine' s_ifV ?_ | refine' s_chain ?_ | refine' s_sl ?_ | refine' s_noPart ?_ | refine' s_part ?_ | refine' s_gsub ?_ | refine' s_BM ?_ | refine' s_tup ?_ | refine' s_lst ?_ | refine' q_add ?_ | refine' q_sub ?_ | refine' q_lt ?_ | refine' q_le ?_ | refine' q_gt ?_ | refine' q_ge ?_ | refine' s_ifT ?_ | refine' s_ifF ?_ | refine' s_yes ?_ | refine' s_iStr ?_ | refine' s_M0 ?_ | refine' s_for ?_ | refine' s_rng1 ?_ | refine' s_par ?_ | refine' s_gcons ?_ | refine' s_gnil ?_ | refine' s_iList ?_ | refine' s_iEnum ?_ | refine' s_raise1 ?_
      | (refine' q_mod ?hm ?_; (case hm => first | omega | decide))
    | dsimp only
  k_with "r_A7i" => repeat (k_extra "s_A7i")
  trivial
/-! ### _law_refused -/
theorem q_cut8 {tu tz : TS} {D : Ends} {σ : L2.St} {H : Hp} {M : L2.St → Hp → Prop} (h : tu { D with nx := M } σ H) (k : ∀ σ' H', M σ' H' → tz D σ' H') : C8.tCut tu tz D σ H := ⟨M, h, k⟩
def rListOf (K : PySem.W.Frag) : List V → Hp → VK → Prop := fun xs H Q => ∃ p ys, xs = [.ref p] ∧ (SqL K H p ys ∨ SqT K H p ys) ∧ ∀ l, H l = none → Q (.ref l) (upd H l (.lst ys))
theorem call_listOf {X : Cx} : CallR X (.type "list") (rListOf X.K) := call_list_of
theorem q_listL {K : PySem.W.Frag} {H : Hp} {Q : VK} {p : Addr} {ys : List V} (h : SqL K H p ys) (q : ∀ l H', H l = none → Same H H' → H' l = some (.lst ys) → Q (.ref l) H') : rListOf K [.ref p] H Q := ⟨p, ys, rfl, .inl h, fun l n => q l _ n (Same.new n) upd_same⟩
structure TxtI7 (K : PySem.W.Frag) (mg : Str → Option Value) : Prop where
  d_refused : Df K mg "_law_refused" s__law_refused ["_law_answers"]
section
variable {P : Program} {w : World} {K : PySem.W.Frag} {mg : Str → Option Value} {base : Heap} {CA CL : Addr}
def spRefused (K : PySem.W.Frag) : Sp := fun vs H Q _ => ∃ v, vs = [v] ∧ RefV K H v ∧ ∀ H', Same H H' → Q (.bl true) H'
/-- the copy g of v, or v itself -/
def Cpy (K : PySem.W.Frag) (H0 H : Hp) (v g : V) : Prop := (∃ T, Pl K H v T ∧ T ≠ "list" ∧ g = v ∧ SelfV K H v) ∨ ∃ q a xs, v = .ref q ∧ g = .ref a ∧ q ≠ a ∧ H q = some (.lst xs) ∧ H a = some (.lst xs) ∧ (∀ y ∈ xs, SelfV K H y) ∧ xs.length < 60 ∧ H0 a = none
theorem ok__law_refused (T : Txt K mg) (N : TxtN K mg) (TS : TxtS K mg) (I : TxtI K mg) (A7 : TxtA7 K mg) (AC : AskC K mg CA) (XL : ExcF K mg "InvalidLook" "value" CL) (I7 : TxtI7 K mg) : Cal P w K mg base 8 "_law_refused" (spRefused K) := by
  refine I7.d_refused.cal sc__law_refused (fun vs H Q E h => ?_) (fun fn cdv A outer s H vs Q E hr h => ?_)
  · obtain ⟨v, rfl, _⟩ := h
    rfl
  · obtain ⟨v, rfl, hv, k⟩ := h
    have hu := hr.units
    refine ⟨_, (pss_cons (ps_par (i := 1) (j := 2) (by rfl) sc__law_refused.nd rfl rfl (by decide) rfl rfl (pa_cons (pv 0) (pa_cons (pe_lst (pa_cons pe_str pa_nil)) pa_nil)) (by rfl))
      (C8.pss_cut (ps_if (pt_val (pe_callB call_isi (by rfl) T.n_isinstance (by decide +kernel) (pa_cons (pv 1) (pa_cons (pe_bltn (v := .ty "list") (by rfl) TS.n_list (by decide +kernel) rfl) pa_nil)))) (pss_one (ps_set (i := 1) sc__law_refused.nd rfl (.inl rfl) (pe_callTy call_listOf (by rfl) TS.n_list (by decide +kernel) (pa_cons (pv 1) pa_nil)))) pss_nil)
      (pss_cons (ps_try_as (i := 3) (tb := fun W => tDrop (tMakeS CA (spAskInit K CA CL) [] (fun σ => WE W σ) (tCons (tVar 1) tNil))) (ts := fun a cls d => tAsg (tLst (tCons (tXf a cls d CL "value" (tVar 3)) tNil)) (gName 2)) (Wout := fun _ _ _ _ => False) rfl rfl sc__law_refused.nd rfl rfl ⟨rfl, by decide, Or.inl XL.g⟩ L2.takes0
        (fun W pn xe tk _ => pss_one (ps_expr (by exact (pe_askS T N TS I A7 AC XL hr (by decide) tk (pv 1)))))
        (fun a oe cls d pn hz hf => pss_one (ps_set (i := 2) sc__law_refused.nd rfl (Or.inl rfl) (by exact pe_lst (pa_cons (pe_xf XL.xf XL.no hz hf (pv 3)) pa_nil)))))
      (pss_cons (ps_if (pt_cmpR (op_neI (n := 1) (room66 hr)) (pv 2) (pe_lst (pa_cons (pv 0) pa_nil)) (by rfl)) (pss_one (ps_ret pe_bl)) pss_nil)
      (C8.pss_cut (ps_if (pt_val (pe_callB call_isi (by rfl) T.n_isinstance (by decide +kernel) (pa_cons (pv 1) (pa_cons (pe_bltn (v := .ty "list") (by rfl) TS.n_list (by decide +kernel) rfl) pa_nil)))) (pss_one (ps_expr (pe_bm PySem.F.plainAttrs_list PySem.F.slot_list_append PySem.F.type_list_append mt_append (pv 1) (pa_cons pe_str pa_nil)))) pss_nil)
      (pss_one (ps_ret (pe_cmpR (op_eqI (n := 1) (room66 hr)) (pv 2) (pe_lst (pa_cons (pv 1) pa_nil)) (by rfl))))))))), ?_⟩
    k_extra "r_A7i"
    refine q_newL (by show 1 ≤ sizeLine; decide) fun l0 H1 n1 S1 h1 => ?_
    k_extra "r_A7i"
    refine ⟨_, _, rfl, ?_⟩
    have hv1 := hv.mono S1
    refine q_cut8 (M := fun σ H' => ∃ g, σ = [some v, some g, some (.ref l0), none] ∧ Same H1 H' ∧ RefV K H' g ∧ Cpy K H1 H' v g) ?_ ?_
    · k_extra "r_A7i"
      cases hv1 with
      | other h n s =>
        refine q_isi h .lst ?_
        rw [show subKd _ "list" = false by cases h.2 <;> first | rfl | exact absurd rfl n]
        refine q_test (s_if0 rfl ?_)
        k_extra "r_A7i"
        exact ⟨_, rfl, Same.refl _, .other h n s, .inl ⟨_, h, n, rfl, s⟩⟩
      | @bad q xs r e h z a sv rr =>
        subst e
        refine q_isi (Pl.lst h) .lst ?_
        refine q_test (s_if1 rfl ?_)
        k_extra "r_A7i"
        refine q_listL (SqL.of h) fun g H2 n2 S2 h2 => ?_
        k_extra "r_A7i"
        exact ⟨_, rfl, S2, .bad rfl h2 z (fun y m => (a y m).mono S2) (fun y m => (sv y m).mono S2) rr, .inr ⟨q, g, xs, rfl, rfl, (fun z => by rw [← z, h] at n2; cases n2), S2 _ _ h, h2, fun y m => (sv y m).mono S2, z, n2⟩⟩
      | @dup q zs e h z a n d =>
        subst e
        refine q_isi (Pl.lst h) .lst ?_
        refine q_test (s_if1 rfl ?_)
        k_extra "r_A7i"
        refine q_listL (SqL.of h) fun g H2 n2 S2 h2 => ?_
        k_extra "r_A7i"
        refine ⟨_, rfl, S2, .dup rfl h2 z (a.mono S2) n d, .inr ⟨q, g, _, rfl, rfl, (fun z => by rw [← z, h] at n2; cases n2), S2 _ _ h, h2, fun y m => ?_, by rw [List.length_map]; exact z, n2⟩⟩
        obtain ⟨z', _, rfl⟩ := List.mem_map.mp m
        exact .ref _
    rintro σ H2 ⟨g, rfl, S2, rg, cp⟩
    k_extra "r_A7i"
    refine s_makeS ?_
    k_extra "r_A7i"
    intro x dx nx nd ne
    have S3 := same_made (C := CA) nx nd
    refine ⟨x, dx, g, rfl, upd_same, (rg.mono S3).arg fun H4 d4 S4 nd4 hd4 => ⟨true, XL.te, fun _ a0 ha0 => ?_, fun q => Bool.noConfusion q⟩⟩
    k_extra "r_A7i"
    refine ⟨_, rfl, rfl, rfl, d4, _, g, rfl, hd4, (by simp [List.lookup]), ?_⟩
    k_extra "r_A7i"
    refine q_newL (by show 1 ≤ sizeLine; decide) fun l1 H5 n5 S5 h5 => ?_
    k_extra "r_A7i"
    refine q_newL (by show 1 ≤ sizeLine; decide) fun l2 H6 n6 S6 h6 => ?_
    have T26 : Same H2 H6 := S3.trans (S4.trans (S5.trans S6))
    have eq : EqV K H6 1 g v true := by
      rcases cp with ⟨T', h, n, rfl, s⟩ | ⟨q, a, xs, rfl, rfl, nq, hq, ha, sx, _, _⟩
      · exact EqV.up (Same.refl _) _ _ _ _ (s.mono T26) 1 (by decide)
      · have := EqV.lst (n := 0) nq.symm (SqL.of (T26 _ _ ha)) (SqL.of (T26 _ _ hq)) (selfs fun y hy => (sx y hy).mono T26)
        rw [all_trues] at this
        exact this
    refine ⟨l1, l2, [g], [v], [true], rfl, rfl, .inl ⟨SqL.of (S6 _ _ h5), SqL.of h6⟩, .cons eq .nil, ?_⟩
    refine q_test (s_if0 rfl ?_)
    have h5' := S6 _ _ h5
    k_extra "r_A7i"
    refine q_cut8 (M := fun σ H' => ∃ v3, σ = [some v, some g, some (.ref l1), v3] ∧ Same H H' ∧ H' l1 = some (.lst [g]) ∧ SelfV K H' g) ?_ ?_
    · k_extra "r_A7i"
      rcases cp with ⟨T', h, n, rfl, s⟩ | ⟨q, a, xs, rfl, rfl, nq, hq, ha, sx, hz, na⟩
      · refine q_isi (h.mono T26) .lst ?_
        rw [show subKd _ "list" = false by cases h.2 <;> first | rfl | exact absurd rfl n]
        refine q_test (s_if0 rfl ?_)
        k_extra "r_A7i"
        exact ⟨_, rfl, S1.trans (S2.trans T26), h5', s.mono T26⟩
      · have ha6 := T26 _ _ ha
        refine q_isi (Pl.lst ha6) .lst ?_
        refine q_test (s_if1 rfl ?_)
        k_extra "r_A7i"
        refine ⟨.inl ⟨rfl, _, SqL.of ha6⟩, ?_⟩
        k_extra "r_A7i"
        refine q_append ha6 (szlt (by omega)) fun H7 b7 h7 => ?_
        k_extra "r_A7i"
        have nl : l1 ≠ a := fun z => by
          rw [z] at n5
          rw [(S3.trans S4) _ _ ha] at n5
          cases n5
        refine ⟨_, rfl, fun b o e => ?_, b7 _ _ nl h5', .ref _⟩
        refine b7 _ _ (fun z => ?_) (T26 _ _ (S2 _ _ (S1 _ _ e)))
        rw [z] at e
        rw [S1 _ _ e] at na
        cases na
    · rintro σ H7 ⟨v3, rfl, S7, h7, sg⟩
      k_extra "r_A7i"
      refine q_newL (by show 1 ≤ sizeLine; decide) fun l3 H8 n8 S8 h8 => ?_
      refine ⟨l1, l3, _, _, _, rfl, rfl, .inl ⟨SqL.of (S8 _ _ h7), SqL.of h8⟩, selfs (xs := [g]) (fun y hy => by rw [List.mem_singleton.mp hy]; exact sg.mono S8), ?_⟩
      exact k _ (S7.trans S8)
end
end Bt
namespace Bt
open PySem PySem.Spec PyProof.Rows L2
open PySem.W (dataLt alike)
/-! ### a <= b, a > b of data that are alike; v in o, v not in o by an own __contains__ -/
def rLeD (K : PySem.W.Frag) : R2 := fun x y H Q => ∃ d e, Dp K H x d ∧ Dp K H y e ∧ alike d e = true ∧ d ≠ .none ∧ d.depth ≤ 60 ∧ Q (.bl (!dataLt e d)) H
def rGtD (K : PySem.W.Frag) : R2 := fun x y H Q => ∃ d e, Dp K H x d ∧ Dp K H y e ∧ alike d e = true ∧ d ≠ .none ∧ d.depth ≤ 60 ∧ Q (.bl (dataLt e d)) H
theorem op_leD {X : Cx} (hu : X.A.units + 64 < cLine) : OpR X (compareOp .LtE) (rLeD X.K) := by
  intro pins s σ H x y v u Q I rx ry h
  obtain ⟨d, e, dx, dy, al, nn, dp, q⟩ := h
  obtain ⟨as, r1⟩ := Dp.reads I d x v dx rx
  obtain ⟨bs, r2⟩ := Dp.reads I e y u dy ry
  show wpAny (model X.prog X.w) X.A (richCompare .LtE v u) (EP X pins σ Q) X.xe s
  exact PySem.W.rcLe_alike d e X.A s v u as bs r1 r2 al nn (by omega) X.prog X.w _ _ ⟨.bl _, H, I, rfl, q⟩
theorem op_gtD {X : Cx} (hu : X.A.units + 64 < cLine) : OpR X (compareOp .Gt) (rGtD X.K) := by
  intro pins s σ H x y v u Q I rx ry h
  obtain ⟨d, e, dx, dy, al, nn, dp, q⟩ := h
  obtain ⟨as, r1⟩ := Dp.reads I d x v dx rx
  obtain ⟨bs, r2⟩ := Dp.reads I e y u dy ry
  show wpAny (model X.prog X.w) X.A (richCompare .Gt v u) (EP X pins σ Q) X.xe s
  exact PySem.W.rcGt_alike d e X.A s v u as bs r1 r2 al nn (by omega) X.prog X.w _ _ ⟨.bl _, H, I, rfl, q⟩
theorem q_leD {K : PySem.W.Frag} {x y : V} {H : Hp} {Q : VK} {d e : PyData} (dx : Dp K H x d) (dy : Dp K H y e) (al : alike d e = true) (nn : d ≠ .none) (dp : d.depth ≤ 60) (q : Q (.bl (!dataLt e d)) H) : rLeD K x y H Q := ⟨d, e, dx, dy, al, nn, dp, q⟩
theorem q_gtD {K : PySem.W.Frag} {x y : V} {H : Hp} {Q : VK} {d e : PyData} (dx : Dp K H x d) (dy : Dp K H y e) (al : alike d e = true) (nn : d ≠ .none) (dp : d.depth ≤ 60) (q : Q (.bl (dataLt e d)) H) : rGtD K x y H Q := ⟨d, e, dx, dy, al, nn, dp, q⟩
def rInOwn (K : PySem.W.Frag) (C : Addr) (neg : Bool) (sp : Sp) (E : XK) : R2 := fun x y H Q => ∃ a dx fs, y = .ref a ∧ H a = some (.ins C dx fs) ∧ sp [y, x] H (fun v H' => ∃ b, v = .bl b ∧ Q (.bl (if neg then !b else b)) H') E
theorem op_inOwn {X : Cx} {CX : CXT} {n : Nat} {C f : Addr} {fd : FuncData} {ps : List Str} {sp : Sp} {E : XK} (F : FnOk X.prog X.w X.K X.mg X.base CX n f fd ps sp) (hr : Room n X.A)
    (hs : PySem.W.findIn X.K (.ref C) "__contains__" = some (some (.ref f))) (hf : PySem.W.isFn X.K (.ref f) = true) (hb : Binds X.K fd ps []) (hx : Passes CX X E) : OpR X (compareOp .In) (rInOwn X.K C false sp E) := by
  intro pins s σ H x y v u Q I rx ry hq
  obtain ⟨a, dx, fs, rfl, ha, hsp⟩ := hq
  cases ry
  obtain ⟨mA, J, _⟩ := ins_get I.hok ha
  obtain ⟨od, J, _⟩ := J.look
  obtain ⟨m, hF⟩ := I.fr
  refine PySem.W.in_K hF I.ok.mod.kin J hs hf ?_
  have hl := F.len _ _ _ _ hsp
  have r2 : Vals [V.ref a, x] [Value.ref a, v] := .cons rfl (.cons rx .nil)
  refine wpAny_call (codeAny_mono (F.run X.A X.stack s H ⟨[.ref a, v], []⟩ [.ref a, v] [.ref a, x] _ E hr I.env0 (by
    have := hb s [.ref a, v] I.kIn (by simpa using hl)
    simpa using this) r2 hsp) fun r s' hq => ?_)
  cases r with
  | error e => exact hx pins σ H s e s' I hq
  | ok fl =>
    cases fl with
    | ret w =>
      obtain ⟨z, H', I', rz, b, ez, q⟩ := I.after hq
      subst ez
      cases rz
      exact wpAny_pure (a := b) ⟨.bl b, H', I', rfl, q⟩
    | next => exact False.elim hq
    | brk => exact False.elim hq
    | cont => exact False.elim hq
theorem op_notInOwn {X : Cx} {CX : CXT} {n : Nat} {C f : Addr} {fd : FuncData} {ps : List Str} {sp : Sp} {E : XK} (F : FnOk X.prog X.w X.K X.mg X.base CX n f fd ps sp) (hr : Room n X.A)
    (hs : PySem.W.findIn X.K (.ref C) "__contains__" = some (some (.ref f))) (hf : PySem.W.isFn X.K (.ref f) = true) (hb : Binds X.K fd ps []) (hx : Passes CX X E) : OpR X (compareOp .NotIn) (rInOwn X.K C true sp E) := by
  intro pins s σ H x y v u Q I rx ry hq
  obtain ⟨a, dx, fs, rfl, ha, hsp⟩ := hq
  cases ry
  obtain ⟨mA, J, _⟩ := ins_get I.hok ha
  obtain ⟨od, J, _⟩ := J.look
  obtain ⟨m, hF⟩ := I.fr
  refine PySem.W.notIn_K hF I.ok.mod.kin J hs hf ?_
  have hl := F.len _ _ _ _ hsp
  have r2 : Vals [V.ref a, x] [Value.ref a, v] := .cons rfl (.cons rx .nil)
  refine wpAny_call (codeAny_mono (F.run X.A X.stack s H ⟨[.ref a, v], []⟩ [.ref a, v] [.ref a, x] _ E hr I.env0 (by
    have := hb s [.ref a, v] I.kIn (by simpa using hl)
    simpa using this) r2 hsp) fun r s' hq => ?_)
  cases r with
  | error e => exact hx pins σ H s e s' I hq
  | ok fl =>
    cases fl with
    | ret w =>
      obtain ⟨z, H', I', rz, b, ez, q⟩ := I.after hq
      subst ez
      cases rz
      exact wpAny_pure (a := b) ⟨.bl (!b), H', I', rfl, q⟩
    | next => exact False.elim hq
    | brk => exact False.elim hq
    | cont => exact False.elim hq
end Bt
namespace Bt
open PySem PySem.Spec PyProof.Rows L2 LamX NdefX
open PySem.W (dataLt dataLe alike AllAlike Sortable)
theorem words80_ : True := by
  k_with "s_A7j" => first
    | ((with_reducible refine' s_var ?hv ?_); (case hv => exact rfl))
    | with_reducible first
      | refine' s_c ?_ | refine' s_op ?_ | refine' s_asg ?_ | refine' s_gname ?_ | refine' s_seq ?_ | refine' s_next ?_ | refine' s_ret ?_ | refine' s_ifS ?_ | refine' s_drop ?_ | refine' s_retN ?_ | refine' s_test ?_ | refine' s_B ?_ | refine' q_test ?_ | refine' s_int ?_ | refine' s_cons ?_ | refine' s_nil ?_ | refine' s_call ?_ | refine' s_CB ?_ | refine' s_andT ?_ | refine' s_orT ?_ | refine' s_notT ?_ | refine' s_andV ?_ | refine' s_orV ?_ | refine' s_notV ?_ | refine' s_ifV ?_ | refine' s_chain ?_ | refine' s_sl ?_ | refine' s_noPart ?_ | refine' s_part ?_ | refine' s_gsub ?_ | refine' s_BM ?_ | refine' s_tup ?_ | refine' s_lst ?_ | refine' q_add ?_ | refine' q_sub ?_ | refine' q_lt ?_ | refine' q_le ?_ | refine' q_gt ?_ | refine' q_ge ?_ | refine' s_ifT ?_ | refine' s_ifF ?_ | refine' s_yes ?_ | refine' s_iStr ?_ | refine' s_M0 ?_ | refine' s_for ?_ | refine' s_rng1 ?_ | refine' s_par ?_ | refine' s_gcons ?_ | refine' s_gnil ?_ | refine' s_iList ?_ | refine' s_iEnum ?_ | refine' s_raise1 ?_
      | (refine' q_mod ?hm ?_; (case hm => first | omega | decide))
    | dsimp only
  k_with "r_A7j" => repeat (k_extra "s_A7j")
  trivial
/-! ### _law_heard -/
def rIsNot : R2 := fun x y H Q => y = .non ∧ Q (.bl (!decide (x = .non))) H
theorem op_isNotNon {X : Cx} : OpR X (compareOp .IsNot) rIsNot := op_notN
theorem q_isNotNon {H : Hp} {Q : VK} {x : V} (q : Q (.bl (!decide (x = .non))) H) : rIsNot x .non H Q := ⟨rfl, q⟩
theorem key_inj : ∀ {zs : List AZ}, (keysA zs).Nodup → ∀ {y z : AZ}, y ∈ zs → z ∈ zs → y.2.2.1 = z.2.2.1 → y = z
  | [], _, _, _, h, _, _ => nomatch h
  | x :: zs, nd, y, z, hy, hz, e => by
    unfold keysA at nd
    rw [List.map_cons, List.nodup_cons] at nd
    rcases List.mem_cons.mp hy with e1 | h1
    · rcases List.mem_cons.mp hz with e2 | h2
      · rw [e1, e2]
      · exact absurd (List.mem_map.mpr ⟨z, h2, by rw [← e, e1]⟩) nd.1
    · rcases List.mem_cons.mp hz with e2 | h2
      · exact absurd (List.mem_map.mpr ⟨y, h1, by rw [e, e2]⟩) nd.1
      · exact key_inj nd.2 h1 h2 e
def fnd (zs : List AZ) (q : Str × Str) : Option AZ := zs.find? fun z => decide (z.2.2.1 = q)
theorem fnd_sort {zs : List AZ} (nd : (keysA zs).Nodup) (q : Str × Str) : fnd (aSort zs) q = fnd zs q := by
  have pm := aSort_perm zs
  cases h : fnd zs q with
  | none =>
    refine List.find?_eq_none.mpr fun y hy => ?_
    exact List.find?_eq_none.mp h y (pm.mem_iff.mp hy)
  | some z =>
    have hz := List.mem_of_find?_eq_some h
    have hk : z.2.2.1 = q := of_decide_eq_true (List.find?_some (p := fun z : AZ => decide (z.2.2.1 = q)) h)
    cases h2 : fnd (aSort zs) q with
    | none => exact absurd (decide_eq_true hk) (List.find?_eq_none.mp h2 z (pm.mem_iff.mpr hz))
    | some y =>
      have hy := pm.mem_iff.mp (List.mem_of_find?_eq_some h2)
      have hk2 : y.2.2.1 = q := of_decide_eq_true (List.find?_some (p := fun z : AZ => decide (z.2.2.1 = q)) h2)
      rw [key_inj nd hy hz (hk2.trans hk.symm)]
theorem val_fnd {zs : List AZ} (nd : (keysA zs).Nodup) (q : Str × Str) : valV (kvA zs) (keyOf q) = (fnd zs q).map fun z => .bl z.2.2.2 := by
  rw [← fnd_sort nd q]
  unfold valV kvA fnd
  rw [List.find?_map, Option.map_map]
  congr 1
  congr 1
  funext z
  exact decide_eq_decide.mpr ⟨fun h => keyOf_inj h, fun h => congrArg keyOf h⟩
theorem say_fnd (zs : List AZ) (q : Str × Str) : sayA zs q = ((fnd zs q).map fun z => V.bl z.2.2.2).getD .non := rfl
structure TxtJ7 (K : PySem.W.Frag) (mg : Str → Option Value) : Prop where
  d_heard : Df K mg "_law_heard" s__law_heard ["_law_ask", "_law_answers", "_law_places"]
structure AskI (K : PySem.W.Frag) (CA : Addr) : Prop where
  inn : ∃ (f : Addr) (fd : FuncData), PySem.W.findIn K (.ref CA) "__contains__" = some (some (.ref f)) ∧ PySem.W.isFn K (.ref f) = true ∧ Fun K "__contains__" "Ask.__contains__" s_Ask___contains__ f fd ∧ Binds K fd ["self", "place"] []
section
variable {P : Program} {w : World} {K : PySem.W.Frag} {mg : Str → Option Value} {base : Heap} {CA CL : Addr}
def spHeard (CA : Addr) : Sp := fun vs H Q _ => ∃ x a l zs xs ps, vs = [.ref x, .ref a, .ref l] ∧ AskAt CA H x zs ∧ (keysA zs).Nodup ∧ NmA (zs.map (·.2.2)) ∧ H a = some (.lst (zs.map fun z : AZ => V.ref z.1)) ∧ AnsH H zs ∧
  H l = some (.lst xs) ∧ Pls H xs ps ∧ (∀ q ∈ ps, Nm q.1 ∧ Nm q.2) ∧ ∀ H', Same H H' → Q (.bl true) H'
theorem Pls.get {H : Hp} {xs : List V} {ps : List (Str × Str)} (h : Pls H xs ps) : ∀ {i : Nat} {x : V}, xs[i]? = some x → ∃ q, q ∈ ps ∧ PlAt H x q := by
  induction h with
  | nil => intro i x e; simp at e
  | cons h _ ih =>
    intro i x e
    cases i with
    | zero => cases Option.some.inj e; exact ⟨_, List.mem_cons_self, h⟩
    | succ i =>
      obtain ⟨q, m, p⟩ := ih (i := i) (by simpa using e)
      exact ⟨q, List.mem_cons_of_mem _ m, p⟩
theorem ok__law_heard (T : Txt K mg) (N : TxtN K mg) (I : TxtI K mg) (F7 : TxtF7 K mg) (AC : AskC K mg CA) (AP : AskP K CA) (AI : AskI K CA) (XP : ExcF K mg "InvalidPlace" "value" CL) (J7 : TxtJ7 K mg) : Cal P w K mg base 6 "_law_heard" (spHeard CA) := by
  obtain ⟨fi, fdi, i1, i2, Fi, bi⟩ := AI.inn
  refine J7.d_heard.cal sc__law_heard (fun vs H Q E h => ?_) (fun fn cdv A outer s H vs Q E hr h => ?_)
  · obtain ⟨x, a, l, zs, xs, ps, rfl, _⟩ := h
    rfl
  · obtain ⟨x, a, l, zs, xs, ps, rfl, hx, nd, nm, ha, an, hl, pl, np, k⟩ := h
    have hu := hr.units
    refine ⟨_, (pss_cons (ps_for PassesOwn.never rfl (pi_list (pv 2)) (pg_name (i := 3) sc__law_heard.nd rfl (.inl rfl))
        (pss_cons (ps_par (i := 4) (j := 5) (by rfl) sc__law_heard.nd rfl rfl (by decide) rfl rfl (pa_cons (pe_c (ok__law_says F7) hr (by decide) rfl (pa_cons (pe_tup (pa_cons pe_str (pa_cons (pv 1) pa_nil))) (pa_cons (pv 3) pa_nil))) (pa_cons (pe_says T N I AC AP XP hr (by decide) (pv 0) (pv 3)) pa_nil)) (by rfl))
        (pss_one (ps_if (PW.pt (pw_or (pt_cmpR op_ne (pv 5) (pv 4) (by rfl)) (pw_or (pt_cmpR op_ne (pe_callB call_isi (by rfl) T.n_isinstance (by decide +kernel) (pa_cons (pv 5) (pa_cons (pe_bltn (v := .ty "bool") (by rfl) T.n_bool (by decide +kernel) rfl) pa_nil))) (pe_cmpR op_isNotNon (pv 4) pe_non (by rfl)) (by rfl)) (pw_or1 (pt_cmpR op_ne (pe_cmpR (op_inOwn (ok_ask_in T N I AC Fi) (hr.mono (by decide)) i1 i2 bi pass0) (pv 3) (pv 0) (by rfl)) (pe_cmpR op_isNotNon (pv 4) pe_non (by rfl)) (by rfl)))))) (pss_one (ps_ret pe_bl)) pss_nil))))
      (pss_one (ps_ret pe_bl))), ?_⟩
    k_extra "r_A7j"
    refine ⟨l, rfl, ⟨_, SqL.of hl⟩, q_forL (K := K) (a := l) (xs := xs) (fun _ σ H' => ∃ v3 v4 v5, σ = [some (.ref x), some (.ref a), some (.ref l), v3, v4, v5] ∧ Same H H') ⟨_, _, _, rfl, Same.refl H⟩ (fun i σ H' _ ⟨_, _, _, _, S⟩ => SqL.of (S _ _ hl)) ?_ ?_⟩
    · rintro i v σ H1 hv ⟨v3, v4, v5, rfl, S1⟩
      obtain ⟨q, mq, b, rfl, hb⟩ := pl.get hv
      have nq := np q mq
      k_extra "r_A7j"
      refine q_newT (by show 2 ≤ sizeLine; decide) fun t H2 n2 S2 h2 => ?_
      k_extra "r_A7j"
      have T2 := S1.trans S2
      refine ⟨t, b, a, zs, q, rfl, h2, T2 _ _ ha, an.mono T2, nm, T2 _ _ hb, nq.1, nq.2, fun H3 S3 => ?_⟩
      k_extra "r_A7j"
      have T3 := T2.trans S3
      obtain ⟨dx, d, g1, g2⟩ := hx.mono T3
      refine ⟨.ref x, rfl, x, dx, _, rfl, g1, stF_no, ?_⟩
      k_extra "r_A7j"
      refine ⟨x, .ref b, zs, true, rfl, ⟨dx, d, g1, g2⟩, plk_of (T3 _ _ hb) nq.1 nq.2, (fun z => by cases z), fun _ => ⟨b, q, rfl, T3 _ _ hb, fun H4 S4 => ?_⟩⟩
      rw [val_fnd nd, say_fnd]
      have T4 := T3.trans S4
      k_extra "r_A7j"
      refine ⟨_, _, rfl, ?_⟩
      k_extra "r_A7j"
      have hb4 := T4 _ _ hb
      obtain ⟨dx4, d4, g3, g4⟩ := hx.mono T4
      have inn : ∀ Q' : VK, (∀ H', Same H H' → Q' (.bl (fnd zs q).isSome) H') → rInOwn K CA false (spIn K CA) E0 (.ref b) (.ref x) H4 Q' := fun Q' kq =>
        ⟨x, dx4, _, rfl, g3, x, .ref b, zs, true, rfl, ⟨dx4, d4, g3, g4⟩, plk_of hb4 nq.1 nq.2, (fun z => by cases z), fun _ => ⟨b, q, rfl, hb4, fun H5 S5 => ⟨_, rfl, by rw [val_fnd nd, Option.isSome_map]; exact kq H5 (T4.trans S5)⟩⟩⟩
      cases e : fnd zs q with
      | none =>
        refine ⟨rfl, q_test (s_if0 (by simp) ?_)⟩
        k_extra "r_A7j"
        refine q_isi Pl.non .bl ?_
        k_extra "r_A7j"
        refine q_isNotNon ⟨rfl, q_test (s_if0 (by decide) ?_)⟩
        k_extra "r_A7j"
        refine inn _ fun H5 T5 => ?_
        rw [e]
        k_extra "r_A7j"
        refine q_isNotNon ⟨rfl, q_test (s_if0 (by decide) ?_)⟩
        k_extra "r_A7j"
        exact ⟨_, _, _, rfl, T5⟩
      | some z =>
        refine ⟨by simp [scal], q_test (s_if0 (by simp) ?_)⟩
        k_extra "r_A7j"
        refine q_isi Pl.bl .bl ?_
        k_extra "r_A7j"
        refine q_isNotNon ⟨rfl, q_test (s_if0 (by simp [subKd]) ?_)⟩
        k_extra "r_A7j"
        refine inn _ fun H5 T5 => ?_
        rw [e]
        k_extra "r_A7j"
        refine q_isNotNon ⟨rfl, q_test (s_if0 (by simp) ?_)⟩
        k_extra "r_A7j"
        exact ⟨_, _, _, rfl, T5⟩
    · rintro σ H1 ⟨v3, v4, v5, rfl, S1⟩
      k_extra "r_A7j"
      exact k H1 S1
end
end Bt
namespace Bt
open PySem PySem.Spec PyProof.Rows L2 LamX NdefX
open PySem.W (dataLt dataLe alike AllAlike Sortable)
theorem words81_ : True := by
  k_with "s_M7" => first
    | ((with_reducible refine' s_var ?hv ?_); (case hv => exact rfl))
    | with_reducible first
      | refine' s_c ?_ | refine' s_op ?_ | refine' s_asg ?_ | refine' s_gname ?_ | refine' s_seq ?_ | refine' s_next ?_ | refine' s_ret ?_ | refine' s_ifS ?_ | refine' s_drop ?_ | refine' s_retN ?_ | refine' s_test ?_ | refine' s_B ?_ | refine' q_test ?_ | refine' s_int ?_ | refine' s_cons ?_ | refine' s_nil ?_ | refine' s_call ?_ | refine' s_CB ?_ | refine' s_andT ?_ | refine' s_orT ?_ | refine' s_notT ?_ | refine' s_andV ?_ | refine' s_orV ?_ | refine' s_notV ?_ | refine' s_ifV ?_ | refine' s_chain ?_ | refine' s_sl ?_ | refine' s_noPart ?_ | refine' s_part ?_ | refine' s_gsub ?_ | refine' s_BM ?_ | refine' s_tup ?_ | refine' s_lst ?_ | refine' q_add ?_ | refine' q_sub ?_ | refine' q_lt ?_ | refine' q_le ?_ | refine' q_gt ?_ | refine' q_ge ?_ | refine' s_ifT ?_ | refine' s_ifF ?_ | refine' s_yes ?_ | refine' s_iStr ?_ | refine' s_M0 ?_ | refine' s_for ?_ | refine' s_rng1 ?_ | refine' s_par ?_ | refine' s_gcons ?_ | refine' s_gnil ?_ | refine' s_iList ?_ | refine' s_iEnum ?_ | refine' s_raise1 ?_
      | (refine' q_mod ?hm ?_; (case hm => first | omega | decide))
    | dsimp only
  k_with "r_M7" => repeat (k_extra "s_M7")
  trivial
/-! ### the places that stand, in order -/
def pLe (p q : Str × Str) : Bool := dataLe false dPl p q
theorem dl_total {β : Type} (k : β → PyData) (a b : β) : dataLe false k a b = true ∨ dataLe false k b a = true := (PySem.W.sortLe_total _ false _).total a b
theorem dl_pw {β : Type} (k : β → PyData) (l : List β) : (l.mergeSort (dataLe false k)).Pairwise fun a b => dataLe false k a b = true :=
  List.pairwise_mergeSort (fun a b c h1 h2 => (PySem.W.sortLe_total _ false _).trans a b c h1 h2) (fun a b => Bool.or_eq_true_iff.mpr ((PySem.W.sortLe_total _ false _).total a b)) l
theorem dl_lt {β : Type} (k : β → PyData) (a b : β) : dataLe false k a b = !dataLt (k b) (k a) := rfl
theorem lt_str (x y : Str) : (!dataLt (.str y) (.str x)) = decide (x.cps.toList ≤ y.cps.toList) := congrFun (congrFun (PySem.W.dataLe_str (fun z : Str => z)) x) y
theorem str_ext {x y : Str} (h : x.cps.toList = y.cps.toList) : x = y := by
  cases x with
  | mk a => cases y with
    | mk b => congr 1; exact Array.toList_inj.mp h
theorem eqv_strb (a b : Str) : PyData.eqv (.str a) (.str b) = decide (a = b) := eqv_str a b
theorem pLe_antisymm {p q : Str × Str} (h1 : pLe p q = true) (h2 : pLe q p = true) : p = q := by
  obtain ⟨p1, p2⟩ := p
  obtain ⟨q1, q2⟩ := q
  unfold pLe at h1 h2
  rw [dl_lt] at h1 h2
  unfold dPl at h1 h2
  rw [PySem.W.dataLt_pair (by simp [alike]) (by simp [alike]), eqv_strb, eqv_strb] at h1 h2
  by_cases e1 : p1 = q1
  · by_cases e2 : p2 = q2
    · rw [e1, e2]
    · exfalso
      simp only [e1, decide_true, if_true, e2, Ne.symm e2, decide_false, Bool.false_eq_true, if_false] at h1 h2
      have a1 := of_decide_eq_true ((lt_str p2 q2).symm.trans h1)
      have a2 := of_decide_eq_true ((lt_str q2 p2).symm.trans h2)
      exact e2 (str_ext (List.le_antisymm a1 a2))
  · exfalso
    simp only [e1, Ne.symm e1, decide_false, Bool.false_eq_true, if_false] at h1 h2
    have a1 := of_decide_eq_true ((lt_str p1 q1).symm.trans h1)
    have a2 := of_decide_eq_true ((lt_str q1 p1).symm.trans h2)
    exact e1 (str_ext (List.le_antisymm a1 a2))
theorem aLe_pLe {a b : AZ} (h : aLe a b = true) : pLe a.2.2.1 b.2.2.1 = true := by
  unfold aLe at h
  unfold pLe
  rw [dl_lt] at h ⊢
  unfold dAn at h
  rw [PySem.W.dataLt_pair (by simp [dPl, alike, PySem.W.alikeAll]) (by simp [alike])] at h
  by_cases e : PyData.eqv (dPl b.2.2.1) (dPl a.2.2.1) = true
  · rw [eqv_pl, decide_eq_true_eq] at e
    rw [e, ← dl_lt]
    exact (dl_total dPl _ _).elim id id
  · rw [if_neg e] at h
    exact h
/-- the places that stand, by the sorted answers, are the sorted places that stand -/
theorem stand_sort (zs : List AZ) : ((zs.filter fun z => z.2.2.2).map fun z => z.2.2.1).mergeSort pLe = ((aSort zs).filter fun z => z.2.2.2).map fun z => z.2.2.1 := by
  have pm : (((zs.filter fun z => z.2.2.2).map fun z => z.2.2.1).mergeSort pLe).Perm (((aSort zs).filter fun z => z.2.2.2).map fun z => z.2.2.1) :=
    (List.mergeSort_perm _ _).trans (((aSort_perm zs).symm.filter _).map _)
  refine pm.eq_of_pairwise (fun a b _ _ h1 h2 => pLe_antisymm h1 h2) (dl_pw dPl _) ?_
  refine List.Pairwise.map _ (fun a b h => h) ?_
  exact ((dl_pw (fun z : AZ => dAn z.2.2) zs).filter _).imp fun h => aLe_pLe h
/-- two lists of answers with the same sorted data have the same members -/
theorem dsA_mem {zs ws : List AZ} (h : dsA zs = dsA ws) (d : Dn) : d ∈ zs.map (·.2.2) ↔ d ∈ ws.map (·.2.2) := by
  rw [← ((aSort_perm zs).map (·.2.2)).mem_iff, ← ((aSort_perm ws).map (·.2.2)).mem_iff]
  show d ∈ dsA zs ↔ d ∈ dsA ws
  rw [h]
theorem aLe_antisymm {a b : AZ} (h1 : aLe a b = true) (h2 : aLe b a = true) (hk : a.2.2.1 = b.2.2.1 → a.2.2 = b.2.2) : a.2.2 = b.2.2 := hk (pLe_antisymm (aLe_pLe h1) (aLe_pLe h2))
/-- a shuffled list of answers has the same sorted data -/
theorem dsA_perm {zs ws : List AZ} (nd : (keysA zs).Nodup) (h : zs.Perm ws) : dsA zs = dsA ws := by
  unfold dsA
  have pm : ((aSort zs).map (·.2.2)).Perm ((aSort ws).map (·.2.2)) := (((aSort_perm zs).trans h).trans (aSort_perm ws).symm).map _
  have m1 : (aSort zs).Pairwise fun a b => aLe a b = true := dl_pw (fun z : AZ => dAn z.2.2) zs
  have m2 : (aSort ws).Pairwise fun a b => aLe a b = true := dl_pw (fun z : AZ => dAn z.2.2) ws
  refine pm.eq_of_pairwise (le := fun d e : Dn => dataLe false dAn d e = true) (fun d e hd he h1 h2 => ?_) (List.Pairwise.map _ (fun a b h => h) m1) (List.Pairwise.map _ (fun a b h => h) m2)
  obtain ⟨y, my, rfl⟩ := List.mem_map.mp hd
  obtain ⟨z, mz, rfl⟩ := List.mem_map.mp he
  have my' := (aSort_perm zs).mem_iff.mp my
  have mz' := h.mem_iff.mpr ((aSort_perm ws).mem_iff.mp mz)
  refine aLe_antisymm (a := y) (b := z) h1 h2 fun e => ?_
  rw [key_inj nd my' mz' e]
end Bt
namespace Bt
open PySem PySem.Spec PyProof.Rows L2 LamX NdefX
open PySem.W (dataLt dataLe alike AllAlike Sortable)
theorem words82_ : True := by
  k_with "s_A7k" => first
    | ((with_reducible refine' s_var ?hv ?_); (case hv => exact rfl))
    | with_reducible first
      | refine' s_c ?_ | refine' s_op ?_ | refine' s_asg ?_ | refine' s_gname ?_ | refine' s_seq ?_ | refine' s_next ?_ | refine' s_ret ?_ | refine' s_ifS ?_ | refine' s_drop ?_ | refine' s_retN ?_ | refine' s_test ?_ | refine' s_B ?_ | refine' q_test ?_ | refine' s_int ?_ | refine' s_cons ?_ | refine' s_nil ?_ | refine' s_call ?_ | refine' s_CB ?_ | refine' s_andT ?_ | refine' s_orT ?_ | refine' s_notT ?_ | refine' s_andV ?_ | refine' s_orV ?_ | refine' s_notV ?_ | refine' s_ifV ?_ | refine' s_chain ?_ | refine' s_sl ?_ | refine' s_noPart ?_ | refine' s_part ?_ | refine' s_gsub ?_ | refine' s_BM ?_ | refine' s_tup ?_ | refine' s_lst ?_ | refine' q_add ?_ | refine' q_sub ?_ | refine' q_lt ?_ | refine' q_le ?_ | refine' q_gt ?_ | refine' q_ge ?_ | refine' s_ifT ?_ | refine' s_ifF ?_ | refine' s_yes ?_ | refine' s_iStr ?_ | refine' s_M0 ?_ | refine' s_for ?_ | refine' s_rng1 ?_ | refine' s_par ?_ | refine' s_gcons ?_ | refine' s_gnil ?_ | refine' s_iList ?_ | refine' s_iEnum ?_ | refine' s_raise1 ?_
      | (refine' q_mod ?hm ?_; (case hm => first | omega | decide))
    | dsimp only
  k_with "r_A7k" => repeat (k_extra "s_A7k")
  trivial
/-! ### _law_told -/
theorem s_meth {C : Addr} {m : Str} {sp : Sp} {dvs : List V} {E : XK} {ta : TE} {t : TA} {σ : L2.St} {H : Hp} {Q : VK} (h : ta σ H fun x H1 => ∃ a dx fs, x = .ref a ∧ H1 a = some (.ins C dx fs) ∧ fs.lookup m = none ∧ t σ H1 fun vs H2 => sp (x :: (vs ++ dvs)) H2 Q E) : tMeth C m sp dvs E ta t σ H Q := h
theorem Pls.pairs {H : Hp} {xs : List V} {ps : List (Str × Str)} (h : Pls H xs ps) : ∃ zs : List (V × (Str × Str)), zs.map (·.1) = xs ∧ zs.map (·.2) = ps ∧ ∀ z ∈ zs, PlAt H z.1 z.2 := by
  induction h with
  | nil => exact ⟨[], rfl, rfl, fun _ h => absurd h List.not_mem_nil⟩
  | cons h _ ih =>
    obtain ⟨zs, rfl, rfl, k⟩ := ih
    exact ⟨(_, _) :: zs, rfl, rfl, fun z m => by
      rcases List.mem_cons.mp m with rfl | m
      · exact h
      · exact k z m⟩
theorem Pls.of {H : Hp} : ∀ {zs : List (V × (Str × Str))}, (∀ z ∈ zs, PlAt H z.1 z.2) → Pls H (zs.map (·.1)) (zs.map (·.2))
  | [], _ => .nil
  | z :: zs, h => .cons (h z List.mem_cons_self) (Pls.of fun y m => h y (List.mem_cons_of_mem _ m))
theorem PlAt.dp {K : PySem.W.Frag} {H : Hp} {x : V} {q : Str × Str} : PlAt H x q → Dp K H x (dPl q) := fun ⟨a, e, h⟩ => by
  subst e
  exact dp_pl h
theorem q_sortP {K : PySem.W.Frag} {H : Hp} {Q : VK} {a : Addr} {xs : List V} {ps : List (Str × Str)} (h : SqL K H a xs) (hp : Pls H xs ps)
    (q : ∀ p H' ys, H p = none → Same H H' → H' p = some (.lst ys) → Pls H' ys (ps.mergeSort pLe) → Q (.ref p) H') : rSortD K [.ref a] H Q := by
  obtain ⟨zs, rfl, rfl, k⟩ := hp.pairs
  refine q_sortD (zs.map fun z => (z.1, dPl z.2)) (by rw [List.map_map]; exact h) (fun z hz => ?_) ?_ ?_ fun p H' np S hp' => ?_
  · obtain ⟨y, my, rfl⟩ := List.mem_map.mp hz
    exact ⟨(k y my).dp, by simp [dPl, PyData.depth, PyData.depthAll]⟩
  · rw [List.map_map]
    exact AllAlike.of fun b b' => by simp [dPl, alike, PySem.W.alikeAll]
  · rw [List.map_map]
    exact Sortable.tuples fun b => ⟨_, _, rfl⟩
  · have m1 : (zs.map fun z => (z.1, dPl z.2)).mergeSort prLe = (zs.mergeSort (dataLe false fun z : V × (Str × Str) => dPl z.2)).map fun z => (z.1, dPl z.2) :=
      (List.map_mergeSort (f := fun z : V × (Str × Str) => ((z.1, dPl z.2) : V × PyData)) (r := dataLe false fun z : V × (Str × Str) => dPl z.2) (s := prLe) fun _ _ _ _ => rfl).symm
    have m2 : (zs.mergeSort (dataLe false fun z : V × (Str × Str) => dPl z.2)).map (·.2) = (zs.map (·.2)).mergeSort pLe :=
      List.map_mergeSort (f := fun z : V × (Str × Str) => z.2) (r := dataLe false fun z : V × (Str × Str) => dPl z.2) (s := pLe) fun _ _ _ _ => rfl
    rw [m1, List.map_map] at hp'
    refine q p H' _ np S hp' ?_
    rw [← m2]
    exact Pls.of fun z mz => (k z (List.mem_mergeSort.mp mz)).mono S
theorem canLay_pls : ∀ {ps : List (Str × Str)}, (∀ q ∈ ps, Nm q.1 ∧ Nm q.2) → PyData.canLayAll0 (ps.map dPl) = true
  | [], _ => by simp [PyData.canLayAll0]
  | q :: ps, h => by
    have z1 : PyData.strOk q.1 = true := (h q List.mem_cons_self).1.asc.ok
    have z2 : PyData.strOk q.2 = true := (h q List.mem_cons_self).2.asc.ok
    simp only [List.map_cons, PyData.canLayAll0, canLay_pls fun z hz => h z (List.mem_cons_of_mem _ hz), Bool.and_true, dPl, PyData.canLay0, z1, z2]
theorem depth_pls : ∀ (ps : List (Str × Str)), PyData.depthAll (ps.map dPl) ≤ 5
  | [] => by simp [PyData.depthAll]
  | q :: ps => by
    have := depth_pls ps
    simp only [List.map_cons, PyData.depthAll, dPl, PyData.depth]
    omega
def dPs (ps : List (Str × Str)) : PyData := .list (ps.map dPl)
theorem sh_pls {ps : List (Str × Str)} (h : ∀ q ∈ ps, Nm q.1 ∧ Nm q.2) : SeqAt.shaped (dPs ps) = true := by
  unfold SeqAt.shaped dPs
  rw [Bool.and_eq_true, decide_eq_true_eq]
  have := depth_pls ps
  refine ⟨by simp only [PyData.canLay0]; exact canLay_pls h, ?_⟩
  simp only [PyData.depth]
  omega
theorem Pls.dps {K : PySem.W.Frag} {H : Hp} {xs : List V} {ps : List (Str × Str)} (h : Pls H xs ps) : DpAll K H xs (ps.map dPl) := by
  induction h with
  | nil => exact .nil
  | cons h _ ih => exact .cons h.dp ih
structure TxtK7 (K : PySem.W.Frag) (mg : Str → Option Value) (CA CLk CPc : Addr) : Prop where
  d_told : Df K mg "_law_told" s__law_told ["_law_ask", "_law_answers"]
  gL : mg "Look" = some (.ref CLk)
  gP : mg "Piece" = some (.ref CPc)
  kL : PySem.W.kitOne K (.ref CA) (.ref CLk) = some true
  kP : PySem.W.kitOne K (.ref CA) (.ref CPc) = some false
section
variable {P : Program} {w : World} {K : PySem.W.Frag} {mg : Str → Option Value} {base : Heap} {CA CL CLk CPc : Addr}
def spTold (CA : Addr) : Sp := fun vs H Q _ => ∃ x a zs, vs = [.ref x, .ref a] ∧ AskAt CA H x zs ∧ (keysA zs).Nodup ∧ NmA (zs.map (·.2.2)) ∧ zs.length < 60 ∧ H a = some (.lst (zs.map fun z : AZ => V.ref z.1)) ∧ AnsH H zs ∧ ∀ H', Same H H' → Q (.bl true) H'
theorem ok__law_told (T : Txt K mg) (TS : TxtS K mg) (AC : AskC K mg CA) (AP : AskP K CA) (K7 : TxtK7 K mg CA CLk CPc) : Cal P w K mg base 5 "_law_told" (spTold CA) := by
  obtain ⟨fs, fds, s1, Fs, sb⟩ := AP.std
  refine K7.d_told.cal sc__law_told (fun vs H Q E h => ?_) (fun fn cdv A outer s H vs Q E hr h => ?_)
  · obtain ⟨x, a, zs, rfl, _⟩ := h
    rfl
  · obtain ⟨x, a, zs, rfl, hx, nd, nm, hz, ha, an, k⟩ := h
    have hu := hr.units
    refine ⟨_, (pss_cons (ps_set (i := 2) sc__law_told.nd rfl (.inl rfl) (pe_answers TS AC AP hr (by decide) (pv 0)))
      (pss_cons (ps_if (PW.pt (pw_or (pt_not (pt_val (pe_callB call_isi (by rfl) T.n_isinstance (by decide +kernel) (pa_cons (pv 2) (pa_cons (pe_bltn (v := .ty "list") (by rfl) TS.n_list (by decide +kernel) rfl) pa_nil))))) (pw_or (pt_cmpR (op_neU hu) (pv 2) (pe_callB (cr_sortD hu) (by rfl) T.n_sorted (by decide +kernel) (pa_cons (pv 1) pa_nil)) (by rfl)) (pw_or (pt_not (pt_val (pe_callB call_isi (by rfl) T.n_isinstance (by decide +kernel) (pa_cons (pv 0) (pa_cons (pe_glob (v := .ref CLk) (by rfl) K7.gL rfl) pa_nil))))) (pw_or1 (pt_val (pe_callB call_isi (by rfl) T.n_isinstance (by decide +kernel) (pa_cons (pv 0) (pa_cons (pe_glob (v := .ref CPc) (by rfl) K7.gP rfl) pa_nil))))))))) (pss_one (ps_ret pe_bl)) pss_nil)
      (pss_cons (ps_expr (pe_bm PySem.F.plainAttrs_list PySem.F.slot_list_append PySem.F.type_list_append mt_append (pv 2) (pa_cons pe_int pa_nil)))
      (C8.pss_cut (ps_if (PW.pt (pw_or (pt_cmpR (op_neU hu) (pe_answers TS AC AP hr (by decide) (pv 0)) (pe_callB (cr_sortD hu) (by rfl) T.n_sorted (by decide +kernel) (pa_cons (pv 1) pa_nil)) (by rfl)) (pw_or1 (pt_cmpR (op_neU hu) (pe_lc (own := [("_law_one", 4), ("_law_stands", 5)]) (g := gTup K 2 (gCons (gName 4) (gCons (gName 5) gNil))) (tt := tNot (tB (tCB (rIsi K) (tCons (tVar 5) (tCons (tC (.ty "bool")) tNil))))) (te := tVar 4) rfl sc__law_told.nd (pi_list (pe_answers TS AC AP hr (by decide) (pv 0))) (blkOk_by (own := [("_law_one", 4), ("_law_stands", 5)]) (N := ["_law_ask", "_law_answers", "_law_told_here", "_law_due", "_law_one", "_law_stands"]) (sc := defScope s__law_told) (by decide +kernel)) (fun _ _ _ _ _ => pg_tup (by rfl) (pgs_cons (pg_name (i := 4) sc__law_told.nd rfl (Or.inl rfl)) (pgs_cons (pg_name (i := 5) sc__law_told.nd rfl (Or.inl rfl)) pgs_nil))) (fun _ _ _ _ _ => by exact pts_one (pt_not (pt_val (pe_callB call_isi (by rfl) T.n_isinstance (by decide +kernel) (pa_cons (pv 5) (pa_cons (pe_bltn (v := .ty "bool") (by rfl) T.n_bool (by decide +kernel) rfl) pa_nil)))))) (fun _ _ _ _ _ => by exact pv 4)) (pe_lst pa_nil) (by rfl))))) (pss_one (ps_ret pe_bl)) pss_nil)
      (pss_cons (ps_par (i := 2) (j := 3) (by rfl) sc__law_told.nd rfl rfl (by decide) rfl rfl (pa_cons (pe_meth0 (pv 0) AC.cl s1 (ok_ask_standing AC Fs) (hr.mono (by decide)) sb .nil pass0) (pa_cons (pe_callB (cr_sortD hu) (by rfl) T.n_sorted (by decide +kernel) (pa_cons (pe_lc (own := [("_law_one", 4), ("_law_stands", 5)]) (g := gTup K 2 (gCons (gName 4) (gCons (gName 5) gNil))) (tt := tB (tVar 5)) (te := tVar 4) rfl sc__law_told.nd (pi_list (pv 1)) (blkOk_by (own := [("_law_one", 4), ("_law_stands", 5)]) (N := ["_law_ask", "_law_answers", "_law_told_here", "_law_due", "_law_one", "_law_stands"]) (sc := defScope s__law_told) (by decide +kernel)) (fun _ _ _ _ _ => pg_tup (by rfl) (pgs_cons (pg_name (i := 4) sc__law_told.nd rfl (Or.inl rfl)) (pgs_cons (pg_name (i := 5) sc__law_told.nd rfl (Or.inl rfl)) pgs_nil))) (fun _ _ _ _ _ => by exact pts_one (pt_val (pv 5))) (fun _ _ _ _ _ => by exact pv 4)) pa_nil)) pa_nil)) (by rfl))
      (pss_cons (ps_if (PW.pt (pw_or (pt_not (pt_val (pe_callB call_isi (by rfl) T.n_isinstance (by decide +kernel) (pa_cons (pv 2) (pa_cons (pe_bltn (v := .ty "list") (by rfl) TS.n_list (by decide +kernel) rfl) pa_nil))))) (pw_or1 (pt_cmpR (op_neU hu) (pv 2) (pv 3) (by rfl))))) (pss_one (ps_ret pe_bl)) pss_nil)
      (pss_cons (ps_expr (pe_bm PySem.F.plainAttrs_list PySem.F.slot_list_append PySem.F.type_list_append mt_append (pv 2) (pa_cons pe_int pa_nil)))
      (pss_one (ps_ret (pe_cmpR (op_eqU hu) (pe_meth0 (pv 0) AC.cl s1 (ok_ask_standing AC Fs) (hr.mono (by decide)) sb .nil pass0) (pv 3) (by rfl))))))))))), ?_⟩
    k_extra "r_A7k"
    refine s_prop ?_
    k_extra "r_A7k"
    refine q_answers hx fun D H1 ws nD S1 hD aw ew => ?_
    k_extra "r_A7k"
    refine q_isi (Pl.lst hD) .lst ?_
    refine q_test (s_if0 rfl ?_)
    k_extra "r_A7k"
    refine q_sortA (SqL.of (S1 _ _ ha)) (an.mono S1) fun p H2 np S2 hp => ?_
    have same : ∀ {H' : Hp} {Q' : VK} {D p : Addr} {ws : List AZ}, H' D = some (.lst (ws.map fun z : AZ => V.ref z.1)) → AnsH H' ws → ws.map (·.2.2) = dsA zs → H' p = some (.lst ((aSort zs).map fun z => V.ref z.1)) → AnsH H' (aSort zs) → Q' (.bl false) H' → rNeU K (.ref D) (.ref p) H' Q' := fun hD aw ew hp as q => by
      refine q_neD (aw.dp hD) (as.dp hp) (by rw [ew]; exact sh_as (dsA_nm nm)) (sh_as (dsA_nm nm)) ?_
      rw [ew, eqv_as, decide_eq_true (show dsA zs = (aSort zs).map (·.2.2) from rfl)]
      exact q
    have T2 := S1.trans S2
    refine same (S2 _ _ hD) (aw.mono S2) ew hp (an.mono T2).sort ?_
    refine q_test (s_if0 rfl ?_)
    obtain ⟨dx, d, g1, g2⟩ := hx.mono T2
    k_extra "r_A7k"
    refine ⟨.ref x, .ref CLk, .ref CA, .ref CLk, true, rfl, .own CLk, .base (.ins g1 AC.cl AC.i1 AC.i2 AC.i3 AC.i4), K7.kL, ?_⟩
    refine q_test (s_if0 rfl ?_)
    k_extra "r_A7k"
    refine ⟨.ref x, .ref CPc, .ref CA, .ref CPc, false, rfl, .own CPc, .base (.ins g1 AC.cl AC.i1 AC.i2 AC.i3 AC.i4), K7.kP, ?_⟩
    refine q_test (s_if0 rfl ?_)
    k_extra "r_A7k"
    refine ⟨.inl ⟨rfl, _, SqL.of (S2 _ _ hD)⟩, ?_⟩
    k_extra "r_A7k"
    refine q_append (S2 _ _ hD) (szlt (by
      have := congrArg List.length ew
      unfold dsA at this
      rw [List.length_map, List.length_map, (aSort_perm zs).length_eq] at this
      rw [List.length_map]
      omega)) fun H3 b3 h3 => ?_
    have T3 : Same H H3 := same_but T2 nD b3
    clear h3 b3 g1 g2 hp np S2 aw ew hD S1 T2
    k_extra "r_A7k"
    have lenW : ∀ {ws : List AZ}, ws.map (·.2.2) = dsA zs → ws.length < 60 := fun ew => by
      have := congrArg List.length ew
      unfold dsA at this
      rw [List.length_map, List.length_map, (aSort_perm zs).length_eq] at this
      omega
    refine q_cut8 (M := fun σ H' => σ = [some (.ref x), some (.ref a), some (.ref D), none, none, none] ∧ Same H H') ?_ ?_
    · k_extra "r_A7k"
      refine s_prop ?_
      k_extra "r_A7k"
      refine q_answers (hx.mono T3) fun D4 H4 w4 n4 S4 h4 a4 e4 => ?_
      k_extra "r_A7k"
      have T4 := T3.trans S4
      refine q_sortA (SqL.of (T4 _ _ ha)) (an.mono T4) fun p5 H5 n5 S5 h5 => ?_
      have T5 := T4.trans S5
      refine same (S5 _ _ h4) (a4.mono S5) e4 h5 (an.mono T5).sort ?_
      refine q_test (s_if0 rfl ?_)
      k_extra "r_A7k"
      refine s_lc ?_
      k_extra "r_A7k"
      refine s_prop ?_
      k_extra "r_A7k"
      refine q_answers (hx.mono T5) fun D6 H6 w6 n6 S6 h6 a6 e6 => ?_
      have T6 := T5.trans S6
      refine ⟨D6, rfl, ⟨_, SqL.of h6⟩, fun L nL => lc_list (K := K) (a := D6) (xs := w6.map fun z => V.ref z.1) (fun i H' => Same H6 H' ∧ H' L = some (.lst [])) ⟨Same.new nL, upd_same⟩ (fun i H' _ h => SqL.of (h.1 _ _ h6)) ?_ ?_⟩
      · rintro i y H7 hy ⟨S7, h7⟩
        rw [List.getElem?_map] at hy
        obtain ⟨z, hz', rfl⟩ := Option.map_eq_some_iff.mp hy
        obtain ⟨p1, p2⟩ := (a6.mono S7) z (List.mem_of_getElem? hz')
        refine q_gtup (SqT.of p1) rfl ?_
        k_extra "r_A7k"
        refine ⟨rfl, ?_⟩
        k_extra "r_A7k"
        refine q_isi Pl.bl .bl ?_
        refine ⟨_, rfl, ?_⟩
        exact ⟨S7, h7⟩
      · rintro H7 ⟨S7, h7⟩
        k_extra "r_A7k"
        refine q_newL (by show 0 ≤ sizeLine; decide) fun p8 H8 n8 S8 h8 => ?_
        have sh0 : SeqAt.shaped (dAs []) = true := sh_as (fun d hd => nomatch hd)
        refine q_neD (d := dAs []) (e := dAs []) (.lst (SqL.of (S8 _ _ h7)) .nil) (.lst (SqL.of h8) .nil) sh0 sh0 ?_
        rw [eqv_as]
        refine q_test (s_if0 (by simp) ?_)
        k_extra "r_A7k"
        exact ⟨rfl, T6.trans (S7.trans S8)⟩
    clear T3
    rintro σ H3 ⟨rfl, T3⟩
    k_extra "r_A7k"
    refine s_meth ?_
    k_extra "r_A7k"
    obtain ⟨dx, d, g1, g2⟩ := hx.mono T3
    refine ⟨x, dx, _, rfl, g1, stF_nos, ?_⟩
    k_extra "r_A7k"
    refine ⟨x, zs, rfl, ⟨dx, d, g1, g2⟩, by omega, fun D4 H4 xs4 n4 S4 h4 p4 => ?_⟩
    k_extra "r_A7k"
    refine s_lc ?_
    k_extra "r_A7k"
    have T4 := T3.trans S4
    have nmP : ∀ q ∈ ((aSort zs).filter fun z => z.2.2.2).map fun z => z.2.2.1, Nm q.1 ∧ Nm q.2 := fun q hq => by
      obtain ⟨z, mz, rfl⟩ := List.mem_map.mp hq
      exact nm z.2.2 (List.mem_map.mpr ⟨z, (aSort_perm zs).mem_iff.mp (List.mem_filter.mp mz).1, rfl⟩)
    refine ⟨a, rfl, ⟨_, SqL.of (T4 _ _ ha)⟩, fun L nL => lc_list (K := K) (a := a) (xs := zs.map fun z => V.ref z.1) (fun i H' => Same H4 H' ∧ ∃ ys, H' L = some (.lst ys) ∧ Pls H' ys (((zs.take i).filter fun z => z.2.2.2).map fun z => z.2.2.1) ∧ ys.length ≤ i) ⟨Same.new nL, [], upd_same, .nil, Nat.le_refl _⟩ (fun i H' _ h => SqL.of (h.1 _ _ (T4 _ _ ha))) ?_ ?_⟩
    · rintro i y H7 hy ⟨S7, ys, h7, p7, l7⟩
      rw [List.getElem?_map] at hy
      obtain ⟨z, hz', rfl⟩ := Option.map_eq_some_iff.mp hy
      have lt := (List.getElem?_eq_some_iff.mp hz').1
      obtain ⟨q1, q2⟩ := (an.mono (T4.trans S7)) z (List.mem_of_getElem? hz')
      refine q_gtup (SqT.of q1) rfl ?_
      k_extra "r_A7k"
      refine ⟨rfl, ?_⟩
      k_extra "r_A7k"
      rw [List.take_add_one, hz', List.filter_append, List.map_append]
      obtain ⟨t, kb, q, bb⟩ := z
      cases bb with
      | true =>
        rw [if_pos rfl]
        k_extra "r_A7k"
        have imp : ∀ a' us, H7 a' = some (.tup us) → upd H7 L (.lst (ys ++ [.ref kb])) a' = some (.tup us) := fun a' us e => by
          rw [upd_ne (fun z => by rw [z, h7] at e; cases e)]
          exact e
        exact ⟨ys, h7, szlt (by omega), same_mut S7 nL, _, upd_same, (p7.imp imp).snoc ⟨kb, rfl, imp _ _ q2⟩, by simp; omega⟩
      | false =>
        rw [if_neg (by simp)]
        refine ⟨S7, ys, h7, ?_, by omega⟩
        simpa using p7
    · rintro H7 ⟨S7, ys, h7, p7, l7⟩
      rw [List.take_of_length_le (by simp)] at p7
      k_extra "r_A7k"
      refine q_sortP (SqL.of h7) p7 fun D8 H8 xs8 n8 S8 h8 p8 => ?_
      rw [stand_sort] at p8
      have T8 := S7.trans S8
      k_extra "r_A7k"
      refine ⟨_, _, rfl, ?_⟩
      k_extra "r_A7k"
      have h48 := T8 _ _ h4
      refine q_isi (Pl.lst h48) .lst ?_
      refine q_test (s_if0 rfl ?_)
      k_extra "r_A7k"
      refine q_neD (d := dPs _) (e := dPs _) (.lst (SqL.of h48) (p4.mono T8).dps) (.lst (SqL.of h8) p8.dps) (sh_pls nmP) (sh_pls nmP) ?_
      rw [SeqAt.eqv_refl _ (SeqAt.canLay_of_shaped (sh_pls nmP))]
      refine q_test (s_if0 rfl ?_)
      k_extra "r_A7k"
      refine ⟨.inl ⟨rfl, _, SqL.of h48⟩, ?_⟩
      k_extra "r_A7k"
      have l4 : xs4.length ≤ zs.length := by
        rw [p4.len, List.length_map]
        exact Nat.le_trans (List.length_filter_le _ _) (by rw [(aSort_perm zs).length_eq]; exact Nat.le_refl _)
      refine q_append h48 (szlt (by omega)) fun H9 b9 h9 => ?_
      have n4' : H D4 = none := T3.free n4
      have T9 : Same H H9 := same_but (T4.trans T8) n4' b9
      have n84 : D8 ≠ D4 := fun z => by rw [z, S7 _ _ h4] at n8; cases n8
      have h89 := b9 _ _ n84 h8
      have p89 : Pls H9 xs8 _ := p8.imp fun a' us e => b9 _ _ (fun z => by rw [z, h48] at e; cases e) e
      k_extra "r_A7k"
      refine s_meth ?_
      k_extra "r_A7k"
      obtain ⟨dx9, d9, g3, g4⟩ := hx.mono T9
      refine ⟨x, dx9, _, rfl, g3, stF_nos, ?_⟩
      k_extra "r_A7k"
      refine ⟨x, zs, rfl, ⟨dx9, d9, g3, g4⟩, by omega, fun DA HA xsA nA SA hA pA => ?_⟩
      k_extra "r_A7k"
      refine q_eqD (d := dPs _) (e := dPs _) (.lst (SqL.of hA) pA.dps) (.lst (SqL.of (SA _ _ h89)) (p89.mono SA).dps) (sh_pls nmP) (sh_pls nmP) ?_
      rw [SeqAt.eqv_refl _ (SeqAt.canLay_of_shaped (sh_pls nmP))]
      exact k _ (T9.trans SA)
end
end Bt
namespace Bt
open PySem PySem.Spec PyProof.Rows L2 LamX NdefX
open PySem.W (dataLt dataLe alike AllAlike Sortable)
theorem words83_ : True := by
  k_with "s_A7l" => first
    | ((with_reducible refine' s_var ?hv ?_); (case hv => exact rfl))
    | with_reducible first
      | refine' s_c ?_ | refine' s_op ?_ | refine' s_asg ?_ | refine' s_gname ?_ | refine' s_seq ?_ | refine' s_next ?_ | refine' s_ret ?_ | refine' s_ifS ?_ | refine' s_drop ?_ | refine' s_retN ?_ | refine' s_test ?_ | refine' s_B ?_ | refine' q_test ?_ | refine' s_int ?_ | refine' s_cons ?_ | refine' s_nil ?_ | refine' s_call ?_ | refine' s_CB ?_ | refine' s_andT ?_ | refine' s_orT ?_ | refine' s_notT ?_ | refine' s_andV ?_ | refine' s_orV ?_ | refine' s_notV ?_ | refine' s_ifV ?_ | refine' s_chain ?_ | refine' s_sl ?_ | refine' s_noPart ?_ | refine' s_part ?_ | refine' s_gsub ?_ | refine' s_BM ?_ | refine' s_tup ?_ | refine' s_lst ?_ | refine' q_add ?_ | refine' q_sub ?_ | refine' q_lt ?_ | refine' q_le ?_ | refine' q_gt ?_ | refine' q_ge ?_ | refine' s_ifT ?_ | refine' s_ifF ?_ | refine' s_yes ?_ | refine' s_iStr ?_ | refine' s_M0 ?_ | refine' s_for ?_ | refine' s_rng1 ?_ | refine' s_par ?_ | refine' s_gcons ?_ | refine' s_gnil ?_ | refine' s_iList ?_ | refine' s_iEnum ?_ | refine' s_raise1 ?_
      | (refine' q_mod ?hm ?_; (case hm => first | omega | decide))
    | dsimp only
  k_with "r_A7l" => repeat (k_extra "s_A7l")
  trivial
/-! ### _law_bad: the bad items -/
def Bad1 (K : PySem.W.Frag) (H : Hp) (zs : List AZ) (y : V) : Prop := AnK K H y false ∧ SelfV K H y ∧ ∀ z ∈ zs, y ≠ .ref z.1
def BadL (K : PySem.W.Frag) (H : Hp) (zs : List AZ) (ys : List V) : Prop := ∀ y ∈ ys, Bad1 K H zs y
section
variable {K : PySem.W.Frag} {H H' : Hp} {zs : List AZ}
theorem BadL.nil : BadL K H zs [] := fun _ h => nomatch h
theorem BadL.mono {ys : List V} (S : Same H H') (h : BadL K H zs ys) : BadL K H' zs ys := fun y m => ⟨(h y m).1.mono S, (h y m).2.1.mono S, (h y m).2.2⟩
theorem BadL.snoc {ys : List V} {y : V} (h : BadL K H zs ys) (b : Bad1 K H zs y) : BadL K H zs (ys ++ [y]) := fun x m => by
  rcases List.mem_append.mp m with m | m
  · exact h x m
  · rw [List.mem_singleton.mp m]
    exact b
theorem BadL.app {ys us : List V} (h : BadL K H zs ys) (b : BadL K H zs us) : BadL K H zs (ys ++ us) := fun x m => (List.mem_append.mp m).elim (h x) (b x)
theorem ng {t : Addr} (an : AnsH H zs) (n : H t = none) : ∀ z ∈ zs, V.ref t ≠ .ref z.1 := fun z m e => by
  injection e with e
  rw [e, (an z m).1] at n
  cases n
theorem bad_no {T : String} {v : V} (h : Pl K H v T) (n : T ≠ "tuple") (nt : NoTup H v) (s : SelfV K H v) (g : ∀ z ∈ zs, v ≠ .ref z.1) : Bad1 K H zs v := ⟨.no h n, s, g⟩
theorem noTup_flat {v : V} (h : ∀ a, v ≠ .ref a) : NoTup H v := fun a e => absurd e (h a)
theorem noTup_lst {a : Addr} {xs : List V} (h : H a = some (.lst xs)) : NoTup H (.ref a) := fun b e => by
  injection e with e
  subst e
  exact ⟨_, h, fun _ z => nomatch z⟩
theorem bad_len {t : Addr} {xs : List V} (h : H t = some (.tup xs)) (n : xs.length ≠ 2) (g : ∀ z ∈ zs, V.ref t ≠ .ref z.1) : Bad1 K H zs (.ref t) := ⟨.len rfl (Pl.tup h) h n, .ref t, g⟩
/-- (u, v) with u no place -/
theorem bad_u {t : Addr} {u v : V} {T : String} (h : H t = some (.tup [u, v])) (p : PlK K H u false) (hv : Pl K H v T) (g : ∀ z ∈ zs, V.ref t ≠ .ref z.1) : Bad1 K H zs (.ref t) := ⟨.two rfl (Pl.tup h) h p hv, .ref t, g⟩
/-- (u, v) with v no Boolean -/
theorem bad_v {t : Addr} {u v : V} {b : Bool} {T : String} (h : H t = some (.tup [u, v])) (p : PlK K H u b) (hv : Pl K H v T) (nb : subKd T "bool" = false) (g : ∀ z ∈ zs, V.ref t ≠ .ref z.1) : Bad1 K H zs (.ref t) := by
  have := AnK.two (x := .ref t) rfl (Pl.tup h) h p hv
  rw [nb, Bool.and_false] at this
  exact ⟨this, .ref t, g⟩
theorem plk_flat {T : String} {u : V} (h : Pl K H u T) (n : T ≠ "tuple") (f : ∀ a, u ≠ .ref a) : PlK K H u false := .no h n (noTup_flat f)
theorem plk_len {a : Addr} {ys : List V} (h : H a = some (.tup ys)) (hy : ∀ y ∈ ys, NameArg K H y) (n : ys.length ≠ 2) : PlK K H (.ref a) false :=
  .tup rfl (Pl.tup h) h hy ⟨(fun z => by cases z), fun ⟨b, u, v, e, h', _⟩ => by
    injection e with e
    subst e
    rw [h] at h'
    cases h'
    exact absurd rfl n⟩
theorem plk_bad {a : Addr} {x y : Str} (h : H a = some (.tup [.str x, .str y])) (l1 : x.length < 64) (l2 : y.length < 64) (n : ¬ (Nm x ∧ Nm y)) : PlK K H (.ref a) false :=
  .tup rfl (Pl.tup h) h (fun u hu => by
    rcases List.mem_cons.mp hu with rfl | hu
    · exact ⟨"str", Pl.str, fun z e => by cases e; exact l1⟩
    · rw [List.mem_singleton.mp hu]
      exact ⟨"str", Pl.str, fun z e => by cases e; exact l2⟩) ⟨(fun z => by cases z), fun ⟨b, u, v, e, h', ⟨z1, e1, n1⟩, ⟨z2, e2, n2⟩⟩ => by
    injection e with e
    subst e
    rw [h] at h'
    cases h'
    cases e1
    cases e2
    exact absurd ⟨n1, n2⟩ n⟩
theorem mem_mid {u y : V} {as bs : List V} (h : u ∈ as ++ [y] ++ bs) (n : u ≠ y) : u ∈ as ++ bs := by
  rw [List.mem_append, List.mem_append, List.mem_singleton] at h
  rw [List.mem_append]
  rcases h with (h | h) | h
  · exact .inl h
  · exact absurd h n
  · exact .inr h
/-- the answers with one bad item among them are refused -/
theorem ref_bad {q : Addr} {y : V} {as bs : List V} (h : H q = some (.lst (as ++ [y] ++ bs))) (z : (as ++ [y] ++ bs).length < 60) (ga : ∀ u ∈ as ++ bs, ∃ z ∈ zs, u = .ref z.1) (an : AnsH H zs) (nm : NmA (zs.map (·.2.2))) (b : Bad1 K H zs y) : RefV K H (.ref q) := by
  refine .bad (r := fun u => !decide (u = y)) rfl h z (fun u mu => ?_) (fun u mu => ?_) (by simp)
  · by_cases e : u = y
    · subst e
      simpa using b.1
    · have : u ∈ as ++ bs := mem_mid mu e
      obtain ⟨w, mw, rfl⟩ := ga u this
      simpa [e] using an.ank nm mw
  · by_cases e : u = y
    · subst e
      exact b.2.1
    · have : u ∈ as ++ bs := mem_mid mu e
      obtain ⟨w, mw, rfl⟩ := ga u this
      exact .ref _
end
end Bt
namespace Bt
open PySem PySem.Spec PyProof.Rows L2 LamX NdefX
open PySem.W (dataLt dataLe alike AllAlike Sortable)
theorem words84_ : True := by
  k_with "s_A7m" => first
    | ((with_reducible refine' s_var ?hv ?_); (case hv => exact rfl))
    | with_reducible first
      | refine' s_c ?_ | refine' s_op ?_ | refine' s_asg ?_ | refine' s_gname ?_ | refine' s_seq ?_ | refine' s_next ?_ | refine' s_ret ?_ | refine' s_ifS ?_ | refine' s_drop ?_ | refine' s_retN ?_ | refine' s_test ?_ | refine' s_B ?_ | refine' q_test ?_ | refine' s_int ?_ | refine' s_cons ?_ | refine' s_nil ?_ | refine' s_call ?_ | refine' s_CB ?_ | refine' s_andT ?_ | refine' s_orT ?_ | refine' s_notT ?_ | refine' s_andV ?_ | refine' s_orV ?_ | refine' s_notV ?_ | refine' s_ifV ?_ | refine' s_chain ?_ | refine' s_sl ?_ | refine' s_noPart ?_ | refine' s_part ?_ | refine' s_gsub ?_ | refine' s_BM ?_ | refine' s_tup ?_ | refine' s_lst ?_ | refine' q_add ?_ | refine' q_sub ?_ | refine' q_lt ?_ | refine' q_le ?_ | refine' q_gt ?_ | refine' q_ge ?_ | refine' s_ifT ?_ | refine' s_ifF ?_ | refine' s_yes ?_ | refine' s_iStr ?_ | refine' s_M0 ?_ | refine' s_for ?_ | refine' s_rng1 ?_ | refine' s_par ?_ | refine' s_gcons ?_ | refine' s_gnil ?_ | refine' s_iList ?_ | refine' s_iEnum ?_ | refine' s_raise1 ?_
      | (refine' q_mod ?hm ?_; (case hm => first | omega | decide))
    | dsimp only
  k_with "r_A7m" => repeat (k_extra "s_A7m")
  trivial
/-! ### _law_bad -/
theorem notA : ¬ Nm "A" := fun h => absurd (h.2.2 65 (by decide)) (by decide)
/-- the heap without what stands at D -/
def wo (D : Addr) (H : Hp) : Hp := fun b => if b = D then none else H b
theorem wo_get {D b : Addr} {H : Hp} (n : b ≠ D) : wo D H b = H b := if_neg n
theorem wo_sub {D : Addr} {H : Hp} : Same (wo D H) H := fun b o e => by
  unfold wo at e
  split at e
  · cases e
  · exact e
theorem wo_same {D : Addr} {H H' : Hp} (n : H D = none) (S : Same H H') : Same H (wo D H') := fun b o e => by
  rw [wo_get (ne_of_none e n)]
  exact S b o e
theorem wo_step {D : Addr} {H H' : Hp} (S : Same H H') : Same (wo D H) (wo D H') := fun b o e => by
  by_cases z : b = D
  · rw [z] at e
    exact absurd e (by unfold wo; rw [if_pos rfl]; intro h; cases h)
  · rw [wo_get z] at e ⊢
    exact S b o e
theorem wo_upd {D : Addr} {H : Hp} {o : HO} : wo D (upd H D o) = wo D H := by
  funext b
  by_cases z : b = D
  · unfold wo
    rw [if_pos z, if_pos z]
  · rw [wo_get z, wo_get z, upd_ne z]
theorem wo_but {D : Addr} {H H' : Hp} (B : But D H H') : Same (wo D H) (wo D H') := fun b o e => by
  by_cases z : b = D
  · rw [z] at e
    exact absurd e (by unfold wo; rw [if_pos rfl]; intro h; cases h)
  · rw [wo_get z] at e ⊢
    exact B b o z e
theorem ref_dupR {K : PySem.W.Frag} {H : Hp} {zs : List AZ} {q T : Addr} {z : AZ} {c : Bool} (an : AnsH H zs) (nm : NmA (zs.map (·.2.2))) (mz : z ∈ zs) (hT : H T = some (.tup [.ref z.2.1, .bl c])) (hq : H q = some (.lst (zs.map (fun z => V.ref z.1) ++ [.ref T]))) (hz : zs.length < 30) : RefV K H (.ref q) := by
  refine .dup (zs := zs ++ [(T, z.2.1, z.2.2.1, c)]) rfl (by rw [List.map_append]; exact hq) (by simp; omega) (fun y my => ?_) (fun d hd => ?_) (fun n => ?_)
  · rcases List.mem_append.mp my with my | my
    · exact an y my
    · rw [List.mem_singleton.mp my]
      exact ⟨hT, (an z mz).2⟩
  · rw [List.map_append, List.mem_append] at hd
    rcases hd with hd | hd
    · exact nm d hd
    · simp at hd
      rw [hd]
      exact nm z.2.2 (List.mem_map.mpr ⟨z, mz, rfl⟩)
  · unfold keysA at n
    rw [List.map_append, List.nodup_append] at n
    exact n.2.2 z.2.2.1 (List.mem_map.mpr ⟨z, mz, rfl⟩) z.2.2.1 (by simp) rfl
theorem ref_dupL {K : PySem.W.Frag} {H : Hp} {zs : List AZ} {q T : Addr} {z : AZ} {c : Bool} (an : AnsH H zs) (nm : NmA (zs.map (·.2.2))) (mz : z ∈ zs) (hT : H T = some (.tup [.ref z.2.1, .bl c])) (hq : H q = some (.lst ([.ref T] ++ zs.map (fun z => V.ref z.1)))) (hz : zs.length < 30) : RefV K H (.ref q) := by
  refine .dup (zs := (T, z.2.1, z.2.2.1, c) :: zs) rfl hq (by simp; omega) (fun y my => ?_) (fun d hd => ?_) (fun n => ?_)
  · rcases List.mem_cons.mp my with rfl | my
    · exact ⟨hT, (an z mz).2⟩
    · exact an y my
  · rw [List.map_cons, List.mem_cons] at hd
    rcases hd with rfl | hd
    · exact nm z.2.2 (List.mem_map.mpr ⟨z, mz, rfl⟩)
    · exact nm d hd
  · unfold keysA at n
    rw [List.map_cons, List.nodup_cons] at n
    exact n.1 (List.mem_map.mpr ⟨z, mz, rfl⟩)
structure TxtM7 (K : PySem.W.Frag) (mg : Str → Option Value) : Prop where
  d_bad : Df K mg "_law_bad" s__law_bad ["_law_purse_here", "_law_answers", "_law_place"]
section
variable {P : Program} {w : World} {K : PySem.W.Frag} {mg : Str → Option Value} {base : Heap}
def spBad (K : PySem.W.Frag) : Sp := fun vs H Q _ => ∃ (p a b : Addr) (zs : List AZ) (q : Str × Str), vs = [.ref p, .ref a, .ref b] ∧ Purse H p ∧ a ≠ p ∧ H a = some (.lst (zs.map fun z : AZ => V.ref z.1)) ∧ AnsH H zs ∧ NmA (zs.map (·.2.2)) ∧ (keysA zs).Nodup ∧ zs.length < 30 ∧ H b = some (.tup [.str q.1, .str q.2]) ∧ Nm q.1 ∧ Nm q.2 ∧
  ∀ D H' xs, H D = none → H' D = some (.lst xs) → (∀ y ∈ xs, RefV K H' y) → xs.length ≤ 200 → Purse H' p → But p H H' → Q (.ref D) H'
theorem ok__law_bad (T : Txt K mg) (L : TxtL K mg) (N : TxtN K mg) (M7 : TxtM7 K mg) : Cal P w K mg base 3 "_law_bad" (spBad K) := by
  refine M7.d_bad.cal sc__law_bad (fun vs H Q E h => ?_) (fun fn cdv A outer s H vs Q E hr h => ?_)
  · obtain ⟨p, a, b, zs, q, rfl, _⟩ := h
    rfl
  · obtain ⟨p, a, b, zs, q, rfl, hp, nap, ha, an, nm, nd, hz, hb, nq1, nq2, k⟩ := h
    refine ⟨_, (pss_cons (ps_set (i := 3) sc__law_bad.nd rfl (.inr rfl) (pe_c (ok__law_draw L) hr (by decide) rfl (pa_cons (pv 0) (pa_cons (pe_op op_addU (pe_callB call_lenQ (by rfl) N.n_len (by decide +kernel) (pa_cons (pv 1) pa_nil)) pe_int) pa_nil))))
      (pss_cons (ps_set (i := 4) sc__law_bad.nd rfl (.inl rfl) (pe_lst (pa_cons (pe_tup (pa_cons (pv 2) (pa_cons pe_int pa_nil))) (pa_cons (pe_tup (pa_cons (pv 2) (pa_cons pe_non pa_nil))) (pa_cons (pe_tup (pa_cons (pv 2) (pa_cons pe_str pa_nil))) (pa_cons (pe_lst (pa_cons (pv 2) (pa_cons pe_bl pa_nil))) (pa_cons (pe_tup (pa_cons (pv 2) pa_nil)) (pa_cons (pe_tup (pa_cons (pv 2) (pa_cons pe_bl (pa_cons pe_bl pa_nil)))) (pa_cons (pv 2) (pa_cons pe_non (pa_cons pe_int pa_nil)))))))))))
      (pss_cons (ps_set (i := 4) sc__law_bad.nd rfl (.inl rfl) (pe_op op_addU (pv 4) (pe_lst (pa_cons (pe_tup (pa_cons (pe_tup (pa_cons (pe_ix ix_seq (pv 2) pe_int (fun _ _ => rfl)) pa_nil)) (pa_cons pe_bl pa_nil))) (pa_cons (pe_tup (pa_cons (pe_lst (pa_cons (pe_ix ix_seq (pv 2) pe_int (fun _ _ => rfl)) (pa_cons (pe_ix ix_seq (pv 2) pe_int (fun _ _ => rfl)) pa_nil))) (pa_cons pe_bl pa_nil))) (pa_cons (pe_tup (pa_cons (pe_tup (pa_cons (pe_ix ix_seq (pv 2) pe_int (fun _ _ => rfl)) (pa_cons pe_str pa_nil))) (pa_cons pe_bl pa_nil))) (pa_cons (pe_tup (pa_cons (pe_tup (pa_cons pe_str (pa_cons (pe_ix ix_seq (pv 2) pe_int (fun _ _ => rfl)) pa_nil))) (pa_cons pe_bl pa_nil))) pa_nil)))))))
      (pss_cons (ps_set (i := 4) sc__law_bad.nd rfl (.inl rfl) (pe_op op_addU (pv 4) (pe_lst (pa_cons (pe_tup (pa_cons (pe_ix ix_seq (pv 2) pe_int (fun _ _ => rfl)) (pa_cons pe_bl pa_nil))) (pa_cons (pe_tup (pa_cons pe_non (pa_cons pe_bl pa_nil))) (pa_cons (pe_tup (pa_cons (pe_tup (pa_cons (pe_ix ix_seq (pv 2) pe_int (fun _ _ => rfl)) (pa_cons (pe_ix ix_seq (pv 2) pe_int (fun _ _ => rfl)) (pa_cons (pe_ix ix_seq (pv 2) pe_int (fun _ _ => rfl)) pa_nil)))) (pa_cons pe_bl pa_nil))) pa_nil))))))
      (C8.pss_cut (ps_setLc (i := 6) (own := [("_law_one", 5)]) (g := gName 5) (tt := tYes) (te := tOp rAddU (tOp rAddU (tSl (rSlL K) (tVar 1) tNoPart (tPart (tVar 3))) (tLst (tCons (tVar 5) tNil))) (tSl (rSlL K) (tVar 1) (tPart (tVar 3)) tNoPart)) rfl sc__law_bad.nd rfl rfl (sw_true rfl rfl rfl (by decide +kernel)) (pi_list (pv 4)) (blkOk_by (own := [("_law_one", 5)]) (N := ["_law_purse_here", "_law_answers", "_law_place", "_law_at", "_law_rows", "_law_one", "_law_bad_here", "_law_stands"]) (sc := defScope s__law_bad) (by decide +kernel)) (fun _ _ _ _ _ => pg_name (i := 5) sc__law_bad.nd rfl (Or.inl rfl)) (fun _ _ _ _ _ => pts_nil) (fun _ _ _ _ _ => by exact (pe_op op_addU (pe_op op_addU (pe_slice sl_list (pv 1) po_none (po_some (pv 3))) (pe_lst (pa_cons (pv 5) pa_nil))) (pe_slice sl_list (pv 1) (po_some (pv 3)) po_none))))
      (pss_cons (ps_for PassesOwn.never rfl (pi_list (pv 1)) (pg_tup (by rfl) (pgs_cons (pg_name (i := 5) sc__law_bad.nd rfl (.inl rfl)) (pgs_cons (pg_name (i := 7) sc__law_bad.nd rfl (.inl rfl)) pgs_nil)))
        (pss_cons (ps_expr (pe_bm PySem.F.plainAttrs_list PySem.F.slot_list_append PySem.F.type_list_append mt_append (pv 6) (pa_cons (pe_op op_addU (pv 1) (pe_lst (pa_cons (pe_tup (pa_cons (pv 5) (pa_cons (pv 7) pa_nil))) pa_nil))) pa_nil)))
          (pss_one (ps_expr (pe_bm PySem.F.plainAttrs_list PySem.F.slot_list_append PySem.F.type_list_append mt_append (pv 6) (pa_cons (pe_op op_addU (pe_lst (pa_cons (pe_tup (pa_cons (pv 5) (pa_cons (pe_not (pv 7)) pa_nil))) pa_nil)) (pv 1)) pa_nil))))))
      (pss_one (ps_ret (pe_op op_addU (pv 6) (pe_lst (pa_cons (pe_callTy call_tupL (by rfl) T.n_tuple (by decide +kernel) (pa_cons (pv 1) pa_nil)) (pa_cons pe_non (pa_cons pe_bl (pa_cons pe_int (pa_cons pe_str (pa_cons (pv 2) pa_nil)))))))))))))))), ?_⟩
    k_extra "r_A7m"
    refine q_lenL (SqL.of ha) ?_
    k_extra "r_A7m"
    refine ⟨p, _, rfl, hp, by omega, by rw [List.length_map]; omega, fun n G0 n0 nl pu0 BT => ?_⟩
    obtain ⟨j, rfl⟩ : ∃ j : Nat, n = j := ⟨n.toNat, by omega⟩
    have tupk : ∀ {c : Addr} {ys : List V}, H c = some (.tup ys) → G0 c = some (.tup ys) := fun e => BT _ _ (fun z => by obtain ⟨_, _, _, e2, _⟩ := hp; rw [z, e2] at e; cases e) e
    have hb1 := tupk hb
    have an0 : AnsH G0 zs := fun z m => ⟨tupk (an z m).1, tupk (an z m).2⟩
    have a0 := an0
    have ha0 := BT _ _ nap ha
    have hb0 := hb1
    have U0 := Same.refl G0
    k_extra "r_A7m"
    refine q_newT (by show 2 ≤ sizeLine; decide) fun t1 G1 m1 R1 g1 => ?_
    have U1 := R1
    have hb1 := U1 _ _ hb0
    have a1 := an0.mono U1
    have B := BadL.snoc (K := K) (ys := []) BadL.nil (bad_v g1 (plk_of hb1 nq1 nq2) Pl.int rfl (ng a0 m1))
    k_extra "r_A7m"
    refine q_newT (by show 2 ≤ sizeLine; decide) fun t2 G2 m2 R2 g2 => ?_
    have U2 := U1.trans R2
    have hb2 := U2 _ _ hb0
    have a2 := an0.mono U2
    replace B := B.mono R2
    replace B := B.snoc (bad_v g2 (plk_of hb2 nq1 nq2) Pl.non rfl (ng a1 m2))
    k_extra "r_A7m"
    refine q_newT (by show 2 ≤ sizeLine; decide) fun t3 G3 m3 R3 g3 => ?_
    have U3 := U2.trans R3
    have hb3 := U3 _ _ hb0
    have a3 := an0.mono U3
    replace B := B.mono R3
    replace B := B.snoc (bad_v g3 (plk_of hb3 nq1 nq2) Pl.str rfl (ng a2 m3))
    k_extra "r_A7m"
    refine q_newL (by show 2 ≤ sizeLine; decide) fun t4 G4 m4 R4 g4 => ?_
    have U4 := U3.trans R4
    have hb4 := U4 _ _ hb0
    have a4 := an0.mono U4
    replace B := B.mono R4
    replace B := B.snoc (bad_no (Pl.lst g4) (by decide) (noTup_lst g4) (.ref _) (ng a3 m4))
    k_extra "r_A7m"
    refine q_newT (by show 1 ≤ sizeLine; decide) fun t5 G5 m5 R5 g5 => ?_
    have U5 := U4.trans R5
    have hb5 := U5 _ _ hb0
    have a5 := an0.mono U5
    replace B := B.mono R5
    replace B := B.snoc (bad_len g5 (by simp) (ng a4 m5))
    k_extra "r_A7m"
    refine q_newT (by show 3 ≤ sizeLine; decide) fun t6 G6 m6 R6 g6 => ?_
    have U6 := U5.trans R6
    have hb6 := U6 _ _ hb0
    have a6 := an0.mono U6
    replace B := B.mono R6
    replace B := B.snoc (bad_len g6 (by simp) (ng a5 m6))
    replace B := B.snoc (⟨AnK.two rfl (Pl.tup hb6) hb6 (plk_flat Pl.str (by decide) (fun a z => by cases z)) Pl.str, .ref b, fun z m e => by injection e with e; rw [e] at hb6; rw [(a6 z m).1] at hb6; cases hb6⟩)
    replace B := B.snoc (bad_no Pl.non (by decide) (noTup_flat fun a z => by cases z) .non (fun z _ e => by cases e))
    replace B := B.snoc (bad_no (v := .int 0) Pl.int (by decide) (noTup_flat fun a z => by cases z) .int (fun z _ e => by cases e))
    k_extra "r_A7m"
    refine q_newL (by show 9 ≤ sizeLine; decide) fun t7 G7 m7 R7 g7 => ?_
    have U7 := U6.trans R7
    have hb7 := U7 _ _ hb0
    have a7 := an0.mono U7
    replace B := B.mono R7
    have BA := B
    k_extra "r_A7m"
    refine q_ixT (SqT.of hb7) (at_of (j := 0) rfl rfl) ?_
    k_extra "r_A7m"
    refine q_newT (by show 1 ≤ sizeLine; decide) fun t8 G8 m8 R8 g8 => ?_
    have U8 := U7.trans R8
    have hb8 := U8 _ _ hb0
    have a8 := an0.mono U8
    replace BA := BA.mono R8
    k_extra "r_A7m"
    refine q_newT (by show 2 ≤ sizeLine; decide) fun t9 G9 m9 R9 g9 => ?_
    have U9 := U8.trans R9
    have hb9 := U9 _ _ hb0
    have a9 := an0.mono U9
    replace BA := BA.mono R9
    have B := BadL.snoc (K := K) (ys := []) BadL.nil (bad_u g9 (plk_len (R9 _ _ g8) (fun y hy => by rw [List.mem_singleton.mp hy]; exact nm_arg nq1) (by simp)) Pl.bl (ng a8 m9))
    k_extra "r_A7m"
    refine q_ixT (SqT.of hb9) (at_of (j := 0) rfl rfl) ?_
    k_extra "r_A7m"
    refine q_ixT (SqT.of hb9) (at_of (j := 1) rfl rfl) ?_
    k_extra "r_A7m"
    refine q_newL (by show 2 ≤ sizeLine; decide) fun t10 G10 m10 R10 g10 => ?_
    have U10 := U9.trans R10
    have hb10 := U10 _ _ hb0
    have a10 := an0.mono U10
    replace B := B.mono R10
    replace BA := BA.mono R10
    k_extra "r_A7m"
    refine q_newT (by show 2 ≤ sizeLine; decide) fun t11 G11 m11 R11 g11 => ?_
    have U11 := U10.trans R11
    have hb11 := U11 _ _ hb0
    have a11 := an0.mono U11
    replace B := B.mono R11
    replace BA := BA.mono R11
    replace B := B.snoc (bad_u g11 (.no (Pl.lst (R11 _ _ g10)) (by decide) (noTup_lst (R11 _ _ g10))) Pl.bl (ng a10 m11))
    k_extra "r_A7m"
    refine q_ixT (SqT.of hb11) (at_of (j := 0) rfl rfl) ?_
    k_extra "r_A7m"
    refine q_newT (by show 2 ≤ sizeLine; decide) fun t12 G12 m12 R12 g12 => ?_
    have U12 := U11.trans R12
    have hb12 := U12 _ _ hb0
    have a12 := an0.mono U12
    replace B := B.mono R12
    replace BA := BA.mono R12
    k_extra "r_A7m"
    refine q_newT (by show 2 ≤ sizeLine; decide) fun t13 G13 m13 R13 g13 => ?_
    have U13 := U12.trans R13
    have hb13 := U13 _ _ hb0
    have a13 := an0.mono U13
    replace B := B.mono R13
    replace BA := BA.mono R13
    replace B := B.snoc (bad_u g13 (plk_bad (R13 _ _ g12) (by have := nq1.2.1; omega) (by decide) (fun z => absurd z.2.1 (by decide))) Pl.bl (ng a12 m13))
    k_extra "r_A7m"
    refine q_ixT (SqT.of hb13) (at_of (j := 1) rfl rfl) ?_
    k_extra "r_A7m"
    refine q_newT (by show 2 ≤ sizeLine; decide) fun t14 G14 m14 R14 g14 => ?_
    have U14 := U13.trans R14
    have hb14 := U14 _ _ hb0
    have a14 := an0.mono U14
    replace B := B.mono R14
    replace BA := BA.mono R14
    k_extra "r_A7m"
    refine q_newT (by show 2 ≤ sizeLine; decide) fun t15 G15 m15 R15 g15 => ?_
    have U15 := U14.trans R15
    have hb15 := U15 _ _ hb0
    have a15 := an0.mono U15
    replace B := B.mono R15
    replace BA := BA.mono R15
    replace B := B.snoc (bad_u g15 (plk_bad (R15 _ _ g14) (by decide) (by have := nq2.2.1; omega) (fun z => notA z.1)) Pl.bl (ng a14 m15))
    k_extra "r_A7m"
    refine q_newL (by show 4 ≤ sizeLine; decide) fun t16 G16 m16 R16 g16 => ?_
    have U16 := U15.trans R16
    replace B := B.mono R16
    replace BA := BA.mono R16
    have hb16 := U16 _ _ hb0
    have a16 := an0.mono U16
    have W7 : Same G7 G16 := R8.trans (R9.trans (R10.trans (R11.trans (R12.trans (R13.trans (R14.trans (R15.trans R16)))))))
    refine q_cat (W7 _ _ g7) g16 (by show 13 ≤ sizeLine; decide) fun t17 G17 m17 R17 g17 => ?_
    have U17 := U16.trans R17
    have hb17 := U17 _ _ hb0
    have a17 := an0.mono U17
    have BB : BadL K G17 zs ([.ref t1, .ref t2, .ref t3, .ref t4, .ref t5, .ref t6, .ref b, .non, .int 0] ++ [.ref t9, .ref t11, .ref t13, .ref t15]) := (BA.app B).mono R17
    clear BA B
    k_extra "r_A7m"
    refine q_ixT (SqT.of hb17) (at_of (j := 1) rfl rfl) ?_
    k_extra "r_A7m"
    refine q_newT (by show 2 ≤ sizeLine; decide) fun t18 G18 m18 R18 g18 => ?_
    have U18 := U17.trans R18
    have B : BadL K G18 zs ([] ++ [.ref t18]) := BadL.snoc (K := K) BadL.nil (bad_u g18 (plk_flat Pl.str (by decide) (fun a z => by cases z)) Pl.bl (ng a17 m18))
    k_extra "r_A7m"
    refine q_newT (by show 2 ≤ sizeLine; decide) fun t19 G19 m19 R19 g19 => ?_
    have U19 := U18.trans R19
    replace B := (B.mono R19).snoc (bad_u g19 (plk_flat Pl.non (by decide) (fun a z => by cases z)) Pl.bl (ng (an0.mono U18) m19))
    have hb19 := U19 _ _ hb0
    k_extra "r_A7m"
    refine q_ixT (SqT.of hb19) (at_of (j := 0) rfl rfl) ?_
    k_extra "r_A7m"
    refine q_ixT (SqT.of hb19) (at_of (j := 1) rfl rfl) ?_
    k_extra "r_A7m"
    refine q_ixT (SqT.of hb19) (at_of (j := 1) rfl rfl) ?_
    k_extra "r_A7m"
    refine q_newT (by show 3 ≤ sizeLine; decide) fun t20 G20 m20 R20 g20 => ?_
    have U20 := U19.trans R20
    k_extra "r_A7m"
    refine q_newT (by show 2 ≤ sizeLine; decide) fun t21 G21 m21 R21 g21 => ?_
    have U21 := U20.trans R21
    replace B := ((B.mono R20).mono R21).snoc (bad_u g21 (plk_len (R21 _ _ g20) (fun y hy => by
      simp only [List.mem_cons, List.not_mem_nil, or_false] at hy
      rcases hy with rfl | rfl | rfl <;> first | exact nm_arg nq1 | exact nm_arg nq2) (by simp)) Pl.bl (ng (an0.mono U20) m21))
    k_extra "r_A7m"
    refine q_newL (by show 3 ≤ sizeLine; decide) fun t22 G22 m22 R22 g22 => ?_
    have W17 : Same G17 G22 := R18.trans (R19.trans (R20.trans (R21.trans R22)))
    refine q_cat (W17 _ _ g17) g22 (by show 16 ≤ sizeLine; decide) fun Rw GA mA RA gA => ?_
    have UA := U21.trans (R22.trans RA)
    have BR : BadL K GA zs (([.ref t1, .ref t2, .ref t3, .ref t4, .ref t5, .ref t6, .ref b, .non, .int 0] ++ [.ref t9, .ref t11, .ref t13, .ref t15]) ++ [.ref t18, .ref t19, .ref t21]) := (((BB.mono W17).mono RA).app ((B.mono R22).mono RA))
    generalize hrows : (([.ref t1, .ref t2, .ref t3, .ref t4, .ref t5, .ref t6, .ref b, .non, .int 0] ++ [.ref t9, .ref t11, .ref t13, .ref t15]) ++ [.ref t18, .ref t19, .ref t21] : List V) = rows at BR gA
    have lr : rows.length = 16 := by rw [← hrows]; rfl
    have haA := UA _ _ ha0
    have anA := an0.mono UA
    have puA := pu0.mono UA
    clear BB B hrows W7 W17
    k_extra "r_A7m"
    refine q_cut8 (M := fun σ H' => ∃ D xs, σ = [some (.ref p), some (.ref a), some (.ref b), some (.int j), some (.ref Rw), none, some (.ref D), none] ∧ GA D = none ∧ Same GA (wo D H') ∧ H' D = some (.lst xs) ∧ (∀ y ∈ xs, RefV K (wo D H') y) ∧ xs.length ≤ 16) ?_ ?_
    · k_extra "r_A7m"
      refine s_lc ?_
      k_extra "r_A7m"
      refine ⟨Rw, rfl, ⟨_, SqL.of gA⟩, fun D nD => lc_list (K := K) (a := Rw) (xs := rows) (fun i H' => Same GA (wo D H') ∧ ∃ acc, H' D = some (.lst acc) ∧ (∀ y ∈ acc, RefV K (wo D H') y) ∧ acc.length ≤ i) ⟨wo_same nD (Same.new nD), [], upd_same, (fun _ h => by cases h), Nat.le_refl _⟩ (fun i H' _ h => SqL.of (wo_sub _ _ (h.1 _ _ gA))) ?_ ?_⟩
      · rintro i y H1 hy ⟨S1, acc, h1, r1, l1⟩
        have my := List.mem_of_getElem? hy
        have li := (List.getElem?_eq_some_iff.mp hy).1
        k_extra "r_A7m"
        refine ⟨rfl, ?_⟩
        k_extra "r_A7m"
        have ha1 := wo_sub _ _ (S1 _ _ haA)
        have nz : ∀ {t : Addr} {Hx : Hp}, Same H1 Hx → Hx t = none → t ≠ D := fun S n z => by rw [z, S _ _ h1] at n; cases n
        refine q_slL (SqL.of ha1) fun L1 H2 n2 S2 h2 => ?_
        rw [cutV_take] at h2
        k_extra "r_A7m"
        refine q_newL (by show 1 ≤ sizeLine; decide) fun L2 H3 n3 S3 h3 => ?_
        refine q_cat (S3 _ _ h2) h3 (sz (by rw [List.length_take]; simp; omega)) fun L3 H4 n4 S4 h4 => ?_
        k_extra "r_A7m"
        have T4 := S2.trans (S3.trans S4)
        refine q_slL (SqL.of (T4 _ _ ha1)) fun L4 H5 n5 S5 h5 => ?_
        rw [cutV_drop] at h5
        refine q_cat (S5 _ _ h4) h5 (sz (by rw [List.length_append, List.length_take, List.length_drop]; simp; omega)) fun L5 H6 n6 S6 h6 => ?_
        have T6 := T4.trans (S5.trans S6)
        have U6 : Same GA (wo D H6) := S1.trans (wo_step T6)
        refine ⟨acc, T6 _ _ h1, szlt (by omega), by rw [wo_upd]; exact U6, _, upd_same, fun u hu => ?_, by simp; omega⟩
        rw [wo_upd]
        rcases List.mem_append.mp hu with hu | hu
        · exact (r1 u hu).mono (wo_step T6)
        · rw [List.mem_singleton.mp hu]
          have n5D : L5 ≠ D := nz (T4.trans S5) n6
          refine ref_bad (zs := zs) (y := y) (by rw [wo_get n5D]; exact h6) (by simp; omega) (fun v hv => ?_) (anA.mono U6) nm ((BR.mono U6) y my)
          rw [List.take_append_drop] at hv
          obtain ⟨z, mz, rfl⟩ := List.mem_map.mp hv
          exact ⟨z, mz, rfl⟩
      · rintro H1 ⟨S1, acc, h1, r1, l1⟩
        k_extra "r_A7m"
        exact ⟨D, acc, rfl, nD, S1, h1, r1, by omega⟩
    rintro σ H1 ⟨D, xs, rfl, nD, S1, h1, r1, l1⟩
    k_extra "r_A7m"
    have ha1 := wo_sub _ _ (S1 _ _ haA)
    refine ⟨a, rfl, ⟨_, SqL.of ha1⟩, q_forL (K := K) (a := a) (xs := zs.map fun z => V.ref z.1) (fun i σ H' => ∃ xs v5 v7, σ = [some (.ref p), some (.ref a), some (.ref b), some (.int j), some (.ref Rw), v5, some (.ref D), v7] ∧ Same GA (wo D H') ∧ H' D = some (.lst xs) ∧ (∀ y ∈ xs, RefV K (wo D H') y) ∧ xs.length ≤ 16 + 2 * i)
      ⟨xs, _, _, rfl, S1, h1, r1, l1⟩ (fun i σ H' _ ⟨_, _, _, _, S, _⟩ => SqL.of (wo_sub _ _ (S _ _ haA))) ?_ ?_⟩
    · rintro i x σ H2 hx ⟨xs, v5, v7, rfl, S2, h2, r2, l2⟩
      rw [List.getElem?_map] at hx
      obtain ⟨z, hz', rfl⟩ := Option.map_eq_some_iff.mp hx
      have mz := List.mem_of_getElem? hz'
      have li := (List.getElem?_eq_some_iff.mp hz').1
      have anw := anA.mono S2
      obtain ⟨p1, p2⟩ := (anw.mono wo_sub) z mz
      have nz := nm z.2.2 (List.mem_map.mpr ⟨z, mz, rfl⟩)
      refine q_gtup (SqT.of p1) rfl ?_
      k_extra "r_A7m"
      refine ⟨.inl ⟨rfl, _, SqL.of h2⟩, ?_⟩
      k_extra "r_A7m"
      have ha2 := wo_sub _ _ (S2 _ _ haA)
      have wD : ∀ {t : Addr} {Hx : Hp}, Same H2 Hx → Hx t = none → t ≠ D := fun S n e => by rw [e, S _ _ h2] at n; cases n
      have lx : (zs.map fun z : AZ => V.ref z.1).length = zs.length := List.length_map _
      refine q_newT (by show 2 ≤ sizeLine; decide) fun T1 K1 m1 Q1 e1 => ?_
      k_extra "r_A7m"
      refine q_newL (by show 1 ≤ sizeLine; decide) fun T2 K2 m2 Q2 e2 => ?_
      refine q_cat ((Q1.trans Q2) _ _ ha2) e2 (sz (by rw [lx]; simp; omega)) fun T3 K3 m3 Q3 e3 => ?_
      have V3 := Q1.trans (Q2.trans Q3)
      have X3 := wo_step (D := D) V3
      have n1 := wD (Same.refl _) m1
      have n3 := wD (Q1.trans Q2) m3
      have r3 : RefV K (wo D K3) (.ref T3) := ref_dupR (anw.mono X3) nm mz (by rw [wo_get n1]; exact (Q2.trans Q3) _ _ e1) (by rw [wo_get n3]; exact e3) hz
      k_extra "r_A7m"
      refine q_append (V3 _ _ h2) (szlt (by omega)) fun K4 b4 e4 => ?_
      have X4 := X3.trans (wo_but b4)
      have ha4 := wo_sub _ _ ((S2.trans X4) _ _ haA)
      have wD4 : ∀ {t : Addr} {Hx : Hp}, Same K4 Hx → Hx t = none → t ≠ D := fun S n e => by rw [e, S _ _ e4] at n; cases n
      k_extra "r_A7m"
      refine ⟨.inl ⟨rfl, _, SqL.of e4⟩, ?_⟩
      k_extra "r_A7m"
      refine q_newT (by show 2 ≤ sizeLine; decide) fun T5 K5 m5 Q5 e5 => ?_
      k_extra "r_A7m"
      refine q_newL (by show 1 ≤ sizeLine; decide) fun T6 K6 m6 Q6 e6 => ?_
      k_extra "r_A7m"
      refine q_cat e6 ((Q5.trans Q6) _ _ ha4) (sz (by rw [lx]; simp; omega)) fun T7 K7 m7 Q7 e7 => ?_
      have V7 := Q5.trans (Q6.trans Q7)
      have X7 := X4.trans (wo_step (D := D) V7)
      have n5 := wD4 (Same.refl _) m5
      have n7 := wD4 (Q5.trans Q6) m7
      have r7 : RefV K (wo D K7) (.ref T7) := ref_dupL (anw.mono X7) nm mz (by rw [wo_get n5]; exact (Q6.trans Q7) _ _ e5) (by rw [wo_get n7]; exact e7) hz
      k_extra "r_A7m"
      refine q_append (V7 _ _ e4) (szlt (by rw [List.length_append]; simp; omega)) fun K8 b8 e8 => ?_
      have Y8 : Same (wo D K3) (wo D K8) := ((wo_but b4).trans (wo_step V7)).trans (wo_but b8)
      k_extra "r_A7m"
      refine ⟨_, _, _, rfl, S2.trans (X3.trans Y8), e8, fun u hu => ?_, by simp; omega⟩
      rcases List.mem_append.mp hu with hu | hu
      · rcases List.mem_append.mp hu with hu | hu
        · exact (r2 u hu).mono (X3.trans Y8)
        · rw [List.mem_singleton.mp hu]
          exact r3.mono Y8
      · rw [List.mem_singleton.mp hu]
        exact r7.mono (wo_but b8)
    · rintro σ H2 ⟨xs, v5, v7, rfl, S2, h2, r2, l2⟩
      rw [List.length_map] at l2
      k_extra "r_A7m"
      have ha2 := wo_sub _ _ (S2 _ _ haA)
      refine q_tupL (SqL.of ha2) fun T1 K1 m1 Q1 e1 => ?_
      k_extra "r_A7m"
      refine q_newL (by show 6 ≤ sizeLine; decide) fun T2 K2 m2 Q2 e2 => ?_
      refine q_cat ((Q1.trans Q2) _ _ h2) e2 (sz (by simp; omega)) fun T3 K3 m3 Q3 e3 => ?_
      have V3 := Q1.trans (Q2.trans Q3)
      have F3 : Same GA K3 := fun x o e => V3 _ _ (wo_sub _ _ (S2 _ _ e))
      have F0 : Same G0 K3 := UA.trans F3
      have hn : H T3 = none := by
        cases e : H T3 with
        | none => rfl
        | some o =>
          have np : T3 ≠ p := fun z => by
            obtain ⟨_, _, _, e2, _⟩ := pu0
            rw [z] at m3
            rw [(Q1.trans Q2) _ _ (wo_sub _ _ (S2 _ _ (UA _ _ e2)))] at m3
            cases m3
          have := (Q1.trans Q2) _ _ (wo_sub _ _ (S2 _ _ (UA _ _ (BT _ _ np e))))
          rw [m3] at this
          cases this
      refine k T3 K3 _ hn e3 (fun u hu => ?_) (by simp; omega) (pu0.mono F0) (fun x o n e => F0 _ _ (BT _ _ n e))
      rcases List.mem_append.mp hu with hu | hu
      · exact ((r2 u hu).mono wo_sub).mono V3
      · have e1' := (Q2.trans Q3) _ _ e1
        have hbb := F0 _ _ hb0
        simp only [List.mem_cons, List.not_mem_nil, or_false] at hu
        rcases hu with rfl | rfl | rfl | rfl | rfl | rfl
        · exact .other (Pl.tup e1') (by decide) (.ref _)
        · exact .other Pl.non (by decide) .non
        · exact .other Pl.bl (by decide) .bl
        · exact .other Pl.int (by decide) .int
        · exact .other Pl.str (by decide) (.str (by decide +kernel))
        · exact .other (Pl.tup hbb) (by decide) (.ref _)
end
end Bt
namespace Bt
open PySem PySem.Spec PyProof.Rows L2 LamX NdefX
open PySem.W (dataLt dataLe alike AllAlike Sortable)
theorem words85_ : True := by
  k_with "s_R7" => first
    | ((with_reducible refine' s_var ?hv ?_); (case hv => exact rfl))
    | with_reducible first
      | refine' s_c ?_ | refine' s_op ?_ | refine' s_asg ?_ | refine' s_gname ?_ | refine' s_seq ?_ | refine' s_next ?_ | refine' s_ret ?_ | refine' s_ifS ?_ | refine' s_drop ?_ | refine' s_retN ?_ | refine' s_test ?_ | refine' s_B ?_ | refine' q_test ?_ | refine' s_int ?_ | refine' s_cons ?_ | refine' s_nil ?_ | refine' s_call ?_ | refine' s_CB ?_ | refine' s_andT ?_ | refine' s_orT ?_ | refine' s_notT ?_ | refine' s_andV ?_ | refine' s_orV ?_ | refine' s_notV ?_ | refine' s_ifV ?_ | refine' s_chain ?_ | refine' s_sl ?_ | refine' s_noPart ?_ | refine' s_part ?_ | refine' s_gsub ?_ | refine' s_BM ?_ | refine' s_tup ?_ | refine' s_lst ?_ | refine' q_add ?_ | refine' q_sub ?_ | refine' q_lt ?_ | refine' q_le ?_ | refine' q_gt ?_ | refine' q_ge ?_ | refine' s_ifT ?_ | refine' s_ifF ?_ | refine' s_yes ?_ | refine' s_iStr ?_ | refine' s_M0 ?_ | refine' s_for ?_ | refine' s_rng1 ?_ | refine' s_par ?_ | refine' s_gcons ?_ | refine' s_gnil ?_ | refine' s_iList ?_ | refine' s_iEnum ?_ | refine' s_raise1 ?_
      | (refine' q_mod ?hm ?_; (case hm => first | omega | decide))
    | dsimp only
  k_with "r_R7" => repeat (k_extra "s_R7")
  trivial
/-! ### keys that rise, of no names -/
def tDead : TE := fun _ _ _ => False
theorem pe_dead {X : Cx} {e : Expr} : PE X e tDead := ⟨fun _ _ _ _ _ _ h => h.elim⟩
def rIsN : R2 := fun x y H Q => y = .non ∧ Q (.bl (decide (x = .non))) H
theorem op_isNon {X : Cx} : OpR X (compareOp .Is) rIsN := op_isN
theorem q_isNon {H : Hp} {Q : VK} {x : V} (q : Q (.bl (decide (x = .non))) H) : rIsN x .non H Q := ⟨rfl, q⟩
theorem s_iZip {K : PySem.W.Frag} {ta : TA} {σ : L2.St} {H : Hp} {R : It → Hp → Prop} (h : ta σ H fun vs H1 => ∃ a b xs ys, vs = [.ref a, .ref b] ∧ SqL K H1 a xs ∧ SqL K H1 b ys ∧ R (Itz K a b) H1) : iZip K ta σ H R := h
structure TxtR7 (K : PySem.W.Frag) (mg : Str → Option Value) : Prop where
  n_zip : mg "zip" = none
  d__rise : Df K mg "_rise" s__rise ["form", "mark", "names"]
section
variable {P : Program} {w : World} {K : PySem.W.Frag} {mg : Str → Option Value} {base : Heap}
def spRise0 : Sp := fun vs H Q _ => ∃ x q, vs = [x, .non, .ref q] ∧ H q = some (.lst []) ∧ ∀ H', Same H H' → Q (.bl true) H'
theorem ok__rise0 (N : TxtN K mg) (R : TxtR7 K mg) : Cal P w K mg base 1 "_rise" spRise0 := by
  refine R.d__rise.cal sc__rise (fun vs H Q E h => ?_) (fun f cdv A outer s H vs Q E hr h => ?_)
  · obtain ⟨x, q, rfl, _⟩ := h
    rfl
  · obtain ⟨x, q, rfl, hq, k⟩ := h
    refine ⟨_, (pss_cons (ps_set (i := 3) sc__rise.nd rfl (.inl rfl) (pe_ifExp (pt_cmpR op_isNon (pv 1) pe_non (by rfl)) (pv 2) pe_dead))
      (pss_cons (ps_setLc (i := 4) (own := [("name", 5)]) (g := gName 5) (tt := tYes) (te := tDead) rfl sc__rise.nd rfl rfl (sw_true rfl rfl rfl (by decide +kernel)) (pi_list (pv 3)) (blkOk_by (own := [("name", 5)]) (N := ["form", "mark", "names", "row", "keys", "name", "low", "high"]) (sc := defScope s__rise) (by decide +kernel)) (fun _ _ _ _ _ => pg_name (i := 5) sc__rise.nd rfl (Or.inl rfl)) (fun _ _ _ _ _ => pts_nil) (fun _ _ _ _ _ => pe_dead))
      (pss_one (ps_ret (pe_callB (call_allB rfl) (by rfl) N.n_all (by decide +kernel) (pa_cons (pe_lc (own := [("low", 6), ("high", 7)]) (g := gTup K 2 (gCons (gName 6) (gCons (gName 7) gNil))) (tt := tYes) (te := tDead) rfl sc__rise.nd (pi_zip rfl R.n_zip (pa_cons (pv 4) (pa_cons (pe_slice sl_list (pv 4) (po_some pe_int) po_none) pa_nil))) (blkOk_by (own := [("low", 6), ("high", 7)]) (N := ["form", "mark", "names", "row", "keys", "name", "low", "high"]) (sc := defScope s__rise) (by decide +kernel)) (fun _ _ _ _ _ => pg_tup (by rfl) (pgs_cons (pg_name (i := 6) sc__rise.nd rfl (Or.inl rfl)) (pgs_cons (pg_name (i := 7) sc__rise.nd rfl (Or.inl rfl)) pgs_nil))) (fun _ _ _ _ _ => pts_nil) (fun _ _ _ _ _ => pe_dead)) pa_nil)))))), ?_⟩
    k_extra "r_R7"
    refine q_isNon (q_test (s_ifD (fun _ => ?_) (fun e => absurd rfl e)))
    k_extra "r_R7"
    refine s_lc ?_
    k_extra "r_R7"
    refine ⟨q, rfl, ⟨_, SqL.of hq⟩, fun D nD => lc_list (K := K) (a := q) (xs := []) (fun i H' => Same H H' ∧ H' D = some (.lst [])) ⟨Same.new nD, upd_same⟩ (fun i H' _ h => SqL.of (h.1 _ _ hq)) (fun i x H hj => absurd hj (by simp)) ?_⟩
    rintro H1 ⟨S1, h1⟩
    k_extra "r_R7"
    refine s_lc (s_iZip ?_)
    k_extra "r_R7"
    refine q_slL (SqL.of h1) fun p H3 n3 S3 h3 => ?_
    rw [show cutV ([] : List V) (some 1) none = [] by unfold cutV; simp] at h3
    k_extra "r_R7"
    refine ⟨D, p, [], [], rfl, SqL.of (S3 _ _ h1), SqL.of h3, fun D2 nD2 => lc_it (walk_zip rfl) (fun i H' => Same H3 H' ∧ H' D2 = some (.lst [])) ⟨Same.new nD2, upd_same⟩ (fun i H' _ h => ⟨SqL.of (h.1 _ _ (S3 _ _ h1)), SqL.of (h.1 _ _ h3)⟩) ?_ ?_⟩
    · rintro i x H4 H5 hi ⟨S4, h4⟩ ⟨tq, x1, x2, rfl, ntq, rfl, e1, e2⟩
      simp at e1
    · rintro H4 ⟨S4, h4⟩
      k_extra "r_R7"
      refine q_allB (bs := []) (SqL.of h4) ?_
      exact k H4 (S1.trans (S3.trans S4))
end
end Bt
namespace Bt
open PySem PySem.Spec PyProof.Rows L2 LamX NdefX
open PySem.W (dataLt dataLe alike AllAlike Sortable)
theorem words86_ : True := by
  k_with "s_C7" => first
    | ((with_reducible refine' s_var ?hv ?_); (case hv => exact rfl))
    | with_reducible first
      | refine' s_c ?_ | refine' s_op ?_ | refine' s_asg ?_ | refine' s_gname ?_ | refine' s_seq ?_ | refine' s_next ?_ | refine' s_ret ?_ | refine' s_ifS ?_ | refine' s_drop ?_ | refine' s_retN ?_ | refine' s_test ?_ | refine' s_B ?_ | refine' q_test ?_ | refine' s_int ?_ | refine' s_cons ?_ | refine' s_nil ?_ | refine' s_call ?_ | refine' s_CB ?_ | refine' s_andT ?_ | refine' s_orT ?_ | refine' s_notT ?_ | refine' s_andV ?_ | refine' s_orV ?_ | refine' s_notV ?_ | refine' s_ifV ?_ | refine' s_chain ?_ | refine' s_sl ?_ | refine' s_noPart ?_ | refine' s_part ?_ | refine' s_gsub ?_ | refine' s_BM ?_ | refine' s_tup ?_ | refine' s_lst ?_ | refine' q_add ?_ | refine' q_sub ?_ | refine' q_lt ?_ | refine' q_le ?_ | refine' q_gt ?_ | refine' q_ge ?_ | refine' s_ifT ?_ | refine' s_ifF ?_ | refine' s_yes ?_ | refine' s_iStr ?_ | refine' s_M0 ?_ | refine' s_for ?_ | refine' s_rng1 ?_ | refine' s_par ?_ | refine' s_gcons ?_ | refine' s_gnil ?_ | refine' s_iList ?_ | refine' s_iEnum ?_ | refine' s_raise1 ?_
      | (refine' q_mod ?hm ?_; (case hm => first | omega | decide))
    | dsimp only
  k_with "r_C7" => repeat (k_extra "s_C7")
  trivial
/-! ### a piece of no names -/
structure TxtC7 (K : PySem.W.Frag) (mg : Str → Option Value) : Prop where
  d__is_piece : Df K mg "_is_piece" s__is_piece ["folder", "form", "mark", "names", "ended"]
structure PieceC (K : PySem.W.Frag) (mg : Str → Option Value) (CP : Addr) : Prop where
  cl : Cls K CP
  n1 : NoAttr K CP "_folder"
  n2 : NoAttr K CP "_form"
  n3 : NoAttr K CP "_mark"
  n4 : NoAttr K CP "_names"
  n5 : NoAttr K CP "_ended"
  n6 : NoAttr K CP "_low"
  n7 : NoAttr K CP "_high"
structure PieceG (K : PySem.W.Frag) (mg : Str → Option Value) (CP : Addr) : Prop where
  g : mg "Piece" = some (.ref CP)
  makes : PySem.W.makesIn K CP = true
  kp : PySem.W.keepIn K (.ref CP) = true
  init : ∃ (f : Addr) (fd : FuncData), PySem.W.findIn K (.ref CP) "__init__" = some (some (.ref f)) ∧ PySem.W.isFn K (.ref f) = true ∧ Fun K "__init__" "Piece.__init__" s_Piece___init__ f fd ∧ Binds K fd ["self", "folder", "form", "mark", "names", "ended"] []
def pcf5 (f a m n e : V) : List (Str × V) := putF "_ended" e (putF "_names" n (putF "_mark" m (putF "_form" a (putF "_folder" f []))))
def pcf (f a m n e lo hi : V) : List (Str × V) := putF "_high" hi (putF "_low" lo (pcf5 f a m n e))
section
variable {P : Program} {w : World} {K : PySem.W.Frag} {mg : Str → Option Value} {base : Heap}
def spIsPc0 (C : Addr) : Sp := fun vs H Q _ => ∃ f a l c q, vs = [.str f, .ref a, .non, .ref q, .bl true] ∧ Nm f ∧ FormAt C H a l c ∧ H q = some (.lst []) ∧ ∀ H', Same H H' → Q (.bl true) H'
theorem ok__is_piece0 {C : Addr} (T : Txt K mg) (N : TxtN K mg) (TS : TxtS K mg) (FC : FormC K mg C) (R : TxtR7 K mg) (Y : TxtC7 K mg) : Cal P w K mg base 3 "_is_piece" (spIsPc0 C) := by
  refine Y.d__is_piece.cal sc__is_piece (fun vs H Q E h => ?_) (fun f cdv A outer s H vs Q E hr h => ?_)
  · obtain ⟨f, a, l, c, q, rfl, _⟩ := h
    rfl
  · obtain ⟨f, a, l, c, q, rfl, nf, fa, hq, k⟩ := h
    refine ⟨_, (pss_cons (ps_if (pt_not (PW.pt (pw_and (pt_val (pe_c (ok_is_name T N) hr (by decide) rfl (pa_cons (pv 0) pa_nil))) (pw_and1 (pt_val (pe_callB call_isi (by rfl) T.n_isinstance (by decide +kernel) (pa_cons (pv 1) (pa_cons (pe_glob (v := .ref C) (by rfl) FC.g rfl) pa_nil)))))))) (pss_one (ps_ret pe_bl)) pss_nil)
      (pss_cons (ps_if (pt_not (PW.pt (pw_or (pt_cmpR op_isNon (pv 2) pe_non (by rfl)) (pw_or1 (pt_val (pe_c (ok_is_name T N) hr (by decide) rfl (pa_cons (pv 2) pa_nil))))))) (pss_one (ps_ret pe_bl)) pss_nil)
      (pss_cons (ps_if (pt_not (PW.pt (pw_and (pt_val (pe_c (ok_is_name_list T N TS) hr (by decide) rfl (pa_cons (pv 3) pa_nil))) (pw_and1 (pt_val (pe_callB call_isi (by rfl) T.n_isinstance (by decide +kernel) (pa_cons (pv 4) (pa_cons (pe_bltn (v := .ty "bool") (by rfl) T.n_bool (by decide +kernel) rfl) pa_nil)))))))) (pss_one (ps_ret pe_bl)) pss_nil)
      (pss_one (ps_ret (pe_and (pe_or (pe_cmpR op_gtI (pe_callB call_lenQ (by rfl) N.n_len (by decide +kernel) (pa_cons (pv 3) pa_nil)) pe_int (by rfl)) (pe_one (pv 4))) (pe_one (pe_c (ok__rise0 N R) hr (by decide) rfl (pa_cons (pv 1) (pa_cons (pv 2) (pa_cons (pv 3) pa_nil))))))))))), ?_⟩
    k_extra "r_C7"
    obtain ⟨ty, h1, h2⟩ := nm_arg (K := K) (H := H) nf
    refine ⟨.str f, ty, rfl, h1, h2, fun n => absurd ⟨f, rfl, nf⟩ n, fun _ H1 S1 => ?_⟩
    k_extra "r_C7"
    have fa1 := fa.mono S1
    refine ⟨.ref a, .ref C, .ref C, .ref C, true, rfl, .own C, fa1.ty FC, FC.kY, ?_⟩
    k_extra "r_C7"
    refine s_if0 rfl ?_
    k_extra "r_C7"
    refine q_isNon ?_
    refine q_test (s_ifD (fun _ => ?_) (fun e => absurd rfl e))
    refine s_if0 rfl ?_
    k_extra "r_C7"
    refine ⟨.ref q, "list", rfl, Pl.lst (S1 _ _ hq), .inr ⟨rfl, q, _, rfl, S1 _ _ hq, by simp, fun y hy => (by simp at hy), fun H3 S3 => ?_⟩⟩
    rw [show ([] : List V).all nmB = true from rfl]
    k_extra "r_C7"
    refine q_isi Pl.bl .bl ?_
    k_extra "r_C7"
    refine s_if0 rfl ?_
    k_extra "r_C7"
    have T3 := S1.trans S3
    refine q_lenL (SqL.of (T3 _ _ hq)) ?_
    k_extra "r_C7"
    refine s_if0 (by simp) ?_
    k_extra "r_C7"
    exact ⟨.ref a, q, rfl, T3 _ _ hq, fun H4 S4 => k H4 (T3.trans S4)⟩
def spPcInit0 (C CP : Addr) : Sp := fun vs H Q _ => ∃ p dx f a l c q, vs = [.ref p, .str f, .ref a, .non, .ref q, .bl true] ∧ H p = some (.ins CP dx []) ∧ Nm f ∧ FormAt C H a l c ∧ H q = some (.lst []) ∧
  ∀ H' fs, H' p = some (.ins CP dx fs) → But p H H' → Q .non H'
theorem ok_piece_init0 {C CP CL f : Addr} {fd : FuncData} (T : Txt K mg) (N : TxtN K mg) (TS : TxtS K mg) (FC : FormC K mg C) (R : TxtR7 K mg) (Y : TxtC7 K mg) (PC : PieceC K mg CP) (XL : ExcF K mg "InvalidLook" "value" CL)
    (F : Fun K "__init__" "Piece.__init__" s_Piece___init__ f fd) : FnOk P w K mg base (L2.CX P w) 4 f fd ["self", "folder", "form", "mark", "names", "ended"] (spPcInit0 C CP) := by
  refine F.okX sc_Piece___init__ (fun vs H Q E h => ?_) (fun cdv A outer s H vs Q E hr h => ?_)
  · obtain ⟨p, dx, f, a, l, c, q, rfl, _⟩ := h
    rfl
  · obtain ⟨p, dx, f, a, l, c, q, rfl, hp, nf, fa, hq, k⟩ := h
    refine ⟨_, (pss_cons (ps_if (pt_not (pt_val (pe_c (ok__is_piece0 T N TS FC R Y) hr (by decide) rfl (pa_cons (pv 1) (pa_cons (pv 2) (pa_cons (pv 3) (pa_cons (pv 4) (pa_cons (pv 5) pa_nil)))))))) (pss_one (ps_raise1 rfl XL hr (by decide) (takes_of rfl rfl rfl rfl) (pe_tup (pa_cons (pv 1) (pa_cons (pv 2) (pa_cons (pv 3) (pa_cons (pv 4) (pa_cons (pv 5) pa_nil)))))))) pss_nil)
      (pss_cons (ps_fld (pv 0) (pv 1) rfl)
      (pss_cons (ps_fld (pv 0) (pv 2) rfl)
      (pss_cons (ps_fld (pv 0) (pv 3) rfl)
      (pss_cons (ps_fld (pv 0) (pe_callTy call_listOf (by rfl) TS.n_list (by decide +kernel) (pa_cons (pv 4) pa_nil)) rfl)
      (pss_cons (ps_fld (pv 0) (pv 5) rfl)
      (pss_cons (ps_fld (pv 0) (pe_ifExp (pt_cmpR op_isNon (pv 3) pe_non (by rfl)) pe_non pe_dead) rfl)
      (pss_one (ps_fld (pv 0) (pe_ifExp (pt_val (pv 5)) pe_non pe_dead) rfl))))))))), ?_⟩
    k_extra "r_C7"
    refine ⟨f, a, l, c, q, rfl, nf, fa, hq, fun H1 S1 => ?_⟩
    k_extra "r_C7"
    refine s_if0 rfl ?_
    k_extra "r_C7"
    have qp : q ≠ p := fun z => by rw [← z, hq] at hp; cases hp
    refine ⟨_, rfl, _, rfl, p, CP, dx, [], rfl, S1 _ _ hp, PC.cl, PC.n1, (by show 0 < 1000; decide), ?_⟩
    refine ⟨_, rfl, _, rfl, p, CP, dx, _, rfl, upd_same, PC.cl, PC.n2, (by show 1 < 1000; decide), ?_⟩
    refine ⟨_, rfl, _, rfl, p, CP, dx, _, rfl, upd_same, PC.cl, PC.n3, (by show 2 < 1000; decide), ?_⟩
    have B2 : But p H (upd (upd (upd H1 p (.ins CP dx (putF "_folder" (.str f) []))) p (.ins CP dx (putF "_form" (.ref a) (putF "_folder" (.str f) [])))) p (.ins CP dx (putF "_mark" .non (putF "_form" (.ref a) (putF "_folder" (.str f) []))))) :=
      fun b o nb e => by rw [upd_ne nb, upd_ne nb, upd_ne nb]; exact S1 _ _ e
    have h2 : (upd (upd (upd H1 p (.ins CP dx (putF "_folder" (.str f) []))) p (.ins CP dx (putF "_form" (.ref a) (putF "_folder" (.str f) [])))) p (.ins CP dx (putF "_mark" .non (putF "_form" (.ref a) (putF "_folder" (.str f) []))))) p = some (.ins CP dx (putF "_mark" .non (putF "_form" (.ref a) (putF "_folder" (.str f) [])))) := upd_same
    generalize (upd (upd (upd H1 p (.ins CP dx (putF "_folder" (.str f) []))) p (.ins CP dx (putF "_form" (.ref a) (putF "_folder" (.str f) [])))) p (.ins CP dx (putF "_mark" .non (putF "_form" (.ref a) (putF "_folder" (.str f) []))))) = H2 at B2 h2 ⊢
    k_extra "r_C7"
    refine s_sFld ?_
    k_extra "r_C7"
    refine q_listL (SqL.of (B2 _ _ qp hq)) fun n H3 n3 S3 h3 => ?_
    refine ⟨_, rfl, p, CP, dx, _, rfl, S3 _ _ h2, PC.cl, PC.n4, (by show 3 < 1000; decide), ?_⟩
    refine ⟨_, rfl, _, rfl, p, CP, dx, _, rfl, upd_same, PC.cl, PC.n5, (by show 4 < 1000; decide), ?_⟩
    k_extra "r_C7"
    refine s_sFld ?_
    k_extra "r_C7"
    refine q_isNon ?_
    refine q_test (s_ifD (fun _ => ?_) (fun e => absurd rfl e))
    refine ⟨_, rfl, p, CP, dx, _, rfl, upd_same, PC.cl, PC.n6, (by show 5 < 1000; decide), ?_⟩
    refine s_sFld ?_
    k_extra "r_C7"
    refine ⟨p, CP, dx, _, rfl, upd_same, PC.cl, PC.n7, (by show 6 < 1000; decide), ?_⟩
    exact k _ _ upd_same fun b o nb e => by rw [upd_ne nb, upd_ne nb, upd_ne nb, upd_ne nb]; exact S3 _ _ (B2 _ _ nb e)
end
section
variable {X : Cx} {C CP CL : Addr} {k : Nat} {p pos : Pos} {e1 e2 e3 e4 e5 : Expr} {t1 t2 t3 t4 t5 : TE}
theorem pe_piece0 (T : Txt X.K X.mg) (N : TxtN X.K X.mg) (TS : TxtS X.K X.mg) (FC : FormC X.K X.mg C) (R : TxtR7 X.K X.mg) (Y : TxtC7 X.K X.mg) (PC : PieceC X.K X.mg CP) (PG : PieceG X.K X.mg CP) (XL : ExcF X.K X.mg "InvalidLook" "value" CL) (hr : Room k X.A) (hk : 5 ≤ k)
    (h1 : PE X e1 t1) (h2 : PE X e2 t2) (h3 : PE X e3 t3) (h4 : PE X e4 t4) (h5 : PE X e5 t5) (hg : Gl X "Piece" := by rfl)
    (s1 : starEach (e1 :: [e2, e3, e4, e5]) X.env = (false, eval e1 X.env) :: starEach [e2, e3, e4, e5] X.env := by rfl) (s2 : starEach (e2 :: [e3, e4, e5]) X.env = (false, eval e2 X.env) :: starEach [e3, e4, e5] X.env := by rfl) (s3 : starEach (e3 :: [e4, e5]) X.env = (false, eval e3 X.env) :: starEach [e4, e5] X.env := by rfl) (s4 : starEach (e4 :: [e5]) X.env = (false, eval e4 X.env) :: starEach [e5] X.env := by rfl) (s5 : starEach (e5 :: []) X.env = (false, eval e5 X.env) :: starEach [] X.env := by rfl) (s6 : (backTo pos (starEach [e2, e3, e4, e5] X.env)).any (·.1) = false := by rfl) :
    PE X (.Call (.Name "Piece" p) [e1, e2, e3, e4, e5] [] pos) (tMake CP (spPcInit0 C CP) [] E0 (tCons t1 (tCons t2 (tCons t3 (tCons t4 (tCons t5 tNil)))))) := by
  obtain ⟨f, fd, i1, i2, F, b⟩ := PG.init
  exact pe_make ⟨PG.makes, i1, i2, PG.kp⟩ (ok_piece_init0 T N TS FC R Y PC XL F) (hr.mono hk) hg PG.g b .nil passL (pa_cons h1 (pa_cons h2 (pa_cons h3 (pa_cons h4 (pa_cons h5 pa_nil s5) s4) s3) s2) s1) (by decide) s1 s6
end
theorem q_piece0 {C CP : Addr} {H : Hp} {Q : Addr → Hp → Prop} {f l : Str} {a q : Addr} {c : Int} (nf : Nm f) (fa : FormAt C H a l c) (hq : H q = some (.lst [])) (k : ∀ p H' dx fs, H p = none → Same H H' → H' p = some (.ins CP dx fs) → Q p H') :
    ∀ x dx, H x = none → H dx = none → dx ≠ x → spPcInit0 C CP [.ref x, .str f, .ref a, .non, .ref q, .bl true] (upd (upd H dx (.own x)) x (.ins CP dx [])) (fun v H2 => v = .non ∧ Q x H2) E0 := fun x dx nx nd ne =>
  ⟨x, dx, f, a, l, c, q, rfl, upd_same, nf, fa.mono (same_made nx nd), same_made nx nd _ _ hq, fun H' fs g B => ⟨rfl, k x H' dx fs nx (fun b o e => B b o (ne_of_none e nx) (same_made nx nd _ _ e)) g⟩⟩
end Bt
namespace Bt
open PySem PySem.Spec PyProof.Rows L2 LamX NdefX
open PySem.W (dataLt dataLe alike AllAlike Sortable)
theorem words87_ : True := by
  k_with "s_L7" => first
    | ((with_reducible refine' s_var ?hv ?_); (case hv => exact rfl))
    | with_reducible first
      | refine' s_c ?_ | refine' s_op ?_ | refine' s_asg ?_ | refine' s_gname ?_ | refine' s_seq ?_ | refine' s_next ?_ | refine' s_ret ?_ | refine' s_ifS ?_ | refine' s_drop ?_ | refine' s_retN ?_ | refine' s_test ?_ | refine' s_B ?_ | refine' q_test ?_ | refine' s_int ?_ | refine' s_cons ?_ | refine' s_nil ?_ | refine' s_call ?_ | refine' s_CB ?_ | refine' s_andT ?_ | refine' s_orT ?_ | refine' s_notT ?_ | refine' s_andV ?_ | refine' s_orV ?_ | refine' s_notV ?_ | refine' s_ifV ?_ | refine' s_chain ?_ | refine' s_sl ?_ | refine' s_noPart ?_ | refine' s_part ?_ | refine' s_gsub ?_ | refine' s_BM ?_ | refine' s_tup ?_ | refine' s_lst ?_ | refine' q_add ?_ | refine' q_sub ?_ | refine' q_lt ?_ | refine' q_le ?_ | refine' q_gt ?_ | refine' q_ge ?_ | refine' s_ifT ?_ | refine' s_ifF ?_ | refine' s_yes ?_ | refine' s_iStr ?_ | refine' s_M0 ?_ | refine' s_for ?_ | refine' s_rng1 ?_ | refine' s_par ?_ | refine' s_gcons ?_ | refine' s_gnil ?_ | refine' s_iList ?_ | refine' s_iEnum ?_ | refine' s_raise1 ?_
      | (refine' q_mod ?hm ?_; (case hm => first | omega | decide))
    | dsimp only
  k_with "r_L7" => repeat (k_extra "s_L7")
  trivial
/-! ### words of the law -/
theorem SqL_but {K : PySem.W.Frag} {H H' : Hp} {a p : Addr} {xs : List V} (n : a ≠ p) (B : But p H H') (h : SqL K H a xs) : SqL K H' a xs := by
  rcases h with (h | ⟨o, h⟩) | h
  · exact .inl (.inl (B _ _ n h))
  · exact .inl (.inr ⟨o, B _ _ n h⟩)
  · exact .inr h
def Sc1 (K : PySem.W.Frag) (H : Hp) (p a : Addr) (xs : List V) : Prop := (a ≠ p ∧ SqL K H a xs) ∨ ∀ H', SqL K H' a xs
theorem Sc1.of {K : PySem.W.Frag} {H H' : Hp} {p a : Addr} {xs : List V} (h : SqL K H a xs) (n : H p = none) (S : Same H H') : Sc1 K H' p a xs := by
  rcases h with (h | ⟨o, h⟩) | h
  · exact .inl ⟨ne_of_none h n, .inl (.inl (S _ _ h))⟩
  · exact .inl ⟨ne_of_none h n, .inl (.inr ⟨o, S _ _ h⟩)⟩
  · exact .inr fun _ => .inr h
theorem Sc1.sq {K : PySem.W.Frag} {H : Hp} {p a : Addr} {xs : List V} (h : Sc1 K H p a xs) : SqL K H a xs := h.elim (fun z => z.2) fun z => z H
theorem Sc1.mono {K : PySem.W.Frag} {H H' : Hp} {p a : Addr} {xs : List V} (S : Same H H') (h : Sc1 K H p a xs) : Sc1 K H' p a xs := h.imp (fun z => ⟨z.1, SqL_monoN (ext_same S) z.2⟩) id
theorem Sc1.but {K : PySem.W.Frag} {H H' : Hp} {p a : Addr} {xs : List V} (B : But p H H') (h : Sc1 K H p a xs) : Sc1 K H' p a xs := h.imp (fun z => ⟨z.1, SqL_but z.1 B z.2⟩) id
theorem Sc1.re {K : PySem.W.Frag} {H H' : Hp} {p a : Addr} {xs : List V} (h : Sc1 K H p a xs) (q : SqL K H' a xs) : Sc1 K H' p a xs := h.imp (fun z => ⟨z.1, q⟩) id
/-- all but lists are kept -/
def NL (H H' : Hp) : Prop := ∀ b o, H b = some o → (∀ xs, o ≠ .lst xs) → H' b = some o
theorem NL.but {H H' : Hp} {p : Addr} {xs : List V} (h : H p = some (.lst xs)) (B : But p H H') : NL H H' := fun b o e n => B b o (fun z => by rw [z, h] at e; exact n _ (Option.some.inj e).symm) e
theorem NL.pu {H H' : Hp} {p : Addr} (h : Purse H p) (B : But p H H') : NL H H' := let ⟨_, _, _, e, _⟩ := h; NL.but e B
theorem PlAt.nl {H H' : Hp} {x : V} {q : Str × Str} (N : NL H H') : PlAt H x q → PlAt H' x q := fun ⟨a, e, h⟩ => ⟨a, e, N _ _ h (fun _ z => by cases z)⟩
theorem Pls.nl {H H' : Hp} {xs : List V} {ps : List (Str × Str)} (N : NL H H') (h : Pls H xs ps) : Pls H' xs ps := by
  induction h with
  | nil => exact .nil
  | cons h _ ih => exact .cons (h.nl N) ih
theorem AnsH.nl {H H' : Hp} {zs : List AZ} (N : NL H H') (h : AnsH H zs) : AnsH H' zs := fun z m => ⟨N _ _ (h z m).1 (fun _ z => by cases z), N _ _ (h z m).2 (fun _ z => by cases z)⟩
theorem AskAt.nl {CA x : Addr} {H H' : Hp} {zs : List AZ} (N : NL H H') : AskAt CA H x zs → AskAt CA H' x zs := fun ⟨dx, d, h1, h2⟩ => ⟨dx, d, N _ _ h1 (fun _ z => by cases z), N _ _ h2 (fun _ z => by cases z)⟩
theorem Pls.app {H : Hp} {xs ys : List V} {ps qs : List (Str × Str)} (h : Pls H xs ps) (g : Pls H ys qs) : Pls H (xs ++ ys) (ps ++ qs) := by
  induction h with
  | nil => exact g
  | cons h _ ih => exact .cons h ih
theorem perm_lift {α β : Type} {f : α → β} {ys xs : List β} (h : ys.Perm xs) : ∀ zs : List α, xs = zs.map f → ∃ zs' : List α, zs'.Perm zs ∧ zs'.map f = ys := by
  induction h with
  | nil => exact fun zs e => ⟨zs, .refl _, e.symm⟩
  | cons x _ ih =>
    intro zs e
    cases zs with
    | nil => cases e
    | cons z zs =>
      injection e with e1 e2
      obtain ⟨w, p, q⟩ := ih zs e2
      exact ⟨z :: w, p.cons z, by rw [List.map_cons, q, e1]⟩
  | swap x y l =>
    intro zs e
    match zs, e with
    | z1 :: z2 :: zs, e =>
      injection e with e1 e2
      injection e2 with e2 e3
      exact ⟨z2 :: z1 :: zs, .swap _ _ _, by rw [List.map_cons, List.map_cons, e1, e2, e3]⟩
  | trans _ _ ih1 ih2 =>
    intro zs e
    obtain ⟨w, p, q⟩ := ih2 zs e
    obtain ⟨w', p', q'⟩ := ih1 w q.symm
    exact ⟨w', p'.trans p, q'⟩
theorem s_dnew {σ : L2.St} {Q : VK} {H : Hp} (h : ∀ p H', H p = none → Same H H' → H' p = some (.dK []) → Q (.ref p) H') : tDNewK σ H Q := fun p n => h p _ n (Same.new n) upd_same
theorem Pl.dct {K : PySem.W.Frag} {H : Hp} {a : Addr} {kvs : List (Key × V)} (h : H a = some (.dK kvs)) : Pl K H (.ref a) "dict" := ⟨.base (.dK h), .dct⟩
theorem noTup_dct {H : Hp} {a : Addr} {kvs : List (Key × V)} (h : H a = some (.dK kvs)) : NoTup H (.ref a) := fun b e => by
  injection e with e
  subst e
  exact ⟨_, h, fun _ z => by cases z⟩
theorem up_cps {z : Str} (nz : Nm z) : (Txt.upper z).cps.toList = z.cps.toList.map PyProof.Rows.up1 := by
  have e : z = SX.S z.cps.toList := rfl
  have hA : z.cps.toList.all (· < 128) = true := List.all_eq_true.mpr fun c hc => decide_eq_true (nz.asc c hc)
  rw [show Txt.upper z = Txt.upper (SX.S z.cps.toList) from rfl, SX.upper_S hA]
theorem upper_nm {z : Str} (nz : Nm z) : (Txt.upper z).length < 64 ∧ ¬ Nm (Txt.upper z) := by
  have e := up_cps nz
  have up : ∀ c ∈ z.cps.toList, PyProof.Rows.up1 c = c - 32 ∧ 97 ≤ c ∧ c ≤ 122 := fun c hc => by
    have := mem_alpha.mp (nz.2.2 c hc)
    unfold PyProof.Rows.up1
    rw [if_pos this]
    exact ⟨rfl, this⟩
  have hl : (Txt.upper z).length = z.length := by rw [len_cps, e, List.length_map, ← len_cps]
  refine ⟨by have := nz.2.1; omega, fun m => ?_⟩
  have hpos : 0 < z.cps.toList.length := by rw [← len_cps]; exact nz.1
  have hb : z.cps.toList[0] ∈ z.cps.toList := List.getElem_mem hpos
  have h1 := m.2.2 (PyProof.Rows.up1 z.cps.toList[0]) (by rw [e]; exact List.mem_map.mpr ⟨_, hb, rfl⟩)
  have := mem_alpha.mp h1
  have := up _ hb
  omega
theorem worldOf_nodup : ∀ {fs ns : List Str}, fs.Nodup → ns.Nodup → (worldOf fs ns).Nodup
  | [], _, _, _ => .nil
  | f :: fs, ns, hf, hn => by
    have ih := worldOf_nodup (List.nodup_cons.mp hf).2 hn
    unfold worldOf at ih ⊢
    rw [List.flatMap_cons]
    refine List.nodup_append.mpr ⟨List.pairwise_map.mpr (hn.imp fun n e => n (Prod.mk.inj e).2), ih, fun a ha b hb e => ?_⟩
    obtain ⟨z, hz, rfl⟩ := List.mem_map.mp ha
    subst e
    obtain ⟨g, hg, hb⟩ := List.mem_flatMap.mp hb
    obtain ⟨y, hy, e⟩ := List.mem_map.mp hb
    exact (List.nodup_cons.mp hf).1 ((Prod.mk.inj e).1 ▸ hg)
theorem worldOf_mem {fs ns : List Str} {q : Str × Str} (h : q ∈ worldOf fs ns) : q.1 ∈ fs ∧ q.2 ∈ ns := by
  unfold worldOf at h
  obtain ⟨f, hf, hb⟩ := List.mem_flatMap.mp h
  obtain ⟨y, hy, rfl⟩ := List.mem_map.mp hb
  exact ⟨hf, hy⟩
/-! ### answers left out and turned -/
theorem ds_rest {zs : List AZ} (nd : (keysA zs).Nodup) {i : Nat} {z : AZ} (h : zs[i]? = some z) : z.2.2.1 ∉ keysA (zs.take i ++ zs.drop (i + 1)) := by
  have lt := List.getElem?_eq_some_iff.mp h
  have hw : zs = zs.take i ++ z :: zs.drop (i + 1) := by rw [← lt.2, ← List.drop_eq_getElem_cons lt.1, List.take_append_drop]
  have pm : zs.Perm (z :: (zs.take i ++ zs.drop (i + 1))) := by
    have := List.perm_middle (a := z) (l₁ := zs.take i) (l₂ := zs.drop (i + 1))
    rwa [← hw] at this
  have := (pm.map fun z : AZ => z.2.2.1).nodup_iff.mp nd
  rw [List.map_cons, List.nodup_cons] at this
  exact this.1
theorem rest_sub {zs : List AZ} {i : Nat} {y : AZ} (h : y ∈ zs.take i ++ zs.drop (i + 1)) : y ∈ zs := (List.mem_append.mp h).elim List.mem_of_mem_take List.mem_of_mem_drop
theorem rest_nd {zs : List AZ} (nd : (keysA zs).Nodup) (i : Nat) : (keysA (zs.take i ++ zs.drop (i + 1))).Nodup := by
  refine List.Nodup.sublist ?_ nd
  refine List.Sublist.map _ ?_
  have h1 : (zs.drop (i + 1)).Sublist (zs.drop i) := List.drop_sublist_drop_left zs (Nat.le_succ i)
  have := (List.Sublist.refl (zs.take i)).append h1
  rwa [List.take_append_drop] at this
theorem ne_rest {zs ws : List AZ} {z : AZ} (m : z ∈ zs) (h : ∀ y ∈ ws, y.2.2 ≠ z.2.2) : dsA zs ≠ dsA ws := fun e => by
  have := (dsA_mem e z.2.2).mp (List.mem_map.mpr ⟨z, m, rfl⟩)
  obtain ⟨y, my, ey⟩ := List.mem_map.mp this
  exact h y my ey
structure Law7 (K : PySem.W.Frag) (mg : Str → Option Value) (CA CP : Addr) : Prop where
  eq : ∃ (f : Addr) (fd : FuncData), PySem.W.findIn K (.ref CA) "__eq__" = some (some (.ref f)) ∧ PySem.W.isFn K (.ref f) = true ∧ Fun K "__eq__" "Ask.__eq__" s_Ask___eq__ f fd ∧ Binds K fd ["self", "other"] []
  kY : PySem.W.kitOne K (.ref CA) (.ref CA) = some true
  kP : PySem.W.kitOne K (.ref CP) (.ref CA) = some false
  kT : PySem.W.kitOne K (.type "tuple") (.ref CA) = some false
  kL : PySem.W.kitOne K (.type "list") (.ref CA) = some false
  nY : PySem.W.notFirst K CA (.ref CA) = true
  nP : PySem.W.notFirst K CA (.ref CP) = true
  nT : PySem.W.notFirst K CA (.type "tuple") = true
  nL : PySem.W.notFirst K CA (.type "list") = true
  i1 : PySem.W.findIn K (.ref CP) "__class__" = some (some (.builtin "object.__class__"))
  i4 : PySem.W.mroIn K CP (.type "object") = some true
section
variable {K : PySem.W.Frag} {mg : Str → Option Value} {H : Hp} {Q : VK} {CA CP x y : Addr} {zs ws : List AZ}
theorem q_askE (AC : AskC K mg CA) (L7 : Law7 K mg CA CP) (hx : AskAt CA H x zs) (nz : NmA (zs.map (·.2.2))) (hy : AskAt CA H y ws) (nw : NmA (ws.map (·.2.2))) (q : ∀ H', Same H H' → Q (.bl (decide (dsA zs = dsA ws))) H') : rEqOwn K CA (spAskEq K CA) E0 (.ref x) (.ref y) H Q := by
  obtain ⟨dx, d, g1, g2⟩ := id hx
  obtain ⟨dy, e, g3, g4⟩ := id hy
  exact ⟨x, dx, _, _, rfl, g1, .base (.ins g3 AC.cl AC.i1 AC.i2 AC.i3 AC.i4), L7.nY, x, .ref y, zs, rfl, hx, nz, .inl ⟨y, ws, rfl, hy, nw, fun H' S => ⟨_, rfl, q H' S⟩⟩⟩
theorem q_askO {v : V} {t : Value} (hx : AskAt CA H x zs) (nz : NmA (zs.map (·.2.2))) (ty : TyX K H v t) (nf : PySem.W.notFirst K CA t = true) (kt : PySem.W.kitOne K t (.ref CA) = some false) (q : ∀ H', Same H H' → Q (.bl false) H') : rEqOwn K CA (spAskEq K CA) E0 (.ref x) v H Q := by
  obtain ⟨dx, d, g1, g2⟩ := id hx
  exact ⟨x, dx, _, _, rfl, g1, ty, nf, x, v, zs, rfl, hx, nz, .inr ⟨t, ty, kt, fun H' S => ⟨_, rfl, q H' S⟩⟩⟩
end
/-! ### odd values -/
def Odd1 (K : PySem.W.Frag) (H : Hp) (y : V) : Prop := PlK K H y false ∧ SelfV K H y
def OddL (K : PySem.W.Frag) (H : Hp) (ys : List V) : Prop := ∀ y ∈ ys, Odd1 K H y
section
variable {K : PySem.W.Frag} {H H' : Hp} {a : Addr}
theorem Odd1.mono {y : V} (S : Same H H') (h : Odd1 K H y) : Odd1 K H' y := ⟨h.1.mono S, h.2.mono S⟩
theorem OddL.mono {ys : List V} (S : Same H H') (h : OddL K H ys) : OddL K H' ys := fun y m => (h y m).mono S
theorem OddL.app {ys us : List V} (h : OddL K H ys) (g : OddL K H us) : OddL K H (ys ++ us) := fun y m => (List.mem_append.mp m).elim (h y) (g y)
theorem OddL.nil : OddL K H [] := fun _ h => by cases h
theorem OddL.cons {y : V} {ys : List V} (h : Odd1 K H y) (g : OddL K H ys) : OddL K H (y :: ys) := fun u m => by
  rcases List.mem_cons.mp m with rfl | m
  · exact h
  · exact g u m
theorem odd_tup {ys : List V} (h : H a = some (.tup ys)) (hy : ∀ y ∈ ys, NameArg K H y) (n : ∃ y ∈ ys, ¬ NmV y) : Odd1 K H (.ref a) :=
  ⟨.tup rfl (Pl.tup h) h hy ⟨(fun z => by cases z), fun ⟨b, u, v, e, h', n1, n2⟩ => by
    injection e with e
    subst e
    rw [h] at h'
    cases h'
    obtain ⟨y, my, ny⟩ := n
    simp only [List.mem_cons, List.not_mem_nil, or_false] at my
    rcases my with rfl | rfl
    · exact absurd n1 ny
    · exact absurd n2 ny⟩, .ref a⟩
theorem odd_len {ys : List V} (h : H a = some (.tup ys)) (hy : ∀ y ∈ ys, NameArg K H y) (n : ys.length ≠ 2) : Odd1 K H (.ref a) := ⟨plk_len h hy n, .ref a⟩
theorem odd_flat {v : V} {T : String} (h : Pl K H v T) (n : T ≠ "tuple") (f : ∀ a, v ≠ .ref a) (s : SelfV K H v) : Odd1 K H v := ⟨plk_flat h n f, s⟩
theorem odd_lst {xs : List V} (h : H a = some (.lst xs)) : Odd1 K H (.ref a) := ⟨.no (Pl.lst h) (by decide) (noTup_lst h), .ref a⟩
theorem odd_dct {kvs : List (Key × V)} (h : H a = some (.dK kvs)) : Odd1 K H (.ref a) := ⟨.no (Pl.dct h) (by decide) (noTup_dct h), .ref a⟩
theorem na_ref {T : String} (h : Pl K H (.ref a) T) : NameArg K H (.ref a) := ⟨T, h, fun _ e => by cases e⟩
theorem na_str {z : Str} (h : z.length < 64) : NameArg K H (.str z) := ⟨"str", Pl.str, fun y e => by cases e; exact h⟩
theorem na_bl {b : Bool} : NameArg K H (.bl b) := ⟨"bool", Pl.bl, fun _ e => by cases e⟩
theorem nn_ref : ¬ NmV (.ref a) := fun ⟨_, e, _⟩ => by cases e
theorem nn_str {z : Str} (h : ¬ Nm z) : ¬ NmV (.str z) := fun ⟨_, e, n⟩ => by cases e; exact h n
theorem nn_empty : ¬ Nm "" := fun h => absurd h.1 (by decide)
theorem na2 {x y : V} (h1 : NameArg K H x) (h2 : NameArg K H y) : ∀ u ∈ [x, y], NameArg K H u := fun u m => by
  simp only [List.mem_cons, List.not_mem_nil, or_false] at m
  rcases m with rfl | rfl
  · exact h1
  · exact h2
end
end Bt
namespace Bt
open PySem PySem.Spec PyProof.Rows L2 LamX NdefX
open PySem.W (dataLt dataLe alike AllAlike Sortable)
theorem words88_ : True := by
  k_with "s_LL7" => first
    | ((with_reducible refine' s_var ?hv ?_); (case hv => exact rfl))
    | with_reducible first
      | refine' s_c ?_ | refine' s_op ?_ | refine' s_asg ?_ | refine' s_gname ?_ | refine' s_seq ?_ | refine' s_next ?_ | refine' s_ret ?_ | refine' s_ifS ?_ | refine' s_drop ?_ | refine' s_retN ?_ | refine' s_test ?_ | refine' s_B ?_ | refine' q_test ?_ | refine' s_int ?_ | refine' s_cons ?_ | refine' s_nil ?_ | refine' s_call ?_ | refine' s_CB ?_ | refine' s_andT ?_ | refine' s_orT ?_ | refine' s_notT ?_ | refine' s_andV ?_ | refine' s_orV ?_ | refine' s_notV ?_ | refine' s_ifV ?_ | refine' s_chain ?_ | refine' s_sl ?_ | refine' s_noPart ?_ | refine' s_part ?_ | refine' s_gsub ?_ | refine' s_BM ?_ | refine' s_tup ?_ | refine' s_lst ?_ | refine' q_add ?_ | refine' q_sub ?_ | refine' q_lt ?_ | refine' q_le ?_ | refine' q_gt ?_ | refine' q_ge ?_ | refine' s_ifT ?_ | refine' s_ifF ?_ | refine' s_yes ?_ | refine' s_iStr ?_ | refine' s_M0 ?_ | refine' s_for ?_ | refine' s_rng1 ?_ | refine' s_par ?_ | refine' s_gcons ?_ | refine' s_gnil ?_ | refine' s_iList ?_ | refine' s_iEnum ?_ | refine' s_raise1 ?_
      | (refine' q_mod ?hm ?_; (case hm => first | omega | decide))
    | dsimp only
  k_with "r_LL7" => repeat (k_extra "s_LL7")
  trivial
/-! ### the law -/
structure W7 (K : PySem.W.Frag) (CA : Addr) (H : Hp) (a : Addr) (ns : List Int) (pu lp an ask : Addr) (xs : List V) (ps : List (Str × Str)) (zs : List AZ) : Prop where
  sc : Sc1 K H pu a (ns.map V.int)
  pp : Purse H pu
  pl : H lp = some (.lst xs)
  al : Pls H xs ps
  ha : H an = some (.lst (zs.map fun z : AZ => V.ref z.1))
  aH : AnsH H zs
  hx : AskAt CA H ask zs
theorem W7.mono {K : PySem.W.Frag} {CA : Addr} {H H' : Hp} {a : Addr} {ns : List Int} {pu lp an ask : Addr} {xs : List V} {ps : List (Str × Str)} {zs : List AZ} (S : Same H H') (h : W7 K CA H a ns pu lp an ask xs ps zs) : W7 K CA H' a ns pu lp an ask xs ps zs :=
  ⟨h.sc.mono S, h.pp.mono S, S _ _ h.pl, h.al.mono S, S _ _ h.ha, h.aH.mono S, h.hx.mono S⟩
theorem nm_q : Nm "qqqqqqqq" := ⟨by decide, by decide, by decide +kernel⟩
section
variable {P : Program} {w : World} {K : PySem.W.Frag} {mg : Str → Option Value} {base : Heap} {C CA CP CI CL CX CLk : Addr}
def spLaw (K : PySem.W.Frag) : Sp := fun vs H Q _ => ∃ (a : Addr) (ns : List Int), vs = [.ref a] ∧ SqL K H a (ns.map V.int) ∧ ns.length ≤ 63 ∧ ∀ H', Q (.bl true) H'
theorem ok_law {f : Addr} {fd : FuncData} (X0 : Txt K mg) (L : TxtL K mg) (NN : TxtN K mg) (TS : TxtS K mg) (I : TxtI K mg) (BW : TxtB K mg) (A7 : TxtA7 K mg) (F7 : TxtF7 K mg) (G7 : TxtG7 K mg) (I7 : TxtI7 K mg) (J7 : TxtJ7 K mg) (K7 : TxtK7 K mg CA CLk CP) (M7 : TxtM7 K mg) (R7 : TxtR7 K mg) (C7 : TxtC7 K mg)
    (FC : FormC K mg C) (PC : PieceC K mg CP) (PG : PieceG K mg CP) (AC : AskC K mg CA) (AP : AskP K CA) (AI : AskI K CA) (L7 : Law7 K mg CA CP) (XI : ExcF K mg "InvalidForm" "value" CI) (XL : ExcF K mg "InvalidLook" "value" CL) (XP : ExcF K mg "InvalidPlace" "value" CX) (F : Fun K "law" "law" s_law f fd) : FnOk P w K mg base CX0 9 f fd ["_law_script"] (spLaw K) := by
  obtain ⟨fq, fdq, e1, e2, FQ, be⟩ := L7.eq
  obtain ⟨fi, fdi, i1, i2, Fi, bi⟩ := AI.inn
  refine F.ok sc_law (fun vs H Q E h => ?_) (fun cdv A outer s H vs Q E hr h => ?_)
  · obtain ⟨a, ns, rfl, _⟩ := h
    rfl
  · obtain ⟨a, ns, rfl, hs, h63, k⟩ := h
    have hu := hr.units
    refine ⟨_, (pss_cons (ps_for PassesOwn.never rfl (pi_range1 rfl L.n_range (pa_cons pe_int pa_nil)) (pg_name (i := 1) sc_law.nd rfl (.inl rfl))
        (pss_cons (ps_set (i := 2) sc_law.nd rfl (.inr rfl) (pe_c (ok__law_purse X0 L) hr (by decide) rfl (pa_cons (pv 0) (pa_cons (pv 1) pa_nil))))
          (pss_cons (ps_set (i := 3) sc_law.nd rfl (.inl rfl) (pe_c (ok__law_world L NN BW) hr (by decide) rfl (pa_cons (pv 2) pa_nil)))
          (pss_cons (ps_set (i := 4) sc_law.nd rfl (.inl rfl) (pe_slice sl_list (pe_c (ok__law_shuffled L NN F7) hr (by decide) rfl (pa_cons (pv 2) (pa_cons (pv 3) pa_nil))) po_none (po_some (pe_c (ok__law_draw L) hr (by decide) rfl (pa_cons (pv 2) (pa_cons pe_int pa_nil))))))
          (C8.pss_cut (ps_setLc (i := 5) (own := [("_law_place", 16)]) (g := gName 16) (tt := tYes) (te := tTup (tCons (tVar 16) (tCons (tOp (rEqU K) (tCall spDraw [] E0 (tCons (tVar 2) (tCons (tC (.int 2)) tNil))) (tC (.int 0))) tNil))) rfl sc_law.nd rfl rfl (sw_true rfl rfl rfl (by decide +kernel)) (pi_list (pv 4)) (blkOk_by (own := [("_law_place", 16)]) (N := ["_law_script", "_law_at", "_law_purse_here", "_law_places", "_law_chosen", "_law_answers", "_law_handed", "_law_ask", "_law_twin", "_law_around", "_law_k", "_law_rest", "_law_one", "_law_home", "_law_name_here", "_law_odd", "_law_place"]) (sc := defScope s_law) (by decide +kernel)) (fun _ _ _ _ _ => pg_name (i := 16) sc_law.nd rfl (Or.inl rfl)) (fun _ _ _ _ _ => pts_nil) (fun _ _ _ _ _ => by exact (pe_tup (pa_cons (pv 16) (pa_cons (pe_cmpR (op_eqU hu) (pe_c (ok__law_draw L) hr (by decide) rfl (pa_cons (pv 2) (pa_cons pe_int pa_nil))) pe_int (by rfl)) pa_nil)))))
          (pss_cons (ps_set (i := 6) sc_law.nd rfl (.inl rfl) (pe_callTy call_listOf (by rfl) TS.n_list (by decide +kernel) (pa_cons (pv 5) pa_nil)))
          (pss_cons (ps_par (i := 7) (j := 8) (by rfl) sc_law.nd rfl rfl (by decide) rfl rfl (pa_cons (pe_ask X0 NN TS I A7 AC XL hr (by decide) (pv 6)) (pa_cons (pe_ask X0 NN TS I A7 AC XL hr (by decide) (pe_c (ok__law_shuffled L NN F7) hr (by decide) rfl (pa_cons (pv 2) (pa_cons (pv 5) pa_nil)))) pa_nil)) (by rfl))
          (pss_cons (ps_if (pt_cmpR (op_neU hu) (pv 6) (pv 5) (by rfl)) (pss_one (ps_ret pe_bl)) pss_nil)
          (C8.pss_cut (ps_expr (pe_bm PySem.F.plainAttrs_list PySem.F.slot_list_append PySem.F.type_list_append mt_append (pv 6) (pa_cons pe_int pa_nil)))
          (C8.pss_cut (ps_if (PW.pt (pw_or (pt_not (pt_val (pe_c (ok__law_told X0 TS AC AP K7) hr (by decide) rfl (pa_cons (pv 7) (pa_cons (pv 5) pa_nil))))) (pw_or (pt_not (pt_cmpR (op_eqOwn (ok_ask_eq X0 TS AC AP L7.kY FQ) (hr.mono (by decide)) e1 e2 be pass0) (pv 7) (pv 8) (by rfl))) (pw_or (pt_cmpR (op_eqOwn (ok_ask_eq X0 TS AC AP L7.kY FQ) (hr.mono (by decide)) e1 e2 be pass0) (pv 7) (pv 5) (by rfl)) (pw_or1 (pt_cmpR (op_eqOwn (ok_ask_eq X0 TS AC AP L7.kY FQ) (hr.mono (by decide)) e1 e2 be pass0) (pv 7) (pe_callTy call_tupL (by rfl) X0.n_tuple (by decide +kernel) (pa_cons (pe_callB (cr_sortD hu) (by rfl) X0.n_sorted (by decide +kernel) (pa_cons (pv 5) pa_nil)) pa_nil)) (by rfl))))))) (pss_one (ps_ret pe_bl)) pss_nil)
          (pss_cons (ps_set (i := 9) sc_law.nd rfl (.inl rfl) (pe_op op_addU (pv 3) (pe_lst (pa_cons (pe_tup (pa_cons (pe_ix ix_seq (pe_ix ix_seq (pv 3) pe_int (fun _ _ => rfl)) pe_int (fun _ _ => rfl)) (pa_cons (pe_ix ix_seq (pe_ix ix_seq (pv 3) pe_int (fun _ _ => rfl)) pe_int (fun _ _ => rfl)) pa_nil))) (pa_cons (pe_tup (pa_cons (pe_ix ix_seq (pe_ix ix_seq (pv 3) pe_int (fun _ _ => rfl)) pe_int (fun _ _ => rfl)) (pa_cons pe_str pa_nil))) pa_nil)))))
          (C8.pss_cut (ps_if (pt_not (pt_val (pe_c (ok__law_heard X0 NN I F7 AC AP AI XP J7) hr (by decide) rfl (pa_cons (pv 7) (pa_cons (pv 5) (pa_cons (pv 9) pa_nil)))))) (pss_one (ps_ret pe_bl)) pss_nil)
          (pss_cons (ps_for PassesOwn.never rfl (pi_range1 rfl L.n_range (pa_cons (pe_callB call_lenQ (by rfl) NN.n_len (by decide +kernel) (pa_cons (pv 5) pa_nil)) pa_nil)) (pg_name (i := 10) sc_law.nd rfl (.inl rfl))
            (pss_cons (ps_set (i := 11) sc_law.nd rfl (.inl rfl) (pe_op op_addU (pe_slice sl_list (pv 5) po_none (po_some (pv 10))) (pe_slice sl_list (pv 5) (po_some (pe_op op_addU (pv 10) pe_int)) po_none)))
              (pss_one (ps_for PassesOwn.never rfl (pi_list (pe_lst (pa_cons (pe_ask X0 NN TS I A7 AC XL hr (by decide) (pv 11)) (pa_cons (pe_ask X0 NN TS I A7 AC XL hr (by decide) (pe_lst pa_nil)) (pa_cons (pe_ask X0 NN TS I A7 AC XL hr (by decide) (pe_op op_addU (pv 11) (pe_lst (pa_cons (pe_tup (pa_cons (pe_ix ix_seq (pe_ix ix_seq (pv 5) (pv 10) (fun _ _ => rfl)) pe_int (fun _ _ => rfl)) (pa_cons (pe_not (pe_ix ix_seq (pe_ix ix_seq (pv 5) (pv 10) (fun _ _ => rfl)) pe_int (fun _ _ => rfl))) pa_nil))) pa_nil)))) pa_nil))))) (pg_name (i := 12) sc_law.nd rfl (.inl rfl))
                (pss_one (ps_if (PW.pt (pw_or (pt_cmpR (op_eqOwn (ok_ask_eq X0 TS AC AP L7.kY FQ) (hr.mono (by decide)) e1 e2 be pass0) (pv 7) (pv 12) (by rfl)) (pw_or1 (pt_cmpR (op_eqOwn (ok_ask_eq X0 TS AC AP L7.kY FQ) (hr.mono (by decide)) e1 e2 be pass0) (pv 12) (pv 7) (by rfl))))) (pss_one (ps_ret pe_bl)) pss_nil))))))
          (pss_cons (ps_if (pt_cmpR (op_eqOwn (ok_ask_eq X0 TS AC AP L7.kY FQ) (hr.mono (by decide)) e1 e2 be pass0) (pv 7) (pe_piece0 X0 NN TS FC R7 C7 PC PG XL hr (by decide) (pe_ix ix_seq (pe_ix ix_seq (pv 3) pe_int (fun _ _ => rfl)) pe_int (fun _ _ => rfl)) (pe_form0 X0 FC XI hr (by decide)) pe_non (pe_lst pa_nil) pe_bl) (by rfl)) (pss_one (ps_ret pe_bl)) pss_nil)
          (pss_cons (ps_asg (pe_ix ix_seq (pv 3) pe_int (fun _ _ => rfl)) (pg_tup (by rfl) (pgs_cons (pg_name (i := 13) sc_law.nd rfl (.inl rfl)) (pgs_cons (pg_name (i := 14) sc_law.nd rfl (.inl rfl)) pgs_nil))))
          (C8.pss_cut (ps_set (i := 15) sc_law.nd rfl (.inl rfl) (pe_lst (pa_cons (pv 13) (pa_cons (pe_lst (pa_cons (pv 13) (pa_cons (pv 14) pa_nil))) (pa_cons pe_non (pa_cons (pe_tup (pa_cons (pv 13) pa_nil)) (pa_cons (pe_tup (pa_cons (pe_ix ix_seq (pv 3) pe_int (fun _ _ => rfl)) (pa_cons pe_bl pa_nil))) (pa_cons pe_int (pa_cons (pv 5) (pa_cons (pe_tup (pa_cons (pe_lst (pa_cons (pv 13) pa_nil)) (pa_cons (pv 14) pa_nil))) (pa_cons (pe_tup (pa_cons (pv 13) (pa_cons pe_dnewK pa_nil))) (pa_cons pe_dnewK (pa_cons (pe_tup pa_nil) pa_nil)))))))))))))
          (C8.pss_cut (ps_set (i := 15) sc_law.nd rfl (.inl rfl) (pe_op op_addU (pv 15) (pe_lst (pa_cons (pe_tup (pa_cons pe_str (pa_cons (pv 14) pa_nil))) (pa_cons (pe_tup (pa_cons (pv 13) (pa_cons pe_str pa_nil))) (pa_cons (pe_tup (pa_cons (pe_upper (pv 13)) (pa_cons (pv 14) pa_nil))) (pa_cons (pe_tup (pa_cons (pe_op op_addU (pv 13) pe_str) (pa_cons (pv 14) pa_nil))) pa_nil)))))))
          (pss_cons (ps_for PassesOwn.never rfl (pi_list (pe_op op_addU (pv 15) (pe_lst (pa_cons (pe_tup (pa_cons (pv 13) (pa_cons (pe_lst (pa_cons (pv 14) pa_nil)) pa_nil))) (pa_cons (pe_tup (pa_cons (pv 13) (pa_cons (pv 14) (pa_cons (pv 14) pa_nil)))) (pa_cons (pe_tup (pa_cons (pv 13) (pa_cons (pe_upper (pv 14)) pa_nil))) pa_nil)))))) (pg_name (i := 12) sc_law.nd rfl (.inl rfl))
            (pss_one (ps_if (PW.pt (pw_or (pt_cmpR (op_inOwn (ok_ask_in X0 NN I AC Fi) (hr.mono (by decide)) i1 i2 bi pass0) (pv 12) (pv 7) (by rfl)) (pw_or1 (pt_not (pt_val (pe_c (ok__law_raises X0 NN I AC AP XP G7) hr (by decide) rfl (pa_cons (pv 7) (pa_cons (pv 12) pa_nil)))))))) (pss_one (ps_ret pe_bl)) pss_nil)))
          (pss_one (ps_if (pt_cmpR (op_neU hu) (pe_lc (own := [("_law_one", 12)]) (g := gName 12) (tt := tNot (tB (tCall (spRefused K) [] E0 (tCons (tVar 12) tNil)))) (te := tVar 12) rfl sc_law.nd (pi_list (pe_c (ok__law_bad X0 L NN M7) hr (by decide) rfl (pa_cons (pv 2) (pa_cons (pv 5) (pa_cons (pe_ix ix_seq (pv 3) pe_int (fun _ _ => rfl)) pa_nil))))) (blkOk_by (own := [("_law_one", 12)]) (N := ["_law_script", "_law_at", "_law_purse_here", "_law_places", "_law_chosen", "_law_answers", "_law_handed", "_law_ask", "_law_twin", "_law_around", "_law_k", "_law_rest", "_law_one", "_law_home", "_law_name_here", "_law_odd", "_law_place"]) (sc := defScope s_law) (by decide +kernel)) (fun _ _ _ _ _ => pg_name (i := 12) sc_law.nd rfl (Or.inl rfl)) (fun _ _ _ _ _ => by exact pts_one (pt_not (pt_val (pe_c (ok__law_refused X0 NN TS I A7 AC XL I7) hr (by decide) rfl (pa_cons (pv 12) pa_nil))))) (fun _ _ _ _ _ => (pv 12))) (pe_lst pa_nil) (by rfl)) (pss_one (ps_ret pe_bl)) pss_nil))))))))))))))))))))
      (pss_one (ps_ret pe_bl))), ?_⟩
    k_extra "r_LL7"
    refine ⟨4, rfl, by decide, by decide, q_forR (lo := 0) (n := 4) (fun i σ H' => ∃ v1 v2 v3 v4 v5 v6 v7 v8 v9 v10 v11 v12 v13 v14 v15 : Option V, σ = [some (.ref a), v1, v2, v3, v4, v5, v6, v7, v8, v9, v10, v11, v12, v13, v14, v15, none] ∧ SqL K H' a (ns.map V.int)) ⟨_, _, _, _, _, _, _, _, _, _, _, _, _, _, _, rfl, hs⟩ ?_ ?_⟩
    rotate_left
    · rintro σ H0 ⟨v1, v2, v3, v4, v5, v6, v7, v8, v9, v10, v11, v12, v13, v14, v15, rfl, hs0⟩
      k_extra "r_LL7"
      exact k H0
    rintro i σ H0 hi ⟨v1, v2, v3, v4, v5, v6, v7, v8, v9, v10, v11, v12, v13, v14, v15, rfl, hs0⟩
    k_extra "r_LL7"
    refine ⟨a, ns, 0 + (i : Int), rfl, hs0, by omega, by omega, fun pu H1 np S1 hp1 => ?_⟩
    k_extra "r_LL7"
    refine ⟨pu, rfl, hp1, fun lp H2 xs fs nns nlp hl pls nf nn f3 n6 hp2 b2 => ?_⟩
    have sc2 : Sc1 K H2 pu a (ns.map V.int) := (Sc1.of hs0 np S1).but b2
    have wl : xs.length = (worldOf fs nns).length := pls.len
    have wz : xs.length ≤ 18 := by
      rw [wl, worldOf_len]
      exact Nat.le_trans (Nat.mul_le_mul f3 n6) (by decide)
    have wne : xs ≠ [] := fun z => by
      have : 0 < (worldOf fs nns).length := by
        rw [worldOf_len]
        exact Nat.mul_pos (List.length_pos_iff.mpr nf.2.2) (List.length_pos_iff.mpr nn.2.2)
      rw [← wl, z] at this
      cases this
    have wd := worldOf_nodup nf.2.1 nn.2.1
    have wn : ∀ q ∈ worldOf fs nns, Nm q.1 ∧ Nm q.2 := fun q hq => ⟨nf.1 _ (worldOf_mem hq).1, nn.1 _ (worldOf_mem hq).2⟩
    obtain ⟨ps, eps⟩ : ∃ ps, ps = worldOf fs nns := ⟨_, rfl⟩
    rw [← eps] at wl wd wn pls
    have npu : ∀ {b : Addr}, H1 b = none → b ≠ pu := fun e z => by obtain ⟨_, _, _, e2, _⟩ := hp1; rw [z, e2] at e; cases e
    have lpu := npu nlp
    clear eps nf nn f3 n6 b2
    k_extra "r_LL7"
    refine ⟨pu, lp, xs, rfl, hp2, hl, lpu, by omega, fun ch H3 ys nch hch pm hp3 b3 => ?_⟩
    k_extra "r_LL7"
    refine ⟨pu, 19, rfl, hp3, by decide, by decide, fun n H4 n0 n1 hp4 b4 => ?_⟩
    obtain ⟨j, rfl⟩ : ∃ j : Nat, n = j := ⟨n.toNat, by omega⟩
    have b24 : But pu H2 H4 := b3.trans b4
    have chp : ch ≠ pu := fun z => by obtain ⟨_, _, _, e2, _⟩ := hp2; rw [z, e2] at nch; cases nch
    refine ⟨(j : Int), rfl, ?_⟩
    refine q_slL (SqL.of (b4 _ _ chp hch)) fun L1 H5 nL S5 h5 => ?_
    rw [cutV_take] at h5
    k_extra "r_LL7"
    obtain ⟨prs, ex, eq, hpr⟩ := pls.pairs
    obtain ⟨prs', pm', ey⟩ := perm_lift pm prs ex.symm
    obtain ⟨cs, ecs⟩ : ∃ cs, cs = prs'.take j := ⟨_, rfl⟩
    have h5' : H5 L1 = some (.lst (cs.map (·.1))) := by rw [h5, ← ey, ecs, List.map_take]
    have cnd : (cs.map (·.2)).Nodup := by
      have : (prs'.map (·.2)).Nodup := (pm'.map _).nodup_iff.mpr (by rw [eq]; exact wd)
      rw [ecs]
      exact this.sublist (List.Sublist.map _ (List.take_sublist _ _))
    have clen : cs.length ≤ 18 := by
      have l1 : prs'.length = ys.length := by rw [← ey, List.length_map]
      have l2 := pm.length_eq
      rw [ecs, List.length_take]
      omega
    have cmem : ∀ z ∈ cs, PlAt H2 z.1 z.2 ∧ Nm z.2.1 ∧ Nm z.2.2 := fun z hz => by
      have m1 : z ∈ prs := pm'.mem_iff.mp (List.mem_of_mem_take (by rw [← ecs]; exact hz))
      exact ⟨hpr z m1, wn z.2 (by rw [← eq]; exact List.mem_map.mpr ⟨z, m1, rfl⟩)⟩
    have b25 : But pu H2 H5 := b24.trans (But.of S5)
    have hp5 := hp4.mono S5
    have Lpu : L1 ≠ pu := fun z => by obtain ⟨_, _, _, e2, _⟩ := hp4; rw [z, e2] at nL; cases nL
    clear h5 ecs hch pm pm' ey ex eq hpr b3 b4 b24 S5 hp4
    refine q_cut8 (M := fun σ H' => ∃ an zs, σ = [some (.ref a), some (.int (0 + (i : Int))), some (.ref pu), some (.ref lp), some (.ref L1), some (.ref an), v6, v7, v8, v9, v10, v11, v12, v13, v14, v15, none] ∧ an ≠ pu ∧ Sc1 K H' pu a (ns.map V.int) ∧ Purse H' pu ∧ H' lp = some (.lst xs) ∧ Pls H' xs ps ∧
      H' an = some (.lst (zs.map fun z : AZ => V.ref z.1)) ∧ AnsH H' zs ∧ (keysA zs).Nodup ∧ NmA (zs.map (·.2.2)) ∧ zs.length ≤ 18) ?_ ?_
    · k_extra "r_LL7"
      refine s_lc ?_
      k_extra "r_LL7"
      have npu5 : ∀ {b : Addr}, H5 b = none → b ≠ pu := fun e z => by obtain ⟨_, _, _, e2, _⟩ := hp5; rw [z, e2] at e; cases e
      refine ⟨L1, rfl, ⟨_, SqL.of h5'⟩, fun D nD => lc_list (K := K) (a := L1) (xs := cs.map (·.1)) (fun i H' => ∃ zs : List AZ, H' D = some (.lst (zs.map fun z => V.ref z.1)) ∧ AnsH H' zs ∧ zs.map (·.2.2.1) = (cs.take i).map (·.2) ∧ Purse H' pu ∧ But pu H5 H')
        ⟨[], upd_same, (fun _ h => by cases h), rfl, hp5.mono (Same.new nD), But.of (Same.new nD)⟩ (fun i H' _ ⟨_, _, _, _, _, B⟩ => ?_) ?_ ?_⟩
      · exact SqL.of (B _ _ Lpu h5')
      · rintro jj y H6 hy ⟨zs, hD, an, ek, pu6, b6⟩
        k_extra "r_LL7"
        refine ⟨rfl, ?_⟩
        rw [List.getElem?_map] at hy
        obtain ⟨z, hz, rfl⟩ := Option.map_eq_some_iff.mp hy
        have lt := (List.getElem?_eq_some_iff.mp hz).1
        obtain ⟨⟨b, eb, hb⟩, -⟩ := cmem z (List.mem_of_getElem? hz)
        have hb6 : H6 b = some (.tup [.str z.2.1, .str z.2.2]) := b6 _ _ (fun e => by obtain ⟨_, _, _, e2, _⟩ := hp2; rw [e, e2] at hb; cases hb) (b25 _ _ (fun e => by obtain ⟨_, _, _, e2, _⟩ := hp2; rw [e, e2] at hb; cases hb) hb)
        have lz : zs.length ≤ jj := by
          have := congrArg List.length ek
          rw [List.length_map, List.length_map, List.length_take] at this
          omega
        rw [eb]
        k_extra "r_LL7"
        refine ⟨pu, 2, rfl, pu6, by decide, by decide, fun m H7 m0 m1 pu7 b7 => ?_⟩
        refine q_eq rfl ?_
        generalize decide (V.int m = V.int 0) = bb
        k_extra "r_LL7"
        refine q_newT (by show 2 ≤ sizeLine; decide) fun T H8 n8 S8 h8 => ?_
        have Dpu := npu5 nD
        have hD8 := S8 _ _ (b7 _ _ Dpu hD)
        have N8 : ∀ u, NL H8 (upd H8 D (.lst u)) := fun u => NL.but hD8 But.upd
        refine ⟨_, hD8, by rw [List.length_map]; exact szlt (by omega), zs ++ [(T, b, z.2, bb)], by rw [upd_same, List.map_append]; rfl, ?_, ?_, ?_, fun c o nc e => (upd_ne (ne_of_none e nD)).trans (S8 _ _ (b7 _ _ nc (b6 _ _ nc e)))⟩
        · intro y my
          rcases List.mem_append.mp my with my | my
          · exact (((an.nl (NL.pu pu6 b7)).mono S8).nl (N8 _)) y my
          · rw [List.mem_singleton.mp my]
            exact ⟨N8 _ _ _ h8 (fun _ z => by cases z), N8 _ _ _ (S8 _ _ ((NL.pu pu6 b7) _ _ hb6 (fun _ z => by cases z))) (fun _ z => by cases z)⟩
        · rw [List.map_append, ek, take_map_more hz]
          rfl
        · obtain ⟨_, _, _, e2, h2⟩ := pu7.mono S8
          exact ⟨_, _, _, (upd_ne Dpu.symm).trans e2, h2⟩
      · rintro H6 ⟨zs, hD, an, ek, pu6, b6⟩
        k_extra "r_LL7"
        rw [List.take_of_length_le (by simp)] at ek
        have ek' : keysA zs = cs.map (·.2) := ek
        have b26 := b25.trans b6
        refine ⟨D, zs, rfl, npu5 nD, sc2.but b26, pu6, b26 _ _ lpu hl, pls.nl (NL.pu hp2 b26), hD, an, by rw [ek']; exact cnd, fun d hd => ?_, ?_⟩
        · obtain ⟨z, mz, rfl⟩ := List.mem_map.mp hd
          have m1 : z.2.2.1 ∈ keysA zs := List.mem_map.mpr ⟨z, mz, rfl⟩
          rw [ek'] at m1
          obtain ⟨c, mc, ec⟩ := List.mem_map.mp m1
          rw [← ec]
          exact (cmem c mc).2
        · have := congrArg List.length ek
          rw [List.length_map, List.length_map] at this
          omega
    clear h5' cnd clen cmem b25 hp5 Lpu sc2 hl pls hp2
    rintro σ H6 ⟨an, zs, rfl, apu, sc6, hp6, hl6, pls6, ha6, aH6, nd, nm, zl⟩
    k_extra "r_LL7"
    refine q_listL (SqL.of ha6) fun hd H7 n7 S7 h7 => ?_
    have hdpu : hd ≠ pu := fun z => by obtain ⟨_, _, _, e2, _⟩ := hp6; rw [z, e2] at n7; cases n7
    k_extra "r_LL7"
    refine s_make ?_
    k_extra "r_LL7"
    refine q_ask h7 (by omega) (aH6.mono S7) nm nd fun x H8 n8 S8 hx8 => ?_
    have S68 := S7.trans S8
    k_extra "r_LL7"
    have hp8 := hp6.mono S68
    refine s_make ?_
    k_extra "r_LL7"
    refine ⟨pu, an, _, rfl, hp8, S68 _ _ ha6, apu, by rw [List.length_map]; omega, fun D H9 ys nD hD pm hp9 b9 => ?_⟩
    obtain ⟨ws, pm2, rfl⟩ := perm_lift pm zs rfl
    have N9 := NL.pu hp8 b9
    have ndw : (keysA ws).Nodup := (pm2.map fun z : AZ => z.2.2.1).nodup_iff.mpr nd
    have nmw : NmA (ws.map (·.2.2)) := fun d hd => nm d ((pm2.map (·.2.2)).mem_iff.mp hd)
    have wl2 := pm2.length_eq
    have aW9 : AnsH H9 ws := fun z m => ((aH6.mono S68).nl N9) z (pm2.mem_iff.mp m)
    k_extra "r_LL7"
    refine q_ask hD (by omega) aW9 nmw ndw fun tw H10 n10 S10 tw10 => ?_
    refine ⟨_, _, rfl, ?_⟩
    k_extra "r_LL7"
    have hx10 : AskAt CA H10 x zs := (hx8.nl N9).mono S10
    have hh10 : H10 hd = some (.lst (zs.map fun z : AZ => V.ref z.1)) := S10 _ _ (b9 _ _ hdpu (S8 _ _ h7))
    have ha10 : H10 an = some (.lst (zs.map fun z : AZ => V.ref z.1)) := S10 _ _ (b9 _ _ apu (S68 _ _ ha6))
    have aH10 : AnsH H10 zs := ((aH6.mono S68).nl N9).mono S10
    have sc10 : Sc1 K H10 pu a (ns.map V.int) := ((sc6.mono S68).but b9).mono S10
    have sd10 : Sc1 K H10 hd a (ns.map V.int) := (Sc1.of sc6.sq n7 S7).re sc10.sq
    have hp10 := hp9.mono S10
    have hl10 := S10 _ _ (b9 _ _ lpu (S68 _ _ hl6))
    have pls10 := ((pls6.mono S68).nl N9).mono S10
    have hlp : hd ≠ lp := fun z => by rw [z, hl6] at n7; cases n7
    have han : hd ≠ an := fun z => by rw [z, ha6] at n7; cases n7
    clear n7 S7 h7 n8 S8 hx8 S68 hp8 nD hD pm hp9 b9 N9 aW9 n10 S10 ha6 aH6 hl6 pls6 sc6 hp6
    refine q_neD (aH10.dp hh10) (aH10.dp ha10) (sh_as nm) (sh_as nm) ?_
    rw [eqv_as, decide_eq_true rfl]
    refine q_test (s_if0 rfl ?_)
    k_extra "r_LL7"
    refine q_cut8 (M := fun σ H' => σ = [some (.ref a), some (.int (0 + (i : Int))), some (.ref pu), some (.ref lp), some (.ref L1), some (.ref an), some (.ref hd), some (.ref x), some (.ref tw), v9, v10, v11, v12, v13, v14, v15, none] ∧ W7 K CA H' a ns pu lp an x xs ps zs ∧ AskAt CA H' tw ws) ?_ ?_
    · k_extra "r_LL7"
      refine ⟨.inl ⟨rfl, _, SqL.of hh10⟩, ?_⟩
      k_extra "r_LL7"
      refine q_append hh10 (by rw [List.length_map]; exact szlt (by omega)) fun H11 b11 h11 => ?_
      have N11 := NL.but hh10 b11
      have sq11 : SqL K H11 a (ns.map V.int) := (sd10.but b11).sq
      refine ⟨rfl, ⟨sc10.re sq11, ?_, b11 _ _ hlp.symm hl10, pls10.nl N11, b11 _ _ han.symm ha10, aH10.nl N11, hx10.nl N11⟩, tw10.nl N11⟩
      obtain ⟨_, _, _, e2, h2⟩ := hp10
      exact ⟨_, _, _, b11 _ _ hdpu.symm e2, h2⟩
    rintro σ H11 ⟨rfl, w11, tw11⟩
    have eqW : dsA zs = dsA ws := dsA_perm nd pm2.symm
    clear hx10 hh10 ha10 aH10 sc10 sd10 hp10 hl10 pls10 tw10
    refine q_cut8 (M := fun σ H' => σ = [some (.ref a), some (.int (0 + (i : Int))), some (.ref pu), some (.ref lp), some (.ref L1), some (.ref an), some (.ref hd), some (.ref x), some (.ref tw), v9, v10, v11, v12, v13, v14, v15, none] ∧ W7 K CA H' a ns pu lp an x xs ps zs) ?_ ?_
    · k_extra "r_LL7"
      refine ⟨x, an, zs, rfl, w11.hx, nd, nm, by omega, w11.ha, w11.aH, fun H12 S12 => ?_⟩
      have w12 := w11.mono S12
      k_extra "r_LL7"
      refine s_if0 rfl ?_
      k_extra "r_LL7"
      refine q_askE AC L7 w12.hx nm (tw11.mono S12) nmw fun H13 S13 => ?_
      rw [decide_eq_true eqW]
      have w13 := w12.mono S13
      refine q_test (s_if0 rfl ?_)
      k_extra "r_LL7"
      refine q_askO w13.hx nm (.base (.lst w13.ha)) L7.nL L7.kL fun H14 S14 => ?_
      have w14 := w13.mono S14
      refine q_test (s_if0 rfl ?_)
      k_extra "r_LL7"
      refine q_sortA (SqL.of w14.ha) w14.aH fun p H15 n15 S15 h15 => ?_
      k_extra "r_LL7"
      refine q_tupL (SqL.of h15) fun t H16 n16 S16 h16 => ?_
      have w16 := (w14.mono S15).mono S16
      refine q_askO w16.hx nm (.base (.tup h16)) L7.nT L7.kT fun H17 S17 => ?_
      refine q_test (s_if0 rfl ?_)
      k_extra "r_LL7"
      exact ⟨rfl, w16.mono S17⟩
    clear tw11 w11 eqW
    rintro σ H11 ⟨rfl, w11⟩
    obtain ⟨x0, xr, rfl⟩ : ∃ x0 xr, xs = x0 :: xr := List.exists_cons_of_ne_nil wne
    obtain ⟨q0, pr, b0, rfl, rfl⟩ : ∃ q0 pr b0, ps = q0 :: pr ∧ x0 = .ref b0 := by
      cases w11.al with
      | cons h _ =>
        obtain ⟨b, e, _⟩ := h
        exact ⟨_, _, _, rfl, e⟩
    have fst0 : ∀ {H' : Hp}, W7 K CA H' a ns pu lp an x (.ref b0 :: xr) (q0 :: pr) zs → H' b0 = some (.tup [.str q0.1, .str q0.2]) := fun w => by
      cases w.al with
      | cons h _ =>
        obtain ⟨b, e, h⟩ := h
        cases e
        exact h
    obtain ⟨nq1, nq2⟩ := wn q0 List.mem_cons_self
    k_extra "r_LL7"
    have at0 : ∀ (y : V) (ys : List V), atI (y :: ys) 0 = some y := fun y ys => atI_nat (j := 0) rfl
    refine q_ixL (SqL.of w11.pl) (at0 _ _) ?_
    k_extra "r_LL7"
    refine q_ixT (SqT.of (fst0 w11)) (at_of (j := 1) rfl rfl) ?_
    k_extra "r_LL7"
    refine q_ixL (SqL.of w11.pl) (at0 _ _) ?_
    k_extra "r_LL7"
    refine q_ixT (SqT.of (fst0 w11)) (at_of (j := 0) rfl rfl) ?_
    k_extra "r_LL7"
    refine q_newT (by show 2 ≤ sizeLine; decide) fun t1 H12 n12 S12 h12 => ?_
    have w12 := w11.mono S12
    k_extra "r_LL7"
    refine q_ixL (SqL.of w12.pl) (at0 _ _) ?_
    k_extra "r_LL7"
    refine q_ixT (SqT.of (fst0 w12)) (at_of (j := 0) rfl rfl) ?_
    k_extra "r_LL7"
    refine q_newT (by show 2 ≤ sizeLine; decide) fun t2 H13 n13 S13 h13 => ?_
    have w13 := w12.mono S13
    k_extra "r_LL7"
    refine q_newL (by show 2 ≤ sizeLine; decide) fun l3 H14 n14 S14 h14 => ?_
    have w14 := w13.mono S14
    refine q_cat w14.pl h14 (sz (by simp at wz ⊢; omega)) fun l4 H15 n15 S15 h15 => ?_
    have w15 := w14.mono S15
    k_extra "r_LL7"
    refine q_cut8 (M := fun σ H' => ∃ v9, σ = [some (.ref a), some (.int (0 + (i : Int))), some (.ref pu), some (.ref lp), some (.ref L1), some (.ref an), some (.ref hd), some (.ref x), some (.ref tw), v9, v10, v11, v12, v13, v14, v15, none] ∧ W7 K CA H' a ns pu lp an x (.ref b0 :: xr) (q0 :: pr) zs) ?_ ?_
    · k_extra "r_LL7"
      have ar : Pls H15 (.ref b0 :: xr ++ [.ref t1, .ref t2]) (q0 :: pr ++ [(q0.2, q0.1), (q0.1, "qqqqqqqq")]) := w15.al.app (.cons ⟨t1, rfl, (S13.trans (S14.trans S15)) _ _ h12⟩ (.cons ⟨t2, rfl, (S14.trans S15) _ _ h13⟩ .nil))
      refine ⟨x, an, l4, zs, _, _, rfl, w15.hx, nd, nm, w15.ha, w15.aH, h15, ar, fun q hq => ?_, fun H16 S16 => ?_⟩
      · rcases List.mem_append.mp hq with hq | hq
        · exact wn q hq
        · rcases List.mem_cons.mp hq with rfl | hq
          · exact ⟨nq2, nq1⟩
          · rw [List.mem_singleton.mp hq]
            exact ⟨nq1, nm_q⟩
      · k_extra "r_LL7"
        refine s_if0 rfl ?_
        k_extra "r_LL7"
        exact ⟨_, rfl, w15.mono S16⟩
    clear h12 h13 h14 h15 w11 w12 w13 w14 w15 n12 n13 n14 n15 S12 S13 S14 S15
    rintro σ H11 ⟨v9, rfl, w11⟩
    k_extra "r_LL7"
    refine q_lenL (SqL.of w11.ha) ?_
    k_extra "r_LL7"
    refine ⟨_, rfl, by omega, by rw [List.length_map]; omega, q_forR (fun kk σ H' => ∃ v10 v11 v12, σ = [some (.ref a), some (.int (0 + (i : Int))), some (.ref pu), some (.ref lp), some (.ref L1), some (.ref an), some (.ref hd), some (.ref x), some (.ref tw), v9, v10, v11, v12, v13, v14, v15, none] ∧ W7 K CA H' a ns pu lp an x (.ref b0 :: xr) (q0 :: pr) zs) ⟨_, _, _, rfl, w11⟩ ?_ ?_⟩
    · rintro kk σ H12 hk ⟨v10, v11, v12, rfl, w12⟩
      rw [List.length_map] at hk
      have hk' : kk < zs.length := by omega
      have ez : zs[kk]? = some zs[kk] := List.getElem?_eq_getElem hk'
      generalize zs[kk] = z at ez
      have mz := List.mem_of_getElem? ez
      have ezr : (zs.map fun z : AZ => V.ref z.1)[kk]? = some (.ref z.1) := by rw [List.getElem?_map, ez]; rfl
      k_extra "r_LL7"
      refine q_slL (SqL.of w12.ha) fun L2 H13 n13 S13 h13 => ?_
      rw [show (0 + (kk : Int)) = ((kk : Nat) : Int) by omega, cutV_take] at h13
      have w13 := w12.mono S13
      k_extra "r_LL7"
      refine q_slL (SqL.of w13.ha) fun L3 H14 n14 S14 h14 => ?_
      rw [show (0 + (kk : Int) + 1) = ((kk + 1 : Nat) : Int) by omega, cutV_drop] at h14
      have w14 := w13.mono S14
      refine q_cat (S14 _ _ h13) h14 (sz (by rw [List.length_take, List.length_drop, List.length_map]; omega)) fun R H15 n15 S15 h15 => ?_
      have w15 := w14.mono S15
      rw [← List.map_take, ← List.map_drop, ← List.map_append] at h15
      obtain ⟨rs, ers⟩ : ∃ rs, rs = zs.take kk ++ zs.drop (kk + 1) := ⟨_, rfl⟩
      rw [← ers] at h15
      have rnd : (keysA rs).Nodup := ers ▸ rest_nd nd kk
      have rno : z.2.2.1 ∉ keysA rs := ers ▸ ds_rest nd ez
      have rsub : ∀ y ∈ rs, y ∈ zs := fun y hy => rest_sub (by rw [← ers]; exact hy)
      have rnm : NmA (rs.map (·.2.2)) := fun d hd => by
        obtain ⟨y, my, rfl⟩ := List.mem_map.mp hd
        exact nm _ (List.mem_map.mpr ⟨y, rsub y my, rfl⟩)
      have rlen : rs.length ≤ 18 := by rw [ers, List.length_append, List.length_take, List.length_drop]; omega
      have rA : ∀ {H' : Hp}, AnsH H' zs → AnsH H' rs := fun h y my => h y (rsub y my)
      have nez : ∀ y ∈ rs, y.2.2 ≠ z.2.2 := fun y my e => rno (List.mem_map.mpr ⟨y, my, by rw [e]⟩)
      clear h13 h14 w12 w13 w14 n13 n14 n15 S13 S14 S15 ers
      k_extra "r_LL7"
      refine s_make ?_
      k_extra "r_LL7"
      refine q_ask h15 (by omega) (rA w15.aH) rnm rnd fun x1 H16 n16 S16 hx1 => ?_
      have w16 := w15.mono S16
      k_extra "r_LL7"
      refine s_make ?_
      k_extra "r_LL7"
      refine q_newL (by show 0 ≤ sizeLine; decide) fun l0 H17 n17 S17 h17 => ?_
      have w17 := w16.mono S17
      k_extra "r_LL7"
      refine q_ask (zs := []) h17 (by decide) (fun _ h => by cases h) (fun _ h => by cases h) .nil fun x2 H18 n18 S18 hx2 => ?_
      have w18 := w17.mono S18
      k_extra "r_LL7"
      refine s_make ?_
      k_extra "r_LL7"
      refine q_ixL (SqL.of w18.ha) (by rw [show (0 + (kk : Int)) = ((kk : Nat) : Int) by omega]; exact atI_nat ezr) ?_
      k_extra "r_LL7"
      obtain ⟨p1, p2⟩ := w18.aH z mz
      refine q_ixT (SqT.of p1) (at_of (j := 0) rfl rfl) ?_
      k_extra "r_LL7"
      refine q_ixL (SqL.of w18.ha) (by rw [show (0 + (kk : Int)) = ((kk : Nat) : Int) by omega]; exact atI_nat ezr) ?_
      k_extra "r_LL7"
      refine q_ixT (SqT.of p1) (at_of (j := 1) rfl rfl) ?_
      k_extra "r_LL7"
      refine q_newT (by show 2 ≤ sizeLine; decide) fun T H19 n19 S19 h19 => ?_
      have w19 := w18.mono S19
      k_extra "r_LL7"
      refine q_newL (by show 1 ≤ sizeLine; decide) fun l5 H20 n20 S20 h20 => ?_
      have w20 := w19.mono S20
      have S15_20 := S16.trans (S17.trans (S18.trans (S19.trans S20)))
      refine q_cat (S15_20 _ _ h15) h20 (sz (by rw [List.length_map]; simp; omega)) fun l6 H21 n21 S21 h21 => ?_
      have w21 := w20.mono S21
      obtain ⟨tz, kz, qz, bz⟩ := z
      dsimp only at p2 h19 h21 rno nez
      obtain ⟨us, eus⟩ : ∃ us : List AZ, us = rs ++ [(T, kz, qz, !bz)] := ⟨_, rfl⟩
      have h21' : H21 l6 = some (.lst (us.map fun z : AZ => V.ref z.1)) := by rw [h21, eus, List.map_append]; rfl
      have uA : AnsH H21 us := fun y my => by
        rw [eus] at my
        rcases List.mem_append.mp my with my | my
        · exact w21.aH y (rsub y my)
        · rw [List.mem_singleton.mp my]
          exact ⟨(S20.trans S21) _ _ h19, (S19.trans (S20.trans S21)) _ _ p2⟩
      have und : (keysA us).Nodup := by
        rw [eus]
        unfold keysA
        rw [List.map_append]
        refine List.nodup_append.mpr ⟨rnd, (by simp), fun a ha b hb e => ?_⟩
        rw [List.map_singleton, List.mem_singleton] at hb
        rw [e, hb] at ha
        exact rno ha
      have unm : NmA (us.map (·.2.2)) := fun d hd => by
        obtain ⟨y, my, rfl⟩ := List.mem_map.mp hd
        rw [eus] at my
        rcases List.mem_append.mp my with my | my
        · exact rnm _ (List.mem_map.mpr ⟨y, my, rfl⟩)
        · rw [List.mem_singleton.mp my]
          exact nm (qz, bz) (List.mem_map.mpr ⟨_, mz, rfl⟩)
      have neu : ∀ y ∈ us, y.2.2 ≠ (qz, bz) := fun y my e => by
        rw [eus] at my
        rcases List.mem_append.mp my with my | my
        · exact nez y my e
        · rw [List.mem_singleton.mp my] at e
          have := (Prod.mk.inj e).2
          cases bz <;> cases this
      k_extra "r_LL7"
      refine q_ask h21' (by rw [eus, List.length_append]; simp; omega) uA unm und fun x3 H22 n22 S22 hx3 => ?_
      have w22 := w21.mono S22
      k_extra "r_LL7"
      refine q_newL (by show 3 ≤ sizeLine; decide) fun l7 H23 n23 S23 h23 => ?_
      have w23 := w22.mono S23
      have G : ∀ y ∈ [V.ref x1, V.ref x2, V.ref x3], ∃ b vs, y = .ref b ∧ AskAt CA H23 b vs ∧ NmA (vs.map (·.2.2)) ∧ dsA zs ≠ dsA vs := fun y my => by
        simp only [List.mem_cons, List.not_mem_nil, or_false] at my
        rcases my with rfl | rfl | rfl
        · exact ⟨x1, rs, rfl, hx1.mono (S17.trans (S18.trans (S19.trans (S20.trans (S21.trans (S22.trans S23)))))), rnm, ne_rest mz nez⟩
        · exact ⟨x2, [], rfl, hx2.mono (S19.trans (S20.trans (S21.trans (S22.trans S23)))), (fun _ h => by cases h), ne_rest mz (fun _ h => by cases h)⟩
        · exact ⟨x3, us, rfl, hx3.mono S23, unm, ne_rest mz neu⟩
      clear rnd rno rsub rnm rlen rA nez hx1 hx2 hx3 w15 w16 w17 w18 w19 w20 w21 w22 neu unm und uA h21' eus h15 h17 h19 h20 h21 S16 S17 S18 S19 S20 S21 S22 S23 S15_20 n16 n17 n18 n19 n20 n21 n22 n23
      refine ⟨l7, rfl, ⟨_, SqL.of h23⟩, q_forL (K := K) (a := l7) (xs := [V.ref x1, V.ref x2, V.ref x3]) (fun _ σ H' => ∃ v12, σ = [some (.ref a), some (.int (0 + (i : Int))), some (.ref pu), some (.ref lp), some (.ref L1), some (.ref an), some (.ref hd), some (.ref x), some (.ref tw), v9, some (.int (0 + (kk : Int))), some (.ref R), v12, v13, v14, v15, none] ∧ Same H23 H') ⟨_, rfl, Same.refl _⟩ (fun i σ H' _ ⟨_, _, S⟩ => SqL.of (S _ _ h23)) ?_ ?_⟩
      · rintro ii v σ H24 hv ⟨v12, rfl, S24⟩
        obtain ⟨b, vs, rfl, g1, g2, g3⟩ := G v (List.mem_of_getElem? hv)
        k_extra "r_LL7"
        refine q_askE AC L7 (w23.mono S24).hx nm (g1.mono S24) g2 fun H25 S25 => ?_
        rw [decide_eq_false g3]
        have S25' := S24.trans S25
        refine q_test (s_if0 rfl ?_)
        k_extra "r_LL7"
        refine q_askE AC L7 (g1.mono S25') g2 (w23.mono S25').hx nm fun H26 S26 => ?_
        rw [decide_eq_false (Ne.symm g3)]
        refine q_test (s_if0 rfl ?_)
        k_extra "r_LL7"
        exact ⟨_, rfl, S25'.trans S26⟩
      · rintro σ H24 ⟨v12, rfl, S24⟩
        k_extra "r_LL7"
        exact ⟨_, _, _, rfl, w23.mono S24⟩
    clear w11
    rintro σ H11 ⟨v10, v11, v12, rfl, w11⟩
    k_extra "r_LL7"
    refine s_make ?_
    k_extra "r_LL7"
    refine q_ixL (SqL.of w11.pl) (at0 _ _) ?_
    k_extra "r_LL7"
    refine q_ixT (SqT.of (fst0 w11)) (at_of (j := 0) rfl rfl) ?_
    k_extra "r_LL7"
    refine s_make ?_
    k_extra "r_LL7"
    refine q_form letters_alpha (by decide) (by decide) fun fo H12 n12 S12 f12 => ?_
    have w12 := w11.mono S12
    k_extra "r_LL7"
    refine q_newL (by show 0 ≤ sizeLine; decide) fun l0 H13 n13 S13 h13 => ?_
    have w13 := w12.mono S13
    k_extra "r_LL7"
    refine q_piece0 nq1 (f12.mono S13) h13 fun pc H14 dxp fsp n14 S14 h14 => ?_
    have w14 := w13.mono S14
    refine q_askO w14.hx nm (.base (.ins h14 PC.cl L7.i1 AC.i2 AC.i3 L7.i4)) L7.nP L7.kP fun H15 S15 => ?_
    have w15 := w14.mono S15
    refine q_test (s_if0 rfl ?_)
    clear w11 w12 w13 w14 n12 n13 n14 S12 S13 S14 S15 f12 h13 h14
    k_extra "r_LL7"
    refine q_ixL (SqL.of w15.pl) (at0 _ _) ?_
    k_extra "r_LL7"
    refine q_gtup (SqT.of (fst0 w15)) rfl ?_
    k_extra "r_LL7"
    have l1 := nq1.2.1
    have l2 := nq2.2.1
    have na1 : ∀ {H' : Hp}, NameArg K H' (.str q0.1) := na_str (by omega)
    have na2' : ∀ {H' : Hp}, NameArg K H' (.str q0.2) := na_str (by omega)
    have o1 : ∀ {H' : Hp}, Odd1 K H' (.str q0.1) := odd_flat Pl.str (by decide) (fun _ z => by cases z) (.str nq1.asc.ok)
    refine q_cut8 (M := fun σ H' => ∃ od ys, σ = [some (.ref a), some (.int (0 + (i : Int))), some (.ref pu), some (.ref lp), some (.ref L1), some (.ref an), some (.ref hd), some (.ref x), some (.ref tw), v9, v10, v11, v12, some (.str q0.1), some (.str q0.2), some (.ref od), none] ∧ W7 K CA H' a ns pu lp an x (.ref b0 :: xr) (q0 :: pr) zs ∧ H' od = some (.lst ys) ∧ OddL K H' ys ∧ ys.length ≤ 11) ?_ ?_
    · k_extra "r_LL7"
      refine q_newL (by show 2 ≤ sizeLine; decide) fun t1 G1 m1 R1 g1 => ?_
      k_extra "r_LL7"
      refine q_newT (by show 1 ≤ sizeLine; decide) fun t2 G2 m2 R2 g2 => ?_
      have w2 := (w15.mono R1).mono R2
      k_extra "r_LL7"
      refine q_ixL (SqL.of w2.pl) (at0 _ _) ?_
      k_extra "r_LL7"
      refine q_newT (by show 2 ≤ sizeLine; decide) fun t3 G3 m3 R3 g3 => ?_
      have w3 := w2.mono R3
      k_extra "r_LL7"
      refine q_newL (by show 1 ≤ sizeLine; decide) fun t4 G4 m4 R4 g4 => ?_
      k_extra "r_LL7"
      refine q_newT (by show 2 ≤ sizeLine; decide) fun t5 G5 m5 R5 g5 => ?_
      k_extra "r_LL7"
      refine s_dnew fun t6 G6 m6 R6 g6 => ?_
      k_extra "r_LL7"
      refine q_newT (by show 2 ≤ sizeLine; decide) fun t7 G7 m7 R7 g7 => ?_
      k_extra "r_LL7"
      refine s_dnew fun t8 G8 m8 R8 g8 => ?_
      k_extra "r_LL7"
      refine q_newT (by show 0 ≤ sizeLine; decide) fun t9 G9 m9 R9 g9 => ?_
      k_extra "r_LL7"
      refine q_newL (by show 11 ≤ sizeLine; decide) fun t10 GA mA RA gA => ?_
      k_extra "r_LL7"
      have T9 := R9.trans RA
      have T8 := R8.trans T9
      have T7 := R7.trans T8
      have T6 := R6.trans T7
      have T5 := R5.trans T6
      have T4 := R4.trans T5
      have T3 := R3.trans T4
      have T2 := R2.trans T3
      have wA := w3.mono T4
      refine ⟨_, _, rfl, wA, gA, ?_, Nat.le_refl _⟩
      refine .cons o1 (.cons (odd_lst (T2 _ _ g1)) (.cons (odd_flat Pl.non (by decide) (fun _ z => by cases z) .non) (.cons ?_ (.cons ?_ (.cons (odd_flat Pl.int (by decide) (fun _ z => by cases z) .int) (.cons (odd_lst wA.ha) (.cons ?_ (.cons ?_ (.cons (odd_dct (T9 _ _ g8)) (.cons ?_ .nil))))))))))
      · exact odd_len (T3 _ _ g2) (fun y my => by rw [List.mem_singleton.mp my]; exact na1) (by simp)
      · exact odd_tup (T4 _ _ g3) (na2 (na_ref (Pl.tup (fst0 wA))) na_bl) ⟨_, List.mem_cons_self, nn_ref⟩
      · exact odd_tup (T6 _ _ g5) (na2 (na_ref (Pl.lst (T5 _ _ g4))) na2') ⟨_, List.mem_cons_self, nn_ref⟩
      · exact odd_tup (T8 _ _ g7) (na2 na1 (na_ref (Pl.dct (T7 _ _ g6)))) ⟨_, List.mem_cons_of_mem _ List.mem_cons_self, nn_ref⟩
      · exact odd_len (RA _ _ g9) (fun y my => by cases my) (by simp)
    clear w15
    rintro σ H11 ⟨od, ys, rfl, w11, hod, oy, yl⟩
    refine q_cut8 (M := fun σ H' => ∃ od ys, σ = [some (.ref a), some (.int (0 + (i : Int))), some (.ref pu), some (.ref lp), some (.ref L1), some (.ref an), some (.ref hd), some (.ref x), some (.ref tw), v9, v10, v11, v12, some (.str q0.1), some (.str q0.2), some (.ref od), none] ∧ W7 K CA H' a ns pu lp an x (.ref b0 :: xr) (q0 :: pr) zs ∧ H' od = some (.lst ys) ∧ OddL K H' ys ∧ ys.length ≤ 15) ?_ ?_
    · k_extra "r_LL7"
      refine q_newT (by show 2 ≤ sizeLine; decide) fun t1 G1 m1 R1 g1 => ?_
      k_extra "r_LL7"
      refine q_newT (by show 2 ≤ sizeLine; decide) fun t2 G2 m2 R2 g2 => ?_
      k_extra "r_LL7"
      refine ⟨⟨_, rfl⟩, _, rfl, rfl, (by omega), ?_⟩
      k_extra "r_LL7"
      refine q_newT (by show 2 ≤ sizeLine; decide) fun t3 G3 m3 R3 g3 => ?_
      k_extra "r_LL7"
      refine q_addS (Bt.sz (by have : Str.length "abcdefgh" = 8 := (by decide); omega)) ?_
      k_extra "r_LL7"
      refine q_newT (by show 2 ≤ sizeLine; decide) fun t4 G4 m4 R4 g4 => ?_
      k_extra "r_LL7"
      refine q_newL (by show 4 ≤ sizeLine; decide) fun t5 G5 m5 R5 g5 => ?_
      have R15 := R1.trans (R2.trans (R3.trans (R4.trans R5)))
      refine q_cat (R15 _ _ hod) g5 (sz (by simp; omega)) fun t6 G6 m6 R6 g6 => ?_
      k_extra "r_LL7"
      have T5 := R5.trans R6
      have T4 := R4.trans T5
      have T3 := R3.trans T4
      obtain ⟨u1, u2⟩ := upper_nm nq1
      refine ⟨_, _, rfl, w11.mono (R15.trans R6), g6, (oy.mono (R15.trans R6)).app ?_, by simp; omega⟩
      refine .cons ?_ (.cons ?_ (.cons ?_ (.cons ?_ .nil)))
      · exact odd_tup ((R2.trans T3) _ _ g1) (na2 (na_str (by decide)) na2') ⟨_, List.mem_cons_self, nn_str nn_empty⟩
      · exact odd_tup (T3 _ _ g2) (na2 na1 (na_str (by decide))) ⟨_, List.mem_cons_of_mem _ List.mem_cons_self, nn_str nn_empty⟩
      · exact odd_tup (T4 _ _ g3) (na2 (na_str u1) na2') ⟨_, List.mem_cons_self, nn_str u2⟩
      · have l8 : (q0.1 ++ "abcdefgh" : Str).length = q0.1.length + 8 := by rw [app_len]; rfl
        exact odd_tup (T5 _ _ g4) (na2 (na_str (by rw [l8]; omega)) na2') ⟨_, List.mem_cons_self, nn_str fun n => by have := n.2.1; have := nq1.1; omega⟩
    clear w11 hod oy yl od ys
    rintro σ H11 ⟨od, ys, rfl, w11, hod, oy, yl⟩
    k_extra "r_LL7"
    refine q_newL (by show 1 ≤ sizeLine; decide) fun t1 G1 m1 R1 g1 => ?_
    k_extra "r_LL7"
    refine q_newT (by show 2 ≤ sizeLine; decide) fun t2 G2 m2 R2 g2 => ?_
    k_extra "r_LL7"
    refine q_newT (by show 3 ≤ sizeLine; decide) fun t3 G3 m3 R3 g3 => ?_
    k_extra "r_LL7"
    refine ⟨⟨_, rfl⟩, _, rfl, rfl, (by omega), ?_⟩
    k_extra "r_LL7"
    refine q_newT (by show 2 ≤ sizeLine; decide) fun t4 G4 m4 R4 g4 => ?_
    k_extra "r_LL7"
    refine q_newL (by show 3 ≤ sizeLine; decide) fun t5 G5 m5 R5 g5 => ?_
    have R15 := R1.trans (R2.trans (R3.trans (R4.trans R5)))
    refine q_cat (R15 _ _ hod) g5 (sz (by simp; omega)) fun t6 G6 m6 R6 g6 => ?_
    obtain ⟨u1, u2⟩ := upper_nm nq2
    have T5 := R5.trans R6
    have T4 := R4.trans T5
    have T3 := R3.trans T4
    have oz : OddL K G6 (ys ++ [.ref t2, .ref t3, .ref t4]) := (oy.mono (R15.trans R6)).app (.cons
      (odd_tup (T3 _ _ g2) (na2 na1 (na_ref (Pl.lst ((R2.trans T3) _ _ g1)))) ⟨_, List.mem_cons_of_mem _ List.mem_cons_self, nn_ref⟩) (.cons
      (odd_len (T4 _ _ g3) (fun y my => by
        simp only [List.mem_cons, List.not_mem_nil, or_false] at my
        rcases my with rfl | rfl | rfl <;> first | exact na1 | exact na2') (by simp)) (.cons
      (odd_tup (T5 _ _ g4) (na2 na1 (na_str u1)) ⟨_, List.mem_cons_of_mem _ List.mem_cons_self, nn_str u2⟩) .nil)))
    have w6 := w11.mono (R15.trans R6)
    generalize ys ++ [V.ref t2, .ref t3, .ref t4] = os at oz g6
    clear w11 hod oy yl g1 g2 g3 g4 g5 R1 R2 R3 R4 R5 R6 m1 m2 m3 m4 m5 m6 R15 T3 T4 T5
    refine ⟨t6, rfl, ⟨_, SqL.of g6⟩, q_forL (K := K) (a := t6) (xs := os) (fun _ σ H' => ∃ v12, σ = [some (.ref a), some (.int (0 + (i : Int))), some (.ref pu), some (.ref lp), some (.ref L1), some (.ref an), some (.ref hd), some (.ref x), some (.ref tw), v9, v10, v11, v12, some (.str q0.1), some (.str q0.2), some (.ref od), none] ∧ Same G6 H') ⟨_, rfl, Same.refl _⟩ (fun i σ H' _ ⟨_, _, S⟩ => SqL.of (S _ _ g6)) ?_ ?_⟩
    · rintro ii v σ G7 hv ⟨v12, rfl, S7⟩
      obtain ⟨pl, sf⟩ := (oz.mono S7) v (List.mem_of_getElem? hv)
      have w7 := w6.mono S7
      k_extra "r_LL7"
      obtain ⟨dx, d, h1, h2⟩ := id w7.hx
      refine ⟨x, dx, _, rfl, h1, x, v, zs, false, rfl, w7.hx, pl, fun _ H8 S8 => ⟨_, rfl, ?_⟩, fun z => by cases z⟩
      refine q_test (s_if0 rfl ?_)
      k_extra "r_LL7"
      refine ⟨x, v, zs, rfl, w7.hx.mono S8, pl.mono S8, sf.mono S8, fun H9 S9 => ?_⟩
      k_extra "r_LL7"
      refine s_if0 rfl ?_
      k_extra "r_LL7"
      exact ⟨_, rfl, S7.trans (S8.trans S9)⟩
    · rintro σ G7 ⟨v12, rfl, S7⟩
      have w7 := w6.mono S7
      k_extra "r_LL7"
      refine s_lc ?_
      k_extra "r_LL7"
      refine q_ixL (SqL.of w7.pl) (at0 _ _) ?_
      k_extra "r_LL7"
      refine ⟨pu, an, b0, zs, q0, rfl, w7.pp, apu, w7.ha, w7.aH, nm, nd, by omega, fst0 w7, nq1, nq2, fun B H8 bs nB hB rB bl pu8 b8 => ?_⟩
      have sc8 := w7.sc.but b8
      clear w7 w6 oz g6
      refine ⟨B, rfl, ⟨_, SqL.of hB⟩, fun D nD => lc_list (K := K) (a := B) (xs := bs) (fun i H' => Same H8 H' ∧ H' D = some (.lst [])) ⟨Same.new nD, upd_same⟩ (fun i H' _ h => SqL.of (h.1 _ _ hB)) ?_ ?_⟩
      · rintro jj y H9 hy ⟨S9, h9⟩
        k_extra "r_LL7"
        refine ⟨rfl, ?_⟩
        k_extra "r_LL7"
        refine ⟨y, rfl, (rB y (List.mem_of_getElem? hy)).mono S9, fun H10 S10 => ?_⟩
        k_extra "r_LL7"
        exact ⟨S9.trans S10, S10 _ _ h9⟩
      · rintro H9 ⟨S9, h9⟩
        k_extra "r_LL7"
        refine q_newL (by show 0 ≤ sizeLine; decide) fun l0 H10 n10 S10 h10 => ?_
        refine q_neD (dp_lst_strs (ys := []) (S10 _ _ h9)) (dp_lst_strs (ys := []) h10) (shaped_strs fun y hy => by cases hy) (shaped_strs fun y hy => by cases hy) ?_
        rw [eqv_strs, decide_eq_true rfl]
        refine q_test (s_if0 rfl ?_)
        k_extra "r_LL7"
        exact ⟨_, _, _, _, _, _, _, _, _, _, _, _, _, _, _, rfl, (sc8.mono (S9.trans S10)).sq⟩
end
end Bt
namespace Bt
open PySem PySem.Spec PyProof.Rows L2
/-! ### what the top has written, and the law's own head -/
theorem kit_sub {K : PySem.W.Frag} {C D : Addr} {v : Bool} (ne : C ≠ D) (h2 : PySem.W.isClsIn K D = true) (h3 : PySem.W.typeIn K (.ref D) = some (.type "type")) (hs : PySem.W.subIn K (.ref C) (.ref D) = some v) : PySem.W.kitOne K (.ref C) (.ref D) = some v := by
  have e2 : ((PySem.W.clsIn K D).isSome && PySem.W.typeIn K (.ref D) == some (.type "type")) = true := by
    have h2' : (PySem.W.clsIn K D).isSome = true := h2
    rw [h2', h3] <;> rfl
  show (if ((Value.ref C) == (Value.ref D)) = true then some true else (if ((PySem.W.clsIn K D).isSome && PySem.W.typeIn K (.ref D) == some (.type "type")) = true then PySem.W.subIn K (.ref C) (.ref D) else none)) = some v
  rw [if_neg (fun z => ne (Value.ref.inj (eq_of_beq z))), if_pos e2]
  exact hs
theorem nf_sub {K : PySem.W.Frag} {C D : Addr} (hs : PySem.W.subIn K (.ref D) (.ref C) = some false) : PySem.W.notFirst K C (.ref D) = true := by
  unfold PySem.W.notFirst
  rw [hs]
  exact Bool.or_true _
theorem all_mk {l : PySem.W.OpenLaw} {w : World} {K : PySem.W.Frag} {h : Heap} {mg : Str → Option Value} {fa f_is_whole f_is_name f_is_place f_is_name_list f_check_place f__are_letters f__are_chains f__rise f__is_piece f__is_answer f__are_answers f__law_purse f__law_draw f__law_name f__law_names f__law_world f__law_says f__law_refused f__law_raises f__law_shuffled f__law_bad f__law_told f__law_heard f_law C_InvalidForm f_x_InvalidForm T_x_InvalidForm N_InvalidForm C_InvalidLook f_x_InvalidLook T_x_InvalidLook N_InvalidLook C_InvalidPlace f_x_InvalidPlace T_x_InvalidPlace N_InvalidPlace CF f_Fi T_Fi p_FL f_FL p_FC f_FC f_FE CPc f_Pi CAk f_Ai f_As f_At f_Ac f_Aq p_Ranswers f_Ranswers CLk : Addr} {od_is_whole an_is_whole od_is_name an_is_name od_is_place an_is_place od_is_name_list an_is_name_list od_check_place an_check_place od__are_letters an__are_letters od__are_chains an__are_chains od__rise an__rise od__is_piece an__is_piece od__is_answer an__is_answer od__are_answers an__are_answers od__law_purse an__law_purse od__law_draw an__law_draw od__law_name an__law_name od__law_names an__law_names od__law_world an__law_world od__law_says an__law_says od__law_refused an__law_refused od__law_raises an__law_raises od__law_shuffled an__law_shuffled od__law_bad an__law_bad od__law_told an__law_told od__law_heard an__law_heard od_law an_law od_x_InvalidForm an_x_InvalidForm od_x_InvalidLook an_x_InvalidLook od_x_InvalidPlace an_x_InvalidPlace odTF od_Fi an_Fi od_FL an_FL od_FC an_FC od_FE an_FE od_Pi an_Pi od_Ai an_Ai od_As an_As od_At an_At od_Ac an_Ac od_Aq an_Aq od_Ranswers an_Ranswers : Option Addr} {sl_is_whole sl_is_name sl_is_place sl_is_name_list sl_check_place sl__are_letters sl__are_chains sl__rise sl__is_piece sl__is_answer sl__are_answers sl__law_purse sl__law_draw sl__law_name sl__law_names sl__law_world sl__law_says sl__law_refused sl__law_raises sl__law_shuffled sl__law_bad sl__law_told sl__law_heard sl_law sl_x_InvalidForm sl_x_InvalidLook sl_x_InvalidPlace slTF sl_Fi sl_FL sl_FC sl_FE sl_Pi sl_Ai sl_As sl_At sl_Ac sl_Aq sl_Ranswers : Array (Option Value)} {oc_is_whole kV_is_whole dc_is_whole pm_is_whole cd_is_whole ct_is_whole oc_is_name kV_is_name dc_is_name pm_is_name cd_is_name ct_is_name oc_is_place kV_is_place dc_is_place pm_is_place cd_is_place ct_is_place oc_is_name_list kV_is_name_list dc_is_name_list pm_is_name_list cd_is_name_list ct_is_name_list oc_check_place kV_check_place dc_check_place pm_check_place cd_check_place ct_check_place oc__are_letters kV__are_letters dc__are_letters pm__are_letters cd__are_letters ct__are_letters oc__are_chains kV__are_chains dc__are_chains pm__are_chains cd__are_chains ct__are_chains oc__rise kV__rise dc__rise pm__rise cd__rise ct__rise oc__is_piece kV__is_piece dc__is_piece pm__is_piece cd__is_piece ct__is_piece oc__is_answer kV__is_answer dc__is_answer pm__is_answer cd__is_answer ct__is_answer oc__are_answers kV__are_answers dc__are_answers pm__are_answers cd__are_answers ct__are_answers oc__law_purse kV__law_purse dc__law_purse pm__law_purse cd__law_purse ct__law_purse oc__law_draw kV__law_draw dc__law_draw pm__law_draw cd__law_draw ct__law_draw oc__law_name kV__law_name dc__law_name pm__law_name cd__law_name ct__law_name oc__law_names kV__law_names dc__law_names pm__law_names cd__law_names ct__law_names oc__law_world kV__law_world dc__law_world pm__law_world cd__law_world ct__law_world oc__law_says kV__law_says dc__law_says pm__law_says cd__law_says ct__law_says oc__law_refused kV__law_refused dc__law_refused pm__law_refused cd__law_refused ct__law_refused oc__law_raises kV__law_raises dc__law_raises pm__law_raises cd__law_raises ct__law_raises oc__law_shuffled kV__law_shuffled dc__law_shuffled pm__law_shuffled cd__law_shuffled ct__law_shuffled oc__law_bad kV__law_bad dc__law_bad pm__law_bad cd__law_bad ct__law_bad oc__law_told kV__law_told dc__law_told pm__law_told cd__law_told ct__law_told oc__law_heard kV__law_heard dc__law_heard pm__law_heard cd__law_heard ct__law_heard oc_law kV_law dc_law pm_law cd_law ct_law oc_x_InvalidForm kV_x_InvalidForm dc_x_InvalidForm pm_x_InvalidForm cd_x_InvalidForm ct_x_InvalidForm oc_x_InvalidLook kV_x_InvalidLook dc_x_InvalidLook pm_x_InvalidLook cd_x_InvalidLook ct_x_InvalidLook oc_x_InvalidPlace kV_x_InvalidPlace dc_x_InvalidPlace pm_x_InvalidPlace cd_x_InvalidPlace ct_x_InvalidPlace ocTF oc_Fi kV_Fi dc_Fi pm_Fi cd_Fi ct_Fi oc_FL kV_FL dc_FL pm_FL cd_FL ct_FL oc_FC kV_FC dc_FC pm_FC cd_FC ct_FC oc_FE kV_FE dc_FE pm_FE cd_FE ct_FE oc_Pi kV_Pi dc_Pi pm_Pi cd_Pi ct_Pi oc_Ai kV_Ai dc_Ai pm_Ai cd_Ai ct_Ai oc_As kV_As dc_As pm_As cd_As ct_As oc_At kV_At dc_At pm_At cd_At ct_At oc_Ac kV_Ac dc_Ac pm_Ac cd_Ac ct_Ac oc_Aq kV_Aq dc_Aq pm_Aq cd_Aq ct_Aq oc_Ranswers kV_Ranswers dc_Ranswers pm_Ranswers cd_Ranswers ct_Ranswers : Value} {tk_LETTERS tk_MOST_CHAINS tk_LONGEST_NAME : Tok} {nm_InvalidForm q_InvalidForm : Str} {bs_InvalidForm : List Value} {CB_InvalidForm : Addr} {sn_InvalidForm : List Str} {sub_InvalidForm : List Value} {ab_InvalidForm : Bool} {col_InvalidForm : Option Bool} {dd_InvalidForm : Option Addr} {m0_InvalidForm m1_InvalidForm m2_InvalidForm m3_InvalidForm m5_InvalidForm : Option Value} {ocT_InvalidForm : Value} {odT_InvalidForm : Option Addr} {nT_InvalidForm : Nat} {slT_InvalidForm : Array (Option Value)} {nm_InvalidLook q_InvalidLook : Str} {bs_InvalidLook : List Value} {CB_InvalidLook : Addr} {sn_InvalidLook : List Str} {sub_InvalidLook : List Value} {ab_InvalidLook : Bool} {col_InvalidLook : Option Bool} {dd_InvalidLook : Option Addr} {m0_InvalidLook m1_InvalidLook m2_InvalidLook m3_InvalidLook m5_InvalidLook : Option Value} {ocT_InvalidLook : Value} {odT_InvalidLook : Option Addr} {nT_InvalidLook : Nat} {slT_InvalidLook : Array (Option Value)} {nm_InvalidPlace q_InvalidPlace : Str} {bs_InvalidPlace : List Value} {CB_InvalidPlace : Addr} {sn_InvalidPlace : List Str} {sub_InvalidPlace : List Value} {ab_InvalidPlace : Bool} {col_InvalidPlace : Option Bool} {dd_InvalidPlace : Option Addr} {m0_InvalidPlace m1_InvalidPlace m2_InvalidPlace m3_InvalidPlace m5_InvalidPlace : Option Value} {ocT_InvalidPlace : Value} {odT_InvalidPlace : Option Addr} {nT_InvalidPlace : Nat} {slT_InvalidPlace : Array (Option Value)} {nTF : Nat} {t1F t2F : Tok} {rFL rFC : List Value} {rRanswers : List Value} (X : K.In h) (G : h.Ns mainGlobals mg) (hfa : mg "law" = some (.ref fa))
    (z_isinstance : PySem.W.nsIn K mainGlobals "isinstance" = some none)
    (z_int : PySem.W.nsIn K mainGlobals "int" = some none)
    (z_bool : PySem.W.nsIn K mainGlobals "bool" = some none)
    (z_str : PySem.W.nsIn K mainGlobals "str" = some none)
    (z_sorted : PySem.W.nsIn K mainGlobals "sorted" = some none)
    (z_tuple : PySem.W.nsIn K mainGlobals "tuple" = some none)
    (z_range : PySem.W.nsIn K mainGlobals "range" = some none)
    (z_sum : PySem.W.nsIn K mainGlobals "sum" = some none)
    (z_len : PySem.W.nsIn K mainGlobals "len" = some none)
    (z_all : PySem.W.nsIn K mainGlobals "all" = some none)
    (z_list : PySem.W.nsIn K mainGlobals "list" = some none)
    (z_zip : PySem.W.nsIn K mainGlobals "zip" = some none)
    (z_dict : PySem.W.nsIn K mainGlobals "dict" = some none)
    (v_LETTERS : PySem.W.nsIn K mainGlobals "LETTERS" = some (some (.str alphaS tk_LETTERS)))
    (v_MOST_CHAINS : PySem.W.nsIn K mainGlobals "MOST_CHAINS" = some (some (.int 1000 tk_MOST_CHAINS)))
    (v_LONGEST_NAME : PySem.W.nsIn K mainGlobals "LONGEST_NAME" = some (some (.int 8 tk_LONGEST_NAME)))
    (a_is_whole : PySem.W.nsIn K mainGlobals "is_whole" = some (some (.ref f_is_whole)))
    (l_is_whole : K.lookup f_is_whole = some ⟨oc_is_whole, od_is_whole, .func (PySem.W.fnOf "is_whole" "is_whole" (defArgs s_is_whole) (defBody s_is_whole) (defScope s_is_whole) .none kV_is_whole dc_is_whole pm_is_whole an_is_whole cd_is_whole ct_is_whole), sl_is_whole⟩)
    (c_is_whole : PySem.W.codeIn K cd_is_whole "is_whole" = true)
    (k_is_whole : PySem.W.keepIn K (.ref f_is_whole) = true)
    (a_is_name : PySem.W.nsIn K mainGlobals "is_name" = some (some (.ref f_is_name)))
    (l_is_name : K.lookup f_is_name = some ⟨oc_is_name, od_is_name, .func (PySem.W.fnOf "is_name" "is_name" (defArgs s_is_name) (defBody s_is_name) (defScope s_is_name) .none kV_is_name dc_is_name pm_is_name an_is_name cd_is_name ct_is_name), sl_is_name⟩)
    (c_is_name : PySem.W.codeIn K cd_is_name "is_name" = true)
    (k_is_name : PySem.W.keepIn K (.ref f_is_name) = true)
    (a_is_place : PySem.W.nsIn K mainGlobals "is_place" = some (some (.ref f_is_place)))
    (l_is_place : K.lookup f_is_place = some ⟨oc_is_place, od_is_place, .func (PySem.W.fnOf "is_place" "is_place" (defArgs s_is_place) (defBody s_is_place) (defScope s_is_place) .none kV_is_place dc_is_place pm_is_place an_is_place cd_is_place ct_is_place), sl_is_place⟩)
    (c_is_place : PySem.W.codeIn K cd_is_place "is_place" = true)
    (k_is_place : PySem.W.keepIn K (.ref f_is_place) = true)
    (a_is_name_list : PySem.W.nsIn K mainGlobals "is_name_list" = some (some (.ref f_is_name_list)))
    (l_is_name_list : K.lookup f_is_name_list = some ⟨oc_is_name_list, od_is_name_list, .func (PySem.W.fnOf "is_name_list" "is_name_list" (defArgs s_is_name_list) (defBody s_is_name_list) (defScope s_is_name_list) .none kV_is_name_list dc_is_name_list pm_is_name_list an_is_name_list cd_is_name_list ct_is_name_list), sl_is_name_list⟩)
    (c_is_name_list : PySem.W.codeIn K cd_is_name_list "is_name_list" = true)
    (k_is_name_list : PySem.W.keepIn K (.ref f_is_name_list) = true)
    (a_check_place : PySem.W.nsIn K mainGlobals "check_place" = some (some (.ref f_check_place)))
    (l_check_place : K.lookup f_check_place = some ⟨oc_check_place, od_check_place, .func (PySem.W.fnOf "check_place" "check_place" (defArgs s_check_place) (defBody s_check_place) (defScope s_check_place) .none kV_check_place dc_check_place pm_check_place an_check_place cd_check_place ct_check_place), sl_check_place⟩)
    (c_check_place : PySem.W.codeIn K cd_check_place "check_place" = true)
    (k_check_place : PySem.W.keepIn K (.ref f_check_place) = true)
    (a__are_letters : PySem.W.nsIn K mainGlobals "_are_letters" = some (some (.ref f__are_letters)))
    (l__are_letters : K.lookup f__are_letters = some ⟨oc__are_letters, od__are_letters, .func (PySem.W.fnOf "_are_letters" "_are_letters" (defArgs s__are_letters) (defBody s__are_letters) (defScope s__are_letters) .none kV__are_letters dc__are_letters pm__are_letters an__are_letters cd__are_letters ct__are_letters), sl__are_letters⟩)
    (c__are_letters : PySem.W.codeIn K cd__are_letters "_are_letters" = true)
    (k__are_letters : PySem.W.keepIn K (.ref f__are_letters) = true)
    (a__are_chains : PySem.W.nsIn K mainGlobals "_are_chains" = some (some (.ref f__are_chains)))
    (l__are_chains : K.lookup f__are_chains = some ⟨oc__are_chains, od__are_chains, .func (PySem.W.fnOf "_are_chains" "_are_chains" (defArgs s__are_chains) (defBody s__are_chains) (defScope s__are_chains) .none kV__are_chains dc__are_chains pm__are_chains an__are_chains cd__are_chains ct__are_chains), sl__are_chains⟩)
    (c__are_chains : PySem.W.codeIn K cd__are_chains "_are_chains" = true)
    (k__are_chains : PySem.W.keepIn K (.ref f__are_chains) = true)
    (a__rise : PySem.W.nsIn K mainGlobals "_rise" = some (some (.ref f__rise)))
    (l__rise : K.lookup f__rise = some ⟨oc__rise, od__rise, .func (PySem.W.fnOf "_rise" "_rise" (defArgs s__rise) (defBody s__rise) (defScope s__rise) .none kV__rise dc__rise pm__rise an__rise cd__rise ct__rise), sl__rise⟩)
    (c__rise : PySem.W.codeIn K cd__rise "_rise" = true)
    (k__rise : PySem.W.keepIn K (.ref f__rise) = true)
    (a__is_piece : PySem.W.nsIn K mainGlobals "_is_piece" = some (some (.ref f__is_piece)))
    (l__is_piece : K.lookup f__is_piece = some ⟨oc__is_piece, od__is_piece, .func (PySem.W.fnOf "_is_piece" "_is_piece" (defArgs s__is_piece) (defBody s__is_piece) (defScope s__is_piece) .none kV__is_piece dc__is_piece pm__is_piece an__is_piece cd__is_piece ct__is_piece), sl__is_piece⟩)
    (c__is_piece : PySem.W.codeIn K cd__is_piece "_is_piece" = true)
    (k__is_piece : PySem.W.keepIn K (.ref f__is_piece) = true)
    (a__is_answer : PySem.W.nsIn K mainGlobals "_is_answer" = some (some (.ref f__is_answer)))
    (l__is_answer : K.lookup f__is_answer = some ⟨oc__is_answer, od__is_answer, .func (PySem.W.fnOf "_is_answer" "_is_answer" (defArgs s__is_answer) (defBody s__is_answer) (defScope s__is_answer) .none kV__is_answer dc__is_answer pm__is_answer an__is_answer cd__is_answer ct__is_answer), sl__is_answer⟩)
    (c__is_answer : PySem.W.codeIn K cd__is_answer "_is_answer" = true)
    (k__is_answer : PySem.W.keepIn K (.ref f__is_answer) = true)
    (a__are_answers : PySem.W.nsIn K mainGlobals "_are_answers" = some (some (.ref f__are_answers)))
    (l__are_answers : K.lookup f__are_answers = some ⟨oc__are_answers, od__are_answers, .func (PySem.W.fnOf "_are_answers" "_are_answers" (defArgs s__are_answers) (defBody s__are_answers) (defScope s__are_answers) .none kV__are_answers dc__are_answers pm__are_answers an__are_answers cd__are_answers ct__are_answers), sl__are_answers⟩)
    (c__are_answers : PySem.W.codeIn K cd__are_answers "_are_answers" = true)
    (k__are_answers : PySem.W.keepIn K (.ref f__are_answers) = true)
    (a__law_purse : PySem.W.nsIn K mainGlobals "_law_purse" = some (some (.ref f__law_purse)))
    (l__law_purse : K.lookup f__law_purse = some ⟨oc__law_purse, od__law_purse, .func (PySem.W.fnOf "_law_purse" "_law_purse" (defArgs s__law_purse) (defBody s__law_purse) (defScope s__law_purse) .none kV__law_purse dc__law_purse pm__law_purse an__law_purse cd__law_purse ct__law_purse), sl__law_purse⟩)
    (c__law_purse : PySem.W.codeIn K cd__law_purse "_law_purse" = true)
    (k__law_purse : PySem.W.keepIn K (.ref f__law_purse) = true)
    (a__law_draw : PySem.W.nsIn K mainGlobals "_law_draw" = some (some (.ref f__law_draw)))
    (l__law_draw : K.lookup f__law_draw = some ⟨oc__law_draw, od__law_draw, .func (PySem.W.fnOf "_law_draw" "_law_draw" (defArgs s__law_draw) (defBody s__law_draw) (defScope s__law_draw) .none kV__law_draw dc__law_draw pm__law_draw an__law_draw cd__law_draw ct__law_draw), sl__law_draw⟩)
    (c__law_draw : PySem.W.codeIn K cd__law_draw "_law_draw" = true)
    (k__law_draw : PySem.W.keepIn K (.ref f__law_draw) = true)
    (a__law_name : PySem.W.nsIn K mainGlobals "_law_name" = some (some (.ref f__law_name)))
    (l__law_name : K.lookup f__law_name = some ⟨oc__law_name, od__law_name, .func (PySem.W.fnOf "_law_name" "_law_name" (defArgs s__law_name) (defBody s__law_name) (defScope s__law_name) .none kV__law_name dc__law_name pm__law_name an__law_name cd__law_name ct__law_name), sl__law_name⟩)
    (c__law_name : PySem.W.codeIn K cd__law_name "_law_name" = true)
    (k__law_name : PySem.W.keepIn K (.ref f__law_name) = true)
    (a__law_names : PySem.W.nsIn K mainGlobals "_law_names" = some (some (.ref f__law_names)))
    (l__law_names : K.lookup f__law_names = some ⟨oc__law_names, od__law_names, .func (PySem.W.fnOf "_law_names" "_law_names" (defArgs s__law_names) (defBody s__law_names) (defScope s__law_names) .none kV__law_names dc__law_names pm__law_names an__law_names cd__law_names ct__law_names), sl__law_names⟩)
    (c__law_names : PySem.W.codeIn K cd__law_names "_law_names" = true)
    (k__law_names : PySem.W.keepIn K (.ref f__law_names) = true)
    (a__law_world : PySem.W.nsIn K mainGlobals "_law_world" = some (some (.ref f__law_world)))
    (l__law_world : K.lookup f__law_world = some ⟨oc__law_world, od__law_world, .func (PySem.W.fnOf "_law_world" "_law_world" (defArgs s__law_world) (defBody s__law_world) (defScope s__law_world) .none kV__law_world dc__law_world pm__law_world an__law_world cd__law_world ct__law_world), sl__law_world⟩)
    (c__law_world : PySem.W.codeIn K cd__law_world "_law_world" = true)
    (k__law_world : PySem.W.keepIn K (.ref f__law_world) = true)
    (a__law_says : PySem.W.nsIn K mainGlobals "_law_says" = some (some (.ref f__law_says)))
    (l__law_says : K.lookup f__law_says = some ⟨oc__law_says, od__law_says, .func (PySem.W.fnOf "_law_says" "_law_says" (defArgs s__law_says) (defBody s__law_says) (defScope s__law_says) .none kV__law_says dc__law_says pm__law_says an__law_says cd__law_says ct__law_says), sl__law_says⟩)
    (c__law_says : PySem.W.codeIn K cd__law_says "_law_says" = true)
    (k__law_says : PySem.W.keepIn K (.ref f__law_says) = true)
    (a__law_refused : PySem.W.nsIn K mainGlobals "_law_refused" = some (some (.ref f__law_refused)))
    (l__law_refused : K.lookup f__law_refused = some ⟨oc__law_refused, od__law_refused, .func (PySem.W.fnOf "_law_refused" "_law_refused" (defArgs s__law_refused) (defBody s__law_refused) (defScope s__law_refused) .none kV__law_refused dc__law_refused pm__law_refused an__law_refused cd__law_refused ct__law_refused), sl__law_refused⟩)
    (c__law_refused : PySem.W.codeIn K cd__law_refused "_law_refused" = true)
    (k__law_refused : PySem.W.keepIn K (.ref f__law_refused) = true)
    (a__law_raises : PySem.W.nsIn K mainGlobals "_law_raises" = some (some (.ref f__law_raises)))
    (l__law_raises : K.lookup f__law_raises = some ⟨oc__law_raises, od__law_raises, .func (PySem.W.fnOf "_law_raises" "_law_raises" (defArgs s__law_raises) (defBody s__law_raises) (defScope s__law_raises) .none kV__law_raises dc__law_raises pm__law_raises an__law_raises cd__law_raises ct__law_raises), sl__law_raises⟩)
    (c__law_raises : PySem.W.codeIn K cd__law_raises "_law_raises" = true)
    (k__law_raises : PySem.W.keepIn K (.ref f__law_raises) = true)
    (a__law_shuffled : PySem.W.nsIn K mainGlobals "_law_shuffled" = some (some (.ref f__law_shuffled)))
    (l__law_shuffled : K.lookup f__law_shuffled = some ⟨oc__law_shuffled, od__law_shuffled, .func (PySem.W.fnOf "_law_shuffled" "_law_shuffled" (defArgs s__law_shuffled) (defBody s__law_shuffled) (defScope s__law_shuffled) .none kV__law_shuffled dc__law_shuffled pm__law_shuffled an__law_shuffled cd__law_shuffled ct__law_shuffled), sl__law_shuffled⟩)
    (c__law_shuffled : PySem.W.codeIn K cd__law_shuffled "_law_shuffled" = true)
    (k__law_shuffled : PySem.W.keepIn K (.ref f__law_shuffled) = true)
    (a__law_bad : PySem.W.nsIn K mainGlobals "_law_bad" = some (some (.ref f__law_bad)))
    (l__law_bad : K.lookup f__law_bad = some ⟨oc__law_bad, od__law_bad, .func (PySem.W.fnOf "_law_bad" "_law_bad" (defArgs s__law_bad) (defBody s__law_bad) (defScope s__law_bad) .none kV__law_bad dc__law_bad pm__law_bad an__law_bad cd__law_bad ct__law_bad), sl__law_bad⟩)
    (c__law_bad : PySem.W.codeIn K cd__law_bad "_law_bad" = true)
    (k__law_bad : PySem.W.keepIn K (.ref f__law_bad) = true)
    (a__law_told : PySem.W.nsIn K mainGlobals "_law_told" = some (some (.ref f__law_told)))
    (l__law_told : K.lookup f__law_told = some ⟨oc__law_told, od__law_told, .func (PySem.W.fnOf "_law_told" "_law_told" (defArgs s__law_told) (defBody s__law_told) (defScope s__law_told) .none kV__law_told dc__law_told pm__law_told an__law_told cd__law_told ct__law_told), sl__law_told⟩)
    (c__law_told : PySem.W.codeIn K cd__law_told "_law_told" = true)
    (k__law_told : PySem.W.keepIn K (.ref f__law_told) = true)
    (a__law_heard : PySem.W.nsIn K mainGlobals "_law_heard" = some (some (.ref f__law_heard)))
    (l__law_heard : K.lookup f__law_heard = some ⟨oc__law_heard, od__law_heard, .func (PySem.W.fnOf "_law_heard" "_law_heard" (defArgs s__law_heard) (defBody s__law_heard) (defScope s__law_heard) .none kV__law_heard dc__law_heard pm__law_heard an__law_heard cd__law_heard ct__law_heard), sl__law_heard⟩)
    (c__law_heard : PySem.W.codeIn K cd__law_heard "_law_heard" = true)
    (k__law_heard : PySem.W.keepIn K (.ref f__law_heard) = true)
    (a_law : PySem.W.nsIn K mainGlobals "law" = some (some (.ref f_law)))
    (l_law : K.lookup f_law = some ⟨oc_law, od_law, .func (PySem.W.fnOf "law" "law" (defArgs s_law) (defBody s_law) (defScope s_law) .none kV_law dc_law pm_law an_law cd_law ct_law), sl_law⟩)
    (c_law : PySem.W.codeIn K cd_law "law" = true)
    (k_law : PySem.W.keepIn K (.ref f_law) = true)
    (g_InvalidForm : PySem.W.nsIn K mainGlobals "InvalidForm" = some (some (.ref C_InvalidForm)))
    (xL_InvalidForm : K.lookup C_InvalidForm = some (excClassObj nm_InvalidForm q_InvalidForm C_InvalidForm N_InvalidForm bs_InvalidForm [.ref CB_InvalidForm, .type "ValueError", .type "Exception", .type "BaseException", .type "object"] true sn_InvalidForm sub_InvalidForm ab_InvalidForm col_InvalidForm dd_InvalidForm m0_InvalidForm m1_InvalidForm m2_InvalidForm m3_InvalidForm m5_InvalidForm "ValueError.__new__"))
    (sa_InvalidForm : PySem.W.findIn K (.ref C_InvalidForm) "__setattr__" = some (some (.builtin "object.__setattr__")))
    (ga_InvalidForm : PySem.W.findIn K (.ref C_InvalidForm) "__getattribute__" = some (some (.builtin "BaseException.__getattribute__")))
    (gg_InvalidForm : PySem.W.findIn K (.ref C_InvalidForm) "__getattr__" = some none)
    (no_InvalidForm : PySem.W.findIn K (.ref C_InvalidForm) "value" = some none)
    (in_InvalidForm : PySem.W.findIn K (.ref C_InvalidForm) "__init__" = some (some (.ref f_x_InvalidForm)))
    (ti_InvalidForm : PySem.W.typeIn K (.ref f_x_InvalidForm) = some (.type "function"))
    (l_x_InvalidForm : K.lookup f_x_InvalidForm = some ⟨oc_x_InvalidForm, od_x_InvalidForm, .func (PySem.W.fnOf "__init__" "InvalidForm.__init__" (defArgs s_InvalidForm___init__) (defBody s_InvalidForm___init__) (defScope s_InvalidForm___init__) (.ref T_x_InvalidForm) kV_x_InvalidForm dc_x_InvalidForm pm_x_InvalidForm an_x_InvalidForm cd_x_InvalidForm ct_x_InvalidForm), sl_x_InvalidForm⟩)
    (c_x_InvalidForm : PySem.W.codeIn K cd_x_InvalidForm "InvalidForm.__init__" = true)
    (k_x_InvalidForm : PySem.W.keepIn K (.ref f_x_InvalidForm) = true)
    (lT_InvalidForm : K.lookup T_x_InvalidForm = some ⟨ocT_InvalidForm, odT_InvalidForm, .seq #[.none] nT_InvalidForm, slT_InvalidForm⟩)
    (kC_InvalidForm : PySem.W.keepIn K (.ref C_InvalidForm) = true)
    (eC_InvalidForm : PySem.W.subIn K (.ref C_InvalidForm) (.type "BaseException") = some true)
    (tC_InvalidForm : PySem.W.typeIn K (.ref C_InvalidForm) = some (.type "type"))
    (hC_InvalidForm : PySem.W.hasDictIn K C_InvalidForm = true)
    (iC_InvalidForm : PySem.W.isClsIn K C_InvalidForm = true)
    (sC_InvalidForm : PySem.W.subIn K (.ref C_InvalidForm) (.ref C_InvalidForm) = some true)
    (g_InvalidLook : PySem.W.nsIn K mainGlobals "InvalidLook" = some (some (.ref C_InvalidLook)))
    (xL_InvalidLook : K.lookup C_InvalidLook = some (excClassObj nm_InvalidLook q_InvalidLook C_InvalidLook N_InvalidLook bs_InvalidLook [.ref CB_InvalidLook, .type "ValueError", .type "Exception", .type "BaseException", .type "object"] true sn_InvalidLook sub_InvalidLook ab_InvalidLook col_InvalidLook dd_InvalidLook m0_InvalidLook m1_InvalidLook m2_InvalidLook m3_InvalidLook m5_InvalidLook "ValueError.__new__"))
    (sa_InvalidLook : PySem.W.findIn K (.ref C_InvalidLook) "__setattr__" = some (some (.builtin "object.__setattr__")))
    (ga_InvalidLook : PySem.W.findIn K (.ref C_InvalidLook) "__getattribute__" = some (some (.builtin "BaseException.__getattribute__")))
    (gg_InvalidLook : PySem.W.findIn K (.ref C_InvalidLook) "__getattr__" = some none)
    (no_InvalidLook : PySem.W.findIn K (.ref C_InvalidLook) "value" = some none)
    (in_InvalidLook : PySem.W.findIn K (.ref C_InvalidLook) "__init__" = some (some (.ref f_x_InvalidLook)))
    (ti_InvalidLook : PySem.W.typeIn K (.ref f_x_InvalidLook) = some (.type "function"))
    (l_x_InvalidLook : K.lookup f_x_InvalidLook = some ⟨oc_x_InvalidLook, od_x_InvalidLook, .func (PySem.W.fnOf "__init__" "InvalidLook.__init__" (defArgs s_InvalidLook___init__) (defBody s_InvalidLook___init__) (defScope s_InvalidLook___init__) (.ref T_x_InvalidLook) kV_x_InvalidLook dc_x_InvalidLook pm_x_InvalidLook an_x_InvalidLook cd_x_InvalidLook ct_x_InvalidLook), sl_x_InvalidLook⟩)
    (c_x_InvalidLook : PySem.W.codeIn K cd_x_InvalidLook "InvalidLook.__init__" = true)
    (k_x_InvalidLook : PySem.W.keepIn K (.ref f_x_InvalidLook) = true)
    (lT_InvalidLook : K.lookup T_x_InvalidLook = some ⟨ocT_InvalidLook, odT_InvalidLook, .seq #[.none] nT_InvalidLook, slT_InvalidLook⟩)
    (kC_InvalidLook : PySem.W.keepIn K (.ref C_InvalidLook) = true)
    (eC_InvalidLook : PySem.W.subIn K (.ref C_InvalidLook) (.type "BaseException") = some true)
    (tC_InvalidLook : PySem.W.typeIn K (.ref C_InvalidLook) = some (.type "type"))
    (hC_InvalidLook : PySem.W.hasDictIn K C_InvalidLook = true)
    (iC_InvalidLook : PySem.W.isClsIn K C_InvalidLook = true)
    (sC_InvalidLook : PySem.W.subIn K (.ref C_InvalidLook) (.ref C_InvalidLook) = some true)
    (g_InvalidPlace : PySem.W.nsIn K mainGlobals "InvalidPlace" = some (some (.ref C_InvalidPlace)))
    (xL_InvalidPlace : K.lookup C_InvalidPlace = some (excClassObj nm_InvalidPlace q_InvalidPlace C_InvalidPlace N_InvalidPlace bs_InvalidPlace [.ref CB_InvalidPlace, .type "ValueError", .type "Exception", .type "BaseException", .type "object"] true sn_InvalidPlace sub_InvalidPlace ab_InvalidPlace col_InvalidPlace dd_InvalidPlace m0_InvalidPlace m1_InvalidPlace m2_InvalidPlace m3_InvalidPlace m5_InvalidPlace "ValueError.__new__"))
    (sa_InvalidPlace : PySem.W.findIn K (.ref C_InvalidPlace) "__setattr__" = some (some (.builtin "object.__setattr__")))
    (ga_InvalidPlace : PySem.W.findIn K (.ref C_InvalidPlace) "__getattribute__" = some (some (.builtin "BaseException.__getattribute__")))
    (gg_InvalidPlace : PySem.W.findIn K (.ref C_InvalidPlace) "__getattr__" = some none)
    (no_InvalidPlace : PySem.W.findIn K (.ref C_InvalidPlace) "value" = some none)
    (in_InvalidPlace : PySem.W.findIn K (.ref C_InvalidPlace) "__init__" = some (some (.ref f_x_InvalidPlace)))
    (ti_InvalidPlace : PySem.W.typeIn K (.ref f_x_InvalidPlace) = some (.type "function"))
    (l_x_InvalidPlace : K.lookup f_x_InvalidPlace = some ⟨oc_x_InvalidPlace, od_x_InvalidPlace, .func (PySem.W.fnOf "__init__" "InvalidPlace.__init__" (defArgs s_InvalidPlace___init__) (defBody s_InvalidPlace___init__) (defScope s_InvalidPlace___init__) (.ref T_x_InvalidPlace) kV_x_InvalidPlace dc_x_InvalidPlace pm_x_InvalidPlace an_x_InvalidPlace cd_x_InvalidPlace ct_x_InvalidPlace), sl_x_InvalidPlace⟩)
    (c_x_InvalidPlace : PySem.W.codeIn K cd_x_InvalidPlace "InvalidPlace.__init__" = true)
    (k_x_InvalidPlace : PySem.W.keepIn K (.ref f_x_InvalidPlace) = true)
    (lT_InvalidPlace : K.lookup T_x_InvalidPlace = some ⟨ocT_InvalidPlace, odT_InvalidPlace, .seq #[.none] nT_InvalidPlace, slT_InvalidPlace⟩)
    (kC_InvalidPlace : PySem.W.keepIn K (.ref C_InvalidPlace) = true)
    (eC_InvalidPlace : PySem.W.subIn K (.ref C_InvalidPlace) (.type "BaseException") = some true)
    (tC_InvalidPlace : PySem.W.typeIn K (.ref C_InvalidPlace) = some (.type "type"))
    (hC_InvalidPlace : PySem.W.hasDictIn K C_InvalidPlace = true)
    (iC_InvalidPlace : PySem.W.isClsIn K C_InvalidPlace = true)
    (sC_InvalidPlace : PySem.W.subIn K (.ref C_InvalidPlace) (.ref C_InvalidPlace) = some true)
    (g_F : PySem.W.nsIn K mainGlobals "Form" = some (some (.ref CF)))
    (pg_F : PySem.W.plainGet K CF Str.empty = true)
    (hd_F : PySem.W.hasDictIn K CF = true)
    (po_F : PySem.W.plainOver K CF = true)
    (sa_F : PySem.W.findIn K (.ref CF) "__setattr__" = some (some (.builtin "object.__setattr__")))
    (mk_F : PySem.W.makesIn K CF = true)
    (kc_F : PySem.W.keepIn K (.ref CF) = true)
    (nL_F : PySem.W.findIn K (.ref CF) "_letters" = some none)
    (nC_F : PySem.W.findIn K (.ref CF) "_chains" = some none)
    (in_F : PySem.W.findIn K (.ref CF) "__init__" = some (some (.ref f_Fi)))
    (if_F : PySem.W.isFn K (.ref f_Fi) = true)
    (l_Fi : K.lookup f_Fi = some ⟨oc_Fi, od_Fi, .func (PySem.W.fnOf "__init__" "Form.__init__" (defArgs s_Form___init__) (defBody s_Form___init__) (defScope s_Form___init__) (.ref T_Fi) kV_Fi dc_Fi pm_Fi an_Fi cd_Fi ct_Fi), sl_Fi⟩)
    (c_Fi : PySem.W.codeIn K cd_Fi "Form.__init__" = true)
    (k_Fi : PySem.W.keepIn K (.ref f_Fi) = true)
    (lT_F : K.lookup T_Fi = some ⟨ocTF, odTF, .seq #[.str alphaS t1F, .int 1 t2F] nTF, slTF⟩)
    (at_FL : PySem.W.findIn K (.ref CF) "letters" = some (some (.ref p_FL)))
    (gt_FL : PySem.W.specialIn K (.ref p_FL) "__get__" = some (some (.builtin "property.__get__")))
    (tk_FL : PySem.W.takesIn K (.ref p_FL) = some true)
    (rc_FL : PySem.W.recIn K p_FL "property" = some (.ref f_FL :: rFL))
    (l_FL : K.lookup f_FL = some ⟨oc_FL, od_FL, .func (PySem.W.fnOf "letters" "Form.letters" (defArgs s_Form_letters) (defBody s_Form_letters) (defScope s_Form_letters) .none kV_FL dc_FL pm_FL an_FL cd_FL ct_FL), sl_FL⟩)
    (c_FL : PySem.W.codeIn K cd_FL "Form.letters" = true)
    (k_FL : PySem.W.keepIn K (.ref f_FL) = true)
    (at_FC : PySem.W.findIn K (.ref CF) "chains" = some (some (.ref p_FC)))
    (gt_FC : PySem.W.specialIn K (.ref p_FC) "__get__" = some (some (.builtin "property.__get__")))
    (tk_FC : PySem.W.takesIn K (.ref p_FC) = some true)
    (rc_FC : PySem.W.recIn K p_FC "property" = some (.ref f_FC :: rFC))
    (l_FC : K.lookup f_FC = some ⟨oc_FC, od_FC, .func (PySem.W.fnOf "chains" "Form.chains" (defArgs s_Form_chains) (defBody s_Form_chains) (defScope s_Form_chains) .none kV_FC dc_FC pm_FC an_FC cd_FC ct_FC), sl_FC⟩)
    (c_FC : PySem.W.codeIn K cd_FC "Form.chains" = true)
    (k_FC : PySem.W.keepIn K (.ref f_FC) = true)
    (eq_F : PySem.W.findIn K (.ref CF) "__eq__" = some (some (.ref f_FE)))
    (ie_F : PySem.W.isFn K (.ref f_FE) = true)
    (l_FE : K.lookup f_FE = some ⟨oc_FE, od_FE, .func (PySem.W.fnOf "__eq__" "Form.__eq__" (defArgs s_Form___eq__) (defBody s_Form___eq__) (defScope s_Form___eq__) .none kV_FE dc_FE pm_FE an_FE cd_FE ct_FE), sl_FE⟩)
    (c_FE : PySem.W.codeIn K cd_FE "Form.__eq__" = true)
    (k_FE : PySem.W.keepIn K (.ref f_FE) = true)
    (i1_F : PySem.W.findIn K (.ref CF) "__class__" = some (some (.builtin "object.__class__")))
    (i2_F : PySem.W.specialIn K (.builtin "object.__class__") "__get__" = some (some (.builtin "getset_descriptor.__get__")))
    (i3_F : PySem.W.takesIn K (.builtin "object.__class__") = some true)
    (i4_F : PySem.W.mroIn K CF (.type "object") = some true)
    (cC_F : PySem.W.isClsIn K CF = true)
    (tC_F : PySem.W.typeIn K (.ref CF) = some (.type "type"))
    (g_P : PySem.W.nsIn K mainGlobals "Piece" = some (some (.ref CPc)))
    (pg_P : PySem.W.plainGet K CPc Str.empty = true)
    (hd_P : PySem.W.hasDictIn K CPc = true)
    (po_P : PySem.W.plainOver K CPc = true)
    (sa_P : PySem.W.findIn K (.ref CPc) "__setattr__" = some (some (.builtin "object.__setattr__")))
    (mk_P : PySem.W.makesIn K CPc = true)
    (kc_P : PySem.W.keepIn K (.ref CPc) = true)
    (n1_P : PySem.W.findIn K (.ref CPc) "_folder" = some none)
    (n2_P : PySem.W.findIn K (.ref CPc) "_form" = some none)
    (n3_P : PySem.W.findIn K (.ref CPc) "_mark" = some none)
    (n4_P : PySem.W.findIn K (.ref CPc) "_names" = some none)
    (n5_P : PySem.W.findIn K (.ref CPc) "_ended" = some none)
    (n6_P : PySem.W.findIn K (.ref CPc) "_low" = some none)
    (n7_P : PySem.W.findIn K (.ref CPc) "_high" = some none)
    (at_Pi : PySem.W.findIn K (.ref CPc) "__init__" = some (some (.ref f_Pi)))
    (fn_Pi : PySem.W.isFn K (.ref f_Pi) = true)
    (l_Pi : K.lookup f_Pi = some ⟨oc_Pi, od_Pi, .func (PySem.W.fnOf "__init__" "Piece.__init__" (defArgs s_Piece___init__) (defBody s_Piece___init__) (defScope s_Piece___init__) .none kV_Pi dc_Pi pm_Pi an_Pi cd_Pi ct_Pi), sl_Pi⟩)
    (c_Pi : PySem.W.codeIn K cd_Pi "Piece.__init__" = true)
    (k_Pi : PySem.W.keepIn K (.ref f_Pi) = true)
    (i1_P : PySem.W.findIn K (.ref CPc) "__class__" = some (some (.builtin "object.__class__")))
    (i4_P : PySem.W.mroIn K CPc (.type "object") = some true)
    (cC_P : PySem.W.isClsIn K CPc = true)
    (tC_P : PySem.W.typeIn K (.ref CPc) = some (.type "type"))
    (g_A : PySem.W.nsIn K mainGlobals "Ask" = some (some (.ref CAk)))
    (pg_A : PySem.W.plainGet K CAk Str.empty = true)
    (hd_A : PySem.W.hasDictIn K CAk = true)
    (po_A : PySem.W.plainOver K CAk = true)
    (sa_A : PySem.W.findIn K (.ref CAk) "__setattr__" = some (some (.builtin "object.__setattr__")))
    (mk_A : PySem.W.makesIn K CAk = true)
    (kc_A : PySem.W.keepIn K (.ref CAk) = true)
    (n1_A : PySem.W.findIn K (.ref CAk) "_stands" = some none)
    (at_Ai : PySem.W.findIn K (.ref CAk) "__init__" = some (some (.ref f_Ai)))
    (fn_Ai : PySem.W.isFn K (.ref f_Ai) = true)
    (l_Ai : K.lookup f_Ai = some ⟨oc_Ai, od_Ai, .func (PySem.W.fnOf "__init__" "Ask.__init__" (defArgs s_Ask___init__) (defBody s_Ask___init__) (defScope s_Ask___init__) .none kV_Ai dc_Ai pm_Ai an_Ai cd_Ai ct_Ai), sl_Ai⟩)
    (c_Ai : PySem.W.codeIn K cd_Ai "Ask.__init__" = true)
    (k_Ai : PySem.W.keepIn K (.ref f_Ai) = true)
    (at_As : PySem.W.findIn K (.ref CAk) "says" = some (some (.ref f_As)))
    (fn_As : PySem.W.isFn K (.ref f_As) = true)
    (l_As : K.lookup f_As = some ⟨oc_As, od_As, .func (PySem.W.fnOf "says" "Ask.says" (defArgs s_Ask_says) (defBody s_Ask_says) (defScope s_Ask_says) .none kV_As dc_As pm_As an_As cd_As ct_As), sl_As⟩)
    (c_As : PySem.W.codeIn K cd_As "Ask.says" = true)
    (k_As : PySem.W.keepIn K (.ref f_As) = true)
    (at_At : PySem.W.findIn K (.ref CAk) "standing" = some (some (.ref f_At)))
    (fn_At : PySem.W.isFn K (.ref f_At) = true)
    (l_At : K.lookup f_At = some ⟨oc_At, od_At, .func (PySem.W.fnOf "standing" "Ask.standing" (defArgs s_Ask_standing) (defBody s_Ask_standing) (defScope s_Ask_standing) .none kV_At dc_At pm_At an_At cd_At ct_At), sl_At⟩)
    (c_At : PySem.W.codeIn K cd_At "Ask.standing" = true)
    (k_At : PySem.W.keepIn K (.ref f_At) = true)
    (at_Ac : PySem.W.findIn K (.ref CAk) "__contains__" = some (some (.ref f_Ac)))
    (fn_Ac : PySem.W.isFn K (.ref f_Ac) = true)
    (l_Ac : K.lookup f_Ac = some ⟨oc_Ac, od_Ac, .func (PySem.W.fnOf "__contains__" "Ask.__contains__" (defArgs s_Ask___contains__) (defBody s_Ask___contains__) (defScope s_Ask___contains__) .none kV_Ac dc_Ac pm_Ac an_Ac cd_Ac ct_Ac), sl_Ac⟩)
    (c_Ac : PySem.W.codeIn K cd_Ac "Ask.__contains__" = true)
    (k_Ac : PySem.W.keepIn K (.ref f_Ac) = true)
    (at_Aq : PySem.W.findIn K (.ref CAk) "__eq__" = some (some (.ref f_Aq)))
    (fn_Aq : PySem.W.isFn K (.ref f_Aq) = true)
    (l_Aq : K.lookup f_Aq = some ⟨oc_Aq, od_Aq, .func (PySem.W.fnOf "__eq__" "Ask.__eq__" (defArgs s_Ask___eq__) (defBody s_Ask___eq__) (defScope s_Ask___eq__) .none kV_Aq dc_Aq pm_Aq an_Aq cd_Aq ct_Aq), sl_Aq⟩)
    (c_Aq : PySem.W.codeIn K cd_Aq "Ask.__eq__" = true)
    (k_Aq : PySem.W.keepIn K (.ref f_Aq) = true)
    (i1_A : PySem.W.findIn K (.ref CAk) "__class__" = some (some (.builtin "object.__class__")))
    (i4_A : PySem.W.mroIn K CAk (.type "object") = some true)
    (cC_A : PySem.W.isClsIn K CAk = true)
    (tC_A : PySem.W.typeIn K (.ref CAk) = some (.type "type"))
    (at_Ranswers : PySem.W.findIn K (.ref CAk) "answers" = some (some (.ref p_Ranswers)))
    (gt_Ranswers : PySem.W.specialIn K (.ref p_Ranswers) "__get__" = some (some (.builtin "property.__get__")))
    (tk_Ranswers : PySem.W.takesIn K (.ref p_Ranswers) = some true)
    (rc_Ranswers : PySem.W.recIn K p_Ranswers "property" = some (.ref f_Ranswers :: rRanswers))
    (l_Ranswers : K.lookup f_Ranswers = some ⟨oc_Ranswers, od_Ranswers, .func (PySem.W.fnOf "answers" "Ask.answers" (defArgs s_Ask_answers) (defBody s_Ask_answers) (defScope s_Ask_answers) .none kV_Ranswers dc_Ranswers pm_Ranswers an_Ranswers cd_Ranswers ct_Ranswers), sl_Ranswers⟩)
    (c_Ranswers : PySem.W.codeIn K cd_Ranswers "Ask.answers" = true)
    (k_Ranswers : PySem.W.keepIn K (.ref f_Ranswers) = true)
    (g_K : PySem.W.nsIn K mainGlobals "Look" = some (some (.ref CLk)))
    (cC_K : PySem.W.isClsIn K CLk = true)
    (tC_K : PySem.W.typeIn K (.ref CLk) = some (.type "type"))
    (sb_AK : PySem.W.subIn K (.ref CAk) (.ref CLk) = some true)
    (sb_PA : PySem.W.subIn K (.ref CPc) (.ref CAk) = some false)
    (sb_AP : PySem.W.subIn K (.ref CAk) (.ref CPc) = some false)
    (ne_AK : CAk ≠ CLk)
    (ne_PA : CPc ≠ CAk) :
    ∃ fd : FuncData, (∀ (s : Shared) (v : Value), BindsTo s fd ⟨[v], []⟩ [("_law_script", v)]) ∧ ∀ base : Heap, K.In base → base.Ns mainGlobals mg → FnOk l.prog w K mg base CX0 9 fa fd ["_law_script"] (spLaw K) := by
  have e := hfa.symm.trans (PySem.W.mg_of X G a_law)
  cases e
  have N_isinstance : mg "isinstance" = none := PySem.W.mg_none_of X G z_isinstance
  have N_int : mg "int" = none := PySem.W.mg_none_of X G z_int
  have N_bool : mg "bool" = none := PySem.W.mg_none_of X G z_bool
  have N_str : mg "str" = none := PySem.W.mg_none_of X G z_str
  have N_sorted : mg "sorted" = none := PySem.W.mg_none_of X G z_sorted
  have N_tuple : mg "tuple" = none := PySem.W.mg_none_of X G z_tuple
  have N_range : mg "range" = none := PySem.W.mg_none_of X G z_range
  have N_sum : mg "sum" = none := PySem.W.mg_none_of X G z_sum
  have N_len : mg "len" = none := PySem.W.mg_none_of X G z_len
  have N_all : mg "all" = none := PySem.W.mg_none_of X G z_all
  have N_list : mg "list" = none := PySem.W.mg_none_of X G z_list
  have N_zip : mg "zip" = none := PySem.W.mg_none_of X G z_zip
  have N_dict : mg "dict" = none := PySem.W.mg_none_of X G z_dict
  have V_LETTERS : ∃ t, mg "LETTERS" = some (.str alphaS t) := ⟨_, PySem.W.mg_of X G v_LETTERS⟩
  have V_MOST_CHAINS : ∃ t, mg "MOST_CHAINS" = some (.int 1000 t) := ⟨_, PySem.W.mg_of X G v_MOST_CHAINS⟩
  have V_LONGEST_NAME : ∃ t, mg "LONGEST_NAME" = some (.int 8 t) := ⟨_, PySem.W.mg_of X G v_LONGEST_NAME⟩
  have D_is_whole : Df K mg "is_whole" s_is_whole ["value"] := ⟨f_is_whole, _, fun_mk (st := s_is_whole) l_is_whole c_is_whole k_is_whole, PySem.W.mg_of X G a_is_whole, (fun_mk (st := s_is_whole) l_is_whole c_is_whole k_is_whole).binds fun _ _ _ _ _ _ us hl => match us, hl with | [_], _ => rfl⟩
  have D_is_name : Df K mg "is_name" s_is_name ["value"] := ⟨f_is_name, _, fun_mk (st := s_is_name) l_is_name c_is_name k_is_name, PySem.W.mg_of X G a_is_name, (fun_mk (st := s_is_name) l_is_name c_is_name k_is_name).binds fun _ _ _ _ _ _ us hl => match us, hl with | [_], _ => rfl⟩
  have D_is_place : Df K mg "is_place" s_is_place ["value"] := ⟨f_is_place, _, fun_mk (st := s_is_place) l_is_place c_is_place k_is_place, PySem.W.mg_of X G a_is_place, (fun_mk (st := s_is_place) l_is_place c_is_place k_is_place).binds fun _ _ _ _ _ _ us hl => match us, hl with | [_], _ => rfl⟩
  have D_is_name_list : Df K mg "is_name_list" s_is_name_list ["value"] := ⟨f_is_name_list, _, fun_mk (st := s_is_name_list) l_is_name_list c_is_name_list k_is_name_list, PySem.W.mg_of X G a_is_name_list, (fun_mk (st := s_is_name_list) l_is_name_list c_is_name_list k_is_name_list).binds fun _ _ _ _ _ _ us hl => match us, hl with | [_], _ => rfl⟩
  have D_check_place : Df K mg "check_place" s_check_place ["value"] := ⟨f_check_place, _, fun_mk (st := s_check_place) l_check_place c_check_place k_check_place, PySem.W.mg_of X G a_check_place, (fun_mk (st := s_check_place) l_check_place c_check_place k_check_place).binds fun _ _ _ _ _ _ us hl => match us, hl with | [_], _ => rfl⟩
  have D__are_letters : Df K mg "_are_letters" s__are_letters ["value"] := ⟨f__are_letters, _, fun_mk (st := s__are_letters) l__are_letters c__are_letters k__are_letters, PySem.W.mg_of X G a__are_letters, (fun_mk (st := s__are_letters) l__are_letters c__are_letters k__are_letters).binds fun _ _ _ _ _ _ us hl => match us, hl with | [_], _ => rfl⟩
  have D__are_chains : Df K mg "_are_chains" s__are_chains ["value"] := ⟨f__are_chains, _, fun_mk (st := s__are_chains) l__are_chains c__are_chains k__are_chains, PySem.W.mg_of X G a__are_chains, (fun_mk (st := s__are_chains) l__are_chains c__are_chains k__are_chains).binds fun _ _ _ _ _ _ us hl => match us, hl with | [_], _ => rfl⟩
  have D__rise : Df K mg "_rise" s__rise ["form", "mark", "names"] := ⟨f__rise, _, fun_mk (st := s__rise) l__rise c__rise k__rise, PySem.W.mg_of X G a__rise, (fun_mk (st := s__rise) l__rise c__rise k__rise).binds fun _ _ _ _ _ _ us hl => match us, hl with | [_, _, _], _ => rfl⟩
  have D__is_piece : Df K mg "_is_piece" s__is_piece ["folder", "form", "mark", "names", "ended"] := ⟨f__is_piece, _, fun_mk (st := s__is_piece) l__is_piece c__is_piece k__is_piece, PySem.W.mg_of X G a__is_piece, (fun_mk (st := s__is_piece) l__is_piece c__is_piece k__is_piece).binds fun _ _ _ _ _ _ us hl => match us, hl with | [_, _, _, _, _], _ => rfl⟩
  have D__is_answer : Df K mg "_is_answer" s__is_answer ["value"] := ⟨f__is_answer, _, fun_mk (st := s__is_answer) l__is_answer c__is_answer k__is_answer, PySem.W.mg_of X G a__is_answer, (fun_mk (st := s__is_answer) l__is_answer c__is_answer k__is_answer).binds fun _ _ _ _ _ _ us hl => match us, hl with | [_], _ => rfl⟩
  have D__are_answers : Df K mg "_are_answers" s__are_answers ["value"] := ⟨f__are_answers, _, fun_mk (st := s__are_answers) l__are_answers c__are_answers k__are_answers, PySem.W.mg_of X G a__are_answers, (fun_mk (st := s__are_answers) l__are_answers c__are_answers k__are_answers).binds fun _ _ _ _ _ _ us hl => match us, hl with | [_], _ => rfl⟩
  have D__law_purse : Df K mg "_law_purse" s__law_purse ["_law_script", "_law_at"] := ⟨f__law_purse, _, fun_mk (st := s__law_purse) l__law_purse c__law_purse k__law_purse, PySem.W.mg_of X G a__law_purse, (fun_mk (st := s__law_purse) l__law_purse c__law_purse k__law_purse).binds fun _ _ _ _ _ _ us hl => match us, hl with | [_, _], _ => rfl⟩
  have D__law_draw : Df K mg "_law_draw" s__law_draw ["_law_purse_here", "_law_many"] := ⟨f__law_draw, _, fun_mk (st := s__law_draw) l__law_draw c__law_draw k__law_draw, PySem.W.mg_of X G a__law_draw, (fun_mk (st := s__law_draw) l__law_draw c__law_draw k__law_draw).binds fun _ _ _ _ _ _ us hl => match us, hl with | [_, _], _ => rfl⟩
  have D__law_name : Df K mg "_law_name" s__law_name ["_law_purse_here"] := ⟨f__law_name, _, fun_mk (st := s__law_name) l__law_name c__law_name k__law_name, PySem.W.mg_of X G a__law_name, (fun_mk (st := s__law_name) l__law_name c__law_name k__law_name).binds fun _ _ _ _ _ _ us hl => match us, hl with | [_], _ => rfl⟩
  have D__law_names : Df K mg "_law_names" s__law_names ["_law_purse_here", "_law_many"] := ⟨f__law_names, _, fun_mk (st := s__law_names) l__law_names c__law_names k__law_names, PySem.W.mg_of X G a__law_names, (fun_mk (st := s__law_names) l__law_names c__law_names k__law_names).binds fun _ _ _ _ _ _ us hl => match us, hl with | [_, _], _ => rfl⟩
  have D__law_world : Df K mg "_law_world" s__law_world ["_law_purse_here"] := ⟨f__law_world, _, fun_mk (st := s__law_world) l__law_world c__law_world k__law_world, PySem.W.mg_of X G a__law_world, (fun_mk (st := s__law_world) l__law_world c__law_world k__law_world).binds fun _ _ _ _ _ _ us hl => match us, hl with | [_], _ => rfl⟩
  have D__law_says : Df K mg "_law_says" s__law_says ["_law_look", "_law_place"] := ⟨f__law_says, _, fun_mk (st := s__law_says) l__law_says c__law_says k__law_says, PySem.W.mg_of X G a__law_says, (fun_mk (st := s__law_says) l__law_says c__law_says k__law_says).binds fun _ _ _ _ _ _ us hl => match us, hl with | [_, _], _ => rfl⟩
  have D__law_refused : Df K mg "_law_refused" s__law_refused ["_law_answers"] := ⟨f__law_refused, _, fun_mk (st := s__law_refused) l__law_refused c__law_refused k__law_refused, PySem.W.mg_of X G a__law_refused, (fun_mk (st := s__law_refused) l__law_refused c__law_refused k__law_refused).binds fun _ _ _ _ _ _ us hl => match us, hl with | [_], _ => rfl⟩
  have D__law_raises : Df K mg "_law_raises" s__law_raises ["_law_look", "_law_value"] := ⟨f__law_raises, _, fun_mk (st := s__law_raises) l__law_raises c__law_raises k__law_raises, PySem.W.mg_of X G a__law_raises, (fun_mk (st := s__law_raises) l__law_raises c__law_raises k__law_raises).binds fun _ _ _ _ _ _ us hl => match us, hl with | [_, _], _ => rfl⟩
  have D__law_shuffled : Df K mg "_law_shuffled" s__law_shuffled ["_law_purse_here", "_law_rows"] := ⟨f__law_shuffled, _, fun_mk (st := s__law_shuffled) l__law_shuffled c__law_shuffled k__law_shuffled, PySem.W.mg_of X G a__law_shuffled, (fun_mk (st := s__law_shuffled) l__law_shuffled c__law_shuffled k__law_shuffled).binds fun _ _ _ _ _ _ us hl => match us, hl with | [_, _], _ => rfl⟩
  have D__law_bad : Df K mg "_law_bad" s__law_bad ["_law_purse_here", "_law_answers", "_law_place"] := ⟨f__law_bad, _, fun_mk (st := s__law_bad) l__law_bad c__law_bad k__law_bad, PySem.W.mg_of X G a__law_bad, (fun_mk (st := s__law_bad) l__law_bad c__law_bad k__law_bad).binds fun _ _ _ _ _ _ us hl => match us, hl with | [_, _, _], _ => rfl⟩
  have D__law_told : Df K mg "_law_told" s__law_told ["_law_ask", "_law_answers"] := ⟨f__law_told, _, fun_mk (st := s__law_told) l__law_told c__law_told k__law_told, PySem.W.mg_of X G a__law_told, (fun_mk (st := s__law_told) l__law_told c__law_told k__law_told).binds fun _ _ _ _ _ _ us hl => match us, hl with | [_, _], _ => rfl⟩
  have D__law_heard : Df K mg "_law_heard" s__law_heard ["_law_ask", "_law_answers", "_law_places"] := ⟨f__law_heard, _, fun_mk (st := s__law_heard) l__law_heard c__law_heard k__law_heard, PySem.W.mg_of X G a__law_heard, (fun_mk (st := s__law_heard) l__law_heard c__law_heard k__law_heard).binds fun _ _ _ _ _ _ us hl => match us, hl with | [_, _, _], _ => rfl⟩
  have FD_InvalidForm : FunD K "__init__" "InvalidForm.__init__" (defArgs s_InvalidForm___init__) (defBody s_InvalidForm___init__) (defScope s_InvalidForm___init__) [.non] [] f_x_InvalidForm _ := ⟨⟨_, _, _, _, _, _, _, _, _, _, rfl, l_x_InvalidForm, c_x_InvalidForm, .inr ⟨by simp, T_x_InvalidForm, _, [.none], _, rfl, lT_InvalidForm, rfl, .cons rfl .nil⟩, .inl rfl⟩, k_x_InvalidForm⟩
  have BD_InvalidForm := exc_binds FD_InvalidForm (fld := "value") fun _ _ _ _ _ _ _ us its hu hi => match us, its, hu, hi with | [_, _], [_], _, _ => ⟨_, rfl, rfl⟩
  have XF_InvalidForm : ExcF K mg "InvalidForm" "value" C_InvalidForm :=
    { g := PySem.W.mg_of X G g_InvalidForm, T := ⟨⟨_, _, _, _, _, _, _, _, _, _, _, _, _, _, _, xL_InvalidForm, ve_own⟩, sa_InvalidForm, eC_InvalidForm, tC_InvalidForm, kC_InvalidForm⟩, no := no_InvalidForm, xf := ⟨ga_InvalidForm, gg_InvalidForm, eC_InvalidForm, hC_InvalidForm⟩,
      te := exm_self eC_InvalidForm iC_InvalidForm tC_InvalidForm sC_InvalidForm, init := ⟨f_x_InvalidForm, _, _, _, _, _, _, _, _, in_InvalidForm, ti_InvalidForm, FD_InvalidForm, sc_InvalidForm___init__, BD_InvalidForm⟩ }
  have FD_InvalidLook : FunD K "__init__" "InvalidLook.__init__" (defArgs s_InvalidLook___init__) (defBody s_InvalidLook___init__) (defScope s_InvalidLook___init__) [.non] [] f_x_InvalidLook _ := ⟨⟨_, _, _, _, _, _, _, _, _, _, rfl, l_x_InvalidLook, c_x_InvalidLook, .inr ⟨by simp, T_x_InvalidLook, _, [.none], _, rfl, lT_InvalidLook, rfl, .cons rfl .nil⟩, .inl rfl⟩, k_x_InvalidLook⟩
  have BD_InvalidLook := exc_binds FD_InvalidLook (fld := "value") fun _ _ _ _ _ _ _ us its hu hi => match us, its, hu, hi with | [_, _], [_], _, _ => ⟨_, rfl, rfl⟩
  have XF_InvalidLook : ExcF K mg "InvalidLook" "value" C_InvalidLook :=
    { g := PySem.W.mg_of X G g_InvalidLook, T := ⟨⟨_, _, _, _, _, _, _, _, _, _, _, _, _, _, _, xL_InvalidLook, ve_own⟩, sa_InvalidLook, eC_InvalidLook, tC_InvalidLook, kC_InvalidLook⟩, no := no_InvalidLook, xf := ⟨ga_InvalidLook, gg_InvalidLook, eC_InvalidLook, hC_InvalidLook⟩,
      te := exm_self eC_InvalidLook iC_InvalidLook tC_InvalidLook sC_InvalidLook, init := ⟨f_x_InvalidLook, _, _, _, _, _, _, _, _, in_InvalidLook, ti_InvalidLook, FD_InvalidLook, sc_InvalidLook___init__, BD_InvalidLook⟩ }
  have FD_InvalidPlace : FunD K "__init__" "InvalidPlace.__init__" (defArgs s_InvalidPlace___init__) (defBody s_InvalidPlace___init__) (defScope s_InvalidPlace___init__) [.non] [] f_x_InvalidPlace _ := ⟨⟨_, _, _, _, _, _, _, _, _, _, rfl, l_x_InvalidPlace, c_x_InvalidPlace, .inr ⟨by simp, T_x_InvalidPlace, _, [.none], _, rfl, lT_InvalidPlace, rfl, .cons rfl .nil⟩, .inl rfl⟩, k_x_InvalidPlace⟩
  have BD_InvalidPlace := exc_binds FD_InvalidPlace (fld := "value") fun _ _ _ _ _ _ _ us its hu hi => match us, its, hu, hi with | [_, _], [_], _, _ => ⟨_, rfl, rfl⟩
  have XF_InvalidPlace : ExcF K mg "InvalidPlace" "value" C_InvalidPlace :=
    { g := PySem.W.mg_of X G g_InvalidPlace, T := ⟨⟨_, _, _, _, _, _, _, _, _, _, _, _, _, _, _, xL_InvalidPlace, ve_own⟩, sa_InvalidPlace, eC_InvalidPlace, tC_InvalidPlace, kC_InvalidPlace⟩, no := no_InvalidPlace, xf := ⟨ga_InvalidPlace, gg_InvalidPlace, eC_InvalidPlace, hC_InvalidPlace⟩,
      te := exm_self eC_InvalidPlace iC_InvalidPlace tC_InvalidPlace sC_InvalidPlace, init := ⟨f_x_InvalidPlace, _, _, _, _, _, _, _, _, in_InvalidPlace, ti_InvalidPlace, FD_InvalidPlace, sc_InvalidPlace___init__, BD_InvalidPlace⟩ }
  have FDF : FunD K "__init__" "Form.__init__" (defArgs s_Form___init__) (defBody s_Form___init__) (defScope s_Form___init__) [.str alphaS, .int 1] [] f_Fi _ := ⟨⟨_, _, _, _, _, _, _, _, _, _, rfl, l_Fi, c_Fi, .inr ⟨by simp, T_Fi, _, [.str alphaS t1F, .int 1 t2F], _, rfl, lT_F, rfl, .cons ⟨_, rfl⟩ (.cons ⟨_, rfl⟩ .nil)⟩, .inl rfl⟩, k_Fi⟩
  obtain ⟨d0F, v0F, b0F⟩ := FDF.binds1 (ps := ["self", "letters", "chains"]) 3 2 (by simp) rfl fun _ _ _ _ _ _ _ us its hu hi => match us, its, hu, hi with | [_, _, _], [_, _], _, _ => ⟨_, rfl, rfl⟩
  cases v0F
  obtain ⟨d1F, v1F, b1F⟩ := FDF.binds1 (ps := ["self", "letters", "chains"]) 2 1 (by simp) rfl fun _ _ _ _ _ _ _ us its hu hi => match us, its, hu, hi with | [_, _], [_, _], _, _ => ⟨_, rfl, rfl⟩
  obtain ⟨d2F, v2F, b2F⟩ := FDF.binds1 (ps := ["self", "letters", "chains"]) 1 0 (by simp) rfl fun _ _ _ _ _ _ _ us its hu hi => match us, its, hu, hi with | [_], [_, _], _, _ => ⟨_, rfl, rfl⟩
  have FL := fun_mk (st := s_Form_letters) l_FL c_FL k_FL
  have FCh := fun_mk (st := s_Form_chains) l_FC c_FC k_FC
  have FE := fun_mk (st := s_Form___eq__) l_FE c_FE k_FE
  have FC : FormC K mg CF :=
    { cl := ⟨pg_F, hd_F, po_F, sa_F⟩, g := PySem.W.mg_of X G g_F, makes := mk_F, kp := kc_F, nL := nL_F, nC := nC_F,
      init := ⟨f_Fi, _, d1F, d2F, in_F, if_F, FDF, b0F, v1F, b1F, v2F, b2F⟩,
      pL := ⟨p_FL, f_FL, _, ⟨at_FL, gt_FL, tk_FL, ⟨_, rc_FL⟩⟩, FL, FL.binds (ps := ["self"]) fun _ _ _ _ _ _ us hl => match us, hl with | [_], _ => rfl⟩, pC := ⟨p_FC, f_FC, _, ⟨at_FC, gt_FC, tk_FC, ⟨_, rc_FC⟩⟩, FCh, FCh.binds (ps := ["self"]) fun _ _ _ _ _ _ us hl => match us, hl with | [_], _ => rfl⟩,
      eq := ⟨f_FE, _, eq_F, ie_F, FE, FE.binds (ps := ["self", "other"]) fun _ _ _ _ _ _ us hl => match us, hl with | [_, _], _ => rfl⟩, i1 := i1_F, i2 := i2_F, i3 := i3_F, i4 := i4_F, kY := kit_own, kN := fun _ h => kit_no cC_F tC_F h, nf := fun _ h => nf_kd h, nfS := nf_own }
  have Cl_P : Cls K CPc := ⟨pg_P, hd_P, po_P, sa_P⟩
  have Fn_Pi := fun_mk (st := s_Piece___init__) l_Pi c_Pi k_Pi
  have Bn_Pi := Fn_Pi.binds (ps := ["self", "folder", "form", "mark", "names", "ended"]) fun _ _ _ _ _ _ us hl => match us, hl with | [_, _, _, _, _, _], _ => rfl
  have Cl_A : Cls K CAk := ⟨pg_A, hd_A, po_A, sa_A⟩
  have Fn_Ai := fun_mk (st := s_Ask___init__) l_Ai c_Ai k_Ai
  have Bn_Ai := Fn_Ai.binds (ps := ["self", "answers"]) fun _ _ _ _ _ _ us hl => match us, hl with | [_, _], _ => rfl
  have Fn_As := fun_mk (st := s_Ask_says) l_As c_As k_As
  have Bn_As := Fn_As.binds (ps := ["self", "place"]) fun _ _ _ _ _ _ us hl => match us, hl with | [_, _], _ => rfl
  have Fn_At := fun_mk (st := s_Ask_standing) l_At c_At k_At
  have Bn_At := Fn_At.binds (ps := ["self"]) fun _ _ _ _ _ _ us hl => match us, hl with | [_], _ => rfl
  have Fn_Ac := fun_mk (st := s_Ask___contains__) l_Ac c_Ac k_Ac
  have Bn_Ac := Fn_Ac.binds (ps := ["self", "place"]) fun _ _ _ _ _ _ us hl => match us, hl with | [_, _], _ => rfl
  have Fn_Aq := fun_mk (st := s_Ask___eq__) l_Aq c_Aq k_Aq
  have Bn_Aq := Fn_Aq.binds (ps := ["self", "other"]) fun _ _ _ _ _ _ us hl => match us, hl with | [_, _], _ => rfl
  have F_Ranswers := fun_mk (st := s_Ask_answers) l_Ranswers c_Ranswers k_Ranswers
  have PC : PieceC K mg CPc := ⟨Cl_P, n1_P, n2_P, n3_P, n4_P, n5_P, n6_P, n7_P⟩
  have PG : PieceG K mg CPc := ⟨PySem.W.mg_of X G g_P, mk_P, kc_P, f_Pi, _, at_Pi, fn_Pi, Fn_Pi, Bn_Pi⟩
  have AC : AskC K mg CAk := ⟨Cl_A, n1_A, PySem.W.mg_of X G g_A, mk_A, kc_A, ⟨f_Ai, _, at_Ai, fn_Ai, Fn_Ai, Bn_Ai⟩, i1_A, i2_F, i3_F, i4_A⟩
  have AP : AskP K CAk := ⟨⟨p_Ranswers, f_Ranswers, _, ⟨at_Ranswers, gt_Ranswers, tk_Ranswers, ⟨_, rc_Ranswers⟩⟩, F_Ranswers, F_Ranswers.binds (ps := ["self"]) fun _ _ _ _ _ _ us hl => match us, hl with | [_], _ => rfl⟩, ⟨f_At, _, ⟨at_At, fn_At, k_At⟩, Fn_At, Bn_At⟩, ⟨f_As, _, ⟨at_As, fn_As, k_As⟩, Fn_As, Bn_As⟩⟩
  have AI : AskI K CAk := ⟨f_Ac, _, at_Ac, fn_Ac, Fn_Ac, Bn_Ac⟩
  have L7 : Law7 K mg CAk CPc := ⟨⟨f_Aq, _, at_Aq, fn_Aq, Fn_Aq, Bn_Aq⟩, kit_own, kit_sub ne_PA cC_A tC_A sb_PA, kit_no cC_A tC_A .tup, kit_no cC_A tC_A .lst, nf_own, nf_sub sb_PA, nf_kd .tup, nf_kd .lst, i1_P, i4_P⟩
  have T0 : Txt K mg := ⟨N_isinstance, N_int, N_bool, N_str, N_sorted, V_LETTERS, V_MOST_CHAINS, N_tuple, D_is_whole, D__are_letters, D__are_chains⟩
  have L : TxtL K mg := ⟨N_range, N_sum, D__law_purse, D__law_draw⟩
  have NN : TxtN K mg := ⟨N_len, N_all, V_LONGEST_NAME, D_is_name, D__law_name, D__law_names⟩
  have TS : TxtS K mg := ⟨N_list, D_is_name_list⟩
  have I : TxtI K mg := ⟨D_is_place, D_check_place⟩
  have BW : TxtB K mg := ⟨D__law_world⟩
  have A7 : TxtA7 K mg := ⟨N_dict, D__is_answer, D__are_answers⟩
  have F7 : TxtF7 K mg := ⟨D__law_shuffled, D__law_says⟩
  have G7 : TxtG7 K mg := ⟨D__law_raises⟩
  have I7 : TxtI7 K mg := ⟨D__law_refused⟩
  have J7 : TxtJ7 K mg := ⟨D__law_heard⟩
  have K7 : TxtK7 K mg CAk CLk CPc := ⟨D__law_told, PySem.W.mg_of X G g_K, PySem.W.mg_of X G g_P, kit_sub ne_AK cC_K tC_K sb_AK, kit_sub ne_PA.symm cC_P tC_P sb_AP⟩
  have M7 : TxtM7 K mg := ⟨D__law_bad⟩
  have R7 : TxtR7 K mg := ⟨N_zip, D__rise⟩
  have C7 : TxtC7 K mg := ⟨D__is_piece⟩
  exact ⟨PySem.W.fnOf "law" "law" (defArgs s_law) (defBody s_law) (defScope s_law) .none kV_law dc_law pm_law an_law cd_law ct_law, fun s v => .of_eq rfl, fun base _ _ => ok_law T0 L NN TS I BW A7 F7 G7 I7 J7 K7 M7 R7 C7 FC PC PG AC AP AI L7 XF_InvalidForm XF_InvalidLook XF_InvalidPlace (fun_mk (st := s_law) l_law c_law k_law)⟩
theorem walk {l : PySem.W.OpenLaw} {q : Program} {loose : List Str} {XP : (Str → Option Value) → Heap → Prop} {YP : World → Heap → Prop} {d : DefRec} {K : Params → PySem.W.Frag} (hn : l.most = some 63) (hdf : d.params.defaults = [])
    (hY : ∀ (w : World) (h : Heap), YP w h → (K w.params).In h)
    (F : ∀ (w : World) (mg : Str → Option Value) (fa : Addr) (h : Heap), (K w.params).In h → h.Ns mainGlobals mg → mg d.name = some (.ref fa) →
      ∃ fd : FuncData, (∀ (s : Shared) (u : Value), BindsTo s fd ⟨[u], []⟩ [("_law_script", u)]) ∧ ∀ base : Heap, (K w.params).In base → base.Ns mainGlobals mg → FnOk l.prog w (K w.params) mg base CX0 9 fa fd ["_law_script"] (spLaw (K w.params))) :
    PySem.W.WalkO q loose XP YP l.row.toRowW d [] (fun f vs => PySem.call f vs) :=
  L2.walk_of (n := 63) (k := 9) (x := "_law_script") (CX := fun _ => CX0) (sp := fun w => spLaw (K w.params)) hn (by decide) hdf ⟨rfl, by decide, by decide⟩ hY F (fun _ _ a ns hl _ hS => ⟨a, ns, rfl, hS, hl, fun _ => rfl⟩) fun _ _ _ _ _ z => z
end Bt
open PySem PySem.W PyProof.Rows
set_option maxRecDepth 100000 in
set_option maxHeartbeats 0 in
theorem PySem.Challenge.cw_betweenlists_k07_asks_holds : PySem.Challenge.rw_betweenlists_k07_asks.Holds := by
  w_on; o_law; k_head; (case hw => w_witness2)
  k_fill
  refine Bt.walk (l := PySem.Challenge.rw_betweenlists_k07_asks) rfl rfl (fun w h Y => PySem.W.kIn_of Y) ?F
  case F =>
    intro w mg fa h KX G hmg
    refine' Bt.all_mk KX G hmg ?z_isinstance ?z_int ?z_bool ?z_str ?z_sorted ?z_tuple ?z_range ?z_sum ?z_len ?z_all ?z_list ?z_zip ?z_dict ?v_LETTERS ?v_MOST_CHAINS ?v_LONGEST_NAME ?a_is_whole ?l_is_whole ?c_is_whole ?k_is_whole ?a_is_name ?l_is_name ?c_is_name ?k_is_name ?a_is_place ?l_is_place ?c_is_place ?k_is_place ?a_is_name_list ?l_is_name_list ?c_is_name_list ?k_is_name_list ?a_check_place ?l_check_place ?c_check_place ?k_check_place ?a__are_letters ?l__are_letters ?c__are_letters ?k__are_letters ?a__are_chains ?l__are_chains ?c__are_chains ?k__are_chains ?a__rise ?l__rise ?c__rise ?k__rise ?a__is_piece ?l__is_piece ?c__is_piece ?k__is_piece ?a__is_answer ?l__is_answer ?c__is_answer ?k__is_answer ?a__are_answers ?l__are_answers ?c__are_answers ?k__are_answers ?a__law_purse ?l__law_purse ?c__law_purse ?k__law_purse ?a__law_draw ?l__law_draw ?c__law_draw ?k__law_draw ?a__law_name ?l__law_name ?c__law_name ?k__law_name ?a__law_names ?l__law_names ?c__law_names ?k__law_names ?a__law_world ?l__law_world ?c__law_world ?k__law_world ?a__law_says ?l__law_says ?c__law_says ?k__law_says ?a__law_refused ?l__law_refused ?c__law_refused ?k__law_refused ?a__law_raises ?l__law_raises ?c__law_raises ?k__law_raises ?a__law_shuffled ?l__law_shuffled ?c__law_shuffled ?k__law_shuffled ?a__law_bad ?l__law_bad ?c__law_bad ?k__law_bad ?a__law_told ?l__law_told ?c__law_told ?k__law_told ?a__law_heard ?l__law_heard ?c__law_heard ?k__law_heard ?a_law ?l_law ?c_law ?k_law ?g_InvalidForm ?xL_InvalidForm ?sa_InvalidForm ?ga_InvalidForm ?gg_InvalidForm ?no_InvalidForm ?in_InvalidForm ?ti_InvalidForm ?l_x_InvalidForm ?c_x_InvalidForm ?k_x_InvalidForm ?lT_InvalidForm ?kC_InvalidForm ?eC_InvalidForm ?tC_InvalidForm ?hC_InvalidForm ?iC_InvalidForm ?sC_InvalidForm ?g_InvalidLook ?xL_InvalidLook ?sa_InvalidLook ?ga_InvalidLook ?gg_InvalidLook ?no_InvalidLook ?in_InvalidLook ?ti_InvalidLook ?l_x_InvalidLook ?c_x_InvalidLook ?k_x_InvalidLook ?lT_InvalidLook ?kC_InvalidLook ?eC_InvalidLook ?tC_InvalidLook ?hC_InvalidLook ?iC_InvalidLook ?sC_InvalidLook ?g_InvalidPlace ?xL_InvalidPlace ?sa_InvalidPlace ?ga_InvalidPlace ?gg_InvalidPlace ?no_InvalidPlace ?in_InvalidPlace ?ti_InvalidPlace ?l_x_InvalidPlace ?c_x_InvalidPlace ?k_x_InvalidPlace ?lT_InvalidPlace ?kC_InvalidPlace ?eC_InvalidPlace ?tC_InvalidPlace ?hC_InvalidPlace ?iC_InvalidPlace ?sC_InvalidPlace ?g_F ?pg_F ?hd_F ?po_F ?sa_F ?mk_F ?kc_F ?nL_F ?nC_F ?in_F ?if_F ?l_Fi ?c_Fi ?k_Fi ?lT_F ?at_FL ?gt_FL ?tk_FL ?rc_FL ?l_FL ?c_FL ?k_FL ?at_FC ?gt_FC ?tk_FC ?rc_FC ?l_FC ?c_FC ?k_FC ?eq_F ?ie_F ?l_FE ?c_FE ?k_FE ?i1_F ?i2_F ?i3_F ?i4_F ?cC_F ?tC_F ?g_P ?pg_P ?hd_P ?po_P ?sa_P ?mk_P ?kc_P ?n1_P ?n2_P ?n3_P ?n4_P ?n5_P ?n6_P ?n7_P ?at_Pi ?fn_Pi ?l_Pi ?c_Pi ?k_Pi ?i1_P ?i4_P ?cC_P ?tC_P ?g_A ?pg_A ?hd_A ?po_A ?sa_A ?mk_A ?kc_A ?n1_A ?at_Ai ?fn_Ai ?l_Ai ?c_Ai ?k_Ai ?at_As ?fn_As ?l_As ?c_As ?k_As ?at_At ?fn_At ?l_At ?c_At ?k_At ?at_Ac ?fn_Ac ?l_Ac ?c_Ac ?k_Ac ?at_Aq ?fn_Aq ?l_Aq ?c_Aq ?k_Aq ?i1_A ?i4_A ?cC_A ?tC_A ?at_Ranswers ?gt_Ranswers ?tk_Ranswers ?rc_Ranswers ?l_Ranswers ?c_Ranswers ?k_Ranswers ?g_K ?cC_K ?tC_K ?sb_AK ?sb_PA ?sb_AP ?ne_AK ?ne_PA
    (case z_isinstance => k_is); (case z_int => k_is); (case z_bool => k_is); (case z_str => k_is); (case z_sorted => k_is); (case z_tuple => k_is)
    (case z_range => k_is); (case z_sum => k_is); (case z_len => k_is); (case z_all => k_is); (case z_list => k_is); (case z_zip => k_is)
    (case z_dict => k_is); (case v_LETTERS => k_is); (case v_MOST_CHAINS => k_is); (case v_LONGEST_NAME => k_is); (case a_is_whole => k_is); (case l_is_whole => k_is)
    (case c_is_whole => k_is); (case k_is_whole => k_is); (case a_is_name => k_is); (case l_is_name => k_is); (case c_is_name => k_is); (case k_is_name => k_is)
    (case a_is_place => k_is); (case l_is_place => k_is); (case c_is_place => k_is); (case k_is_place => k_is); (case a_is_name_list => k_is); (case l_is_name_list => k_is)
    (case c_is_name_list => k_is); (case k_is_name_list => k_is); (case a_check_place => k_is); (case l_check_place => k_is); (case c_check_place => k_is); (case k_check_place => k_is)
    (case a__are_letters => k_is); (case l__are_letters => k_is); (case c__are_letters => k_is); (case k__are_letters => k_is); (case a__are_chains => k_is); (case l__are_chains => k_is)
    (case c__are_chains => k_is); (case k__are_chains => k_is); (case a__rise => k_is); (case l__rise => k_is); (case c__rise => k_is); (case k__rise => k_is)
    (case a__is_piece => k_is); (case l__is_piece => k_is); (case c__is_piece => k_is); (case k__is_piece => k_is); (case a__is_answer => k_is); (case l__is_answer => k_is)
    (case c__is_answer => k_is); (case k__is_answer => k_is); (case a__are_answers => k_is); (case l__are_answers => k_is); (case c__are_answers => k_is); (case k__are_answers => k_is)
    (case a__law_purse => k_is); (case l__law_purse => k_is); (case c__law_purse => k_is); (case k__law_purse => k_is); (case a__law_draw => k_is); (case l__law_draw => k_is)
    (case c__law_draw => k_is); (case k__law_draw => k_is); (case a__law_name => k_is); (case l__law_name => k_is); (case c__law_name => k_is); (case k__law_name => k_is)
    (case a__law_names => k_is); (case l__law_names => k_is); (case c__law_names => k_is); (case k__law_names => k_is); (case a__law_world => k_is); (case l__law_world => k_is)
    (case c__law_world => k_is); (case k__law_world => k_is); (case a__law_says => k_is); (case l__law_says => k_is); (case c__law_says => k_is); (case k__law_says => k_is)
    (case a__law_refused => k_is); (case l__law_refused => k_is); (case c__law_refused => k_is); (case k__law_refused => k_is); (case a__law_raises => k_is); (case l__law_raises => k_is)
    (case c__law_raises => k_is); (case k__law_raises => k_is); (case a__law_shuffled => k_is); (case l__law_shuffled => k_is); (case c__law_shuffled => k_is); (case k__law_shuffled => k_is)
    (case a__law_bad => k_is); (case l__law_bad => k_is); (case c__law_bad => k_is); (case k__law_bad => k_is); (case a__law_told => k_is); (case l__law_told => k_is)
    (case c__law_told => k_is); (case k__law_told => k_is); (case a__law_heard => k_is); (case l__law_heard => k_is); (case c__law_heard => k_is); (case k__law_heard => k_is)
    (case a_law => k_is); (case l_law => k_is); (case c_law => k_is); (case k_law => k_is); (case g_InvalidForm => k_is); (case xL_InvalidForm => k_is)
    (case sa_InvalidForm => k_is); (case ga_InvalidForm => k_is); (case gg_InvalidForm => k_is); (case no_InvalidForm => k_is); (case in_InvalidForm => k_is); (case ti_InvalidForm => k_is)
    (case l_x_InvalidForm => k_is); (case c_x_InvalidForm => k_is); (case k_x_InvalidForm => k_is); (case lT_InvalidForm => k_is); (case kC_InvalidForm => k_is); (case eC_InvalidForm => k_is)
    (case tC_InvalidForm => k_is); (case hC_InvalidForm => k_is); (case iC_InvalidForm => k_is); (case sC_InvalidForm => first | rfl | k_is); (case g_InvalidLook => k_is); (case xL_InvalidLook => k_is)
    (case sa_InvalidLook => k_is); (case ga_InvalidLook => k_is); (case gg_InvalidLook => k_is); (case no_InvalidLook => k_is); (case in_InvalidLook => k_is); (case ti_InvalidLook => k_is)
    (case l_x_InvalidLook => k_is); (case c_x_InvalidLook => k_is); (case k_x_InvalidLook => k_is); (case lT_InvalidLook => k_is); (case kC_InvalidLook => k_is); (case eC_InvalidLook => k_is)
    (case tC_InvalidLook => k_is); (case hC_InvalidLook => k_is); (case iC_InvalidLook => k_is); (case sC_InvalidLook => first | rfl | k_is); (case g_InvalidPlace => k_is); (case xL_InvalidPlace => k_is)
    (case sa_InvalidPlace => k_is); (case ga_InvalidPlace => k_is); (case gg_InvalidPlace => k_is); (case no_InvalidPlace => k_is); (case in_InvalidPlace => k_is); (case ti_InvalidPlace => k_is)
    (case l_x_InvalidPlace => k_is); (case c_x_InvalidPlace => k_is); (case k_x_InvalidPlace => k_is); (case lT_InvalidPlace => k_is); (case kC_InvalidPlace => k_is); (case eC_InvalidPlace => k_is)
    (case tC_InvalidPlace => k_is); (case hC_InvalidPlace => k_is); (case iC_InvalidPlace => k_is); (case sC_InvalidPlace => first | rfl | k_is); (case g_F => k_is); (case pg_F => k_is)
    (case hd_F => k_is); (case po_F => k_is); (case sa_F => k_is); (case mk_F => k_is); (case kc_F => k_is); (case nL_F => k_is)
    (case nC_F => k_is); (case in_F => k_is); (case if_F => k_is); (case l_Fi => k_is); (case c_Fi => k_is); (case k_Fi => k_is)
    (case lT_F => k_is); (case at_FL => k_is); (case gt_FL => k_is); (case tk_FL => k_is); (case rc_FL => k_is); (case l_FL => k_is)
    (case c_FL => k_is); (case k_FL => k_is); (case at_FC => k_is); (case gt_FC => k_is); (case tk_FC => k_is); (case rc_FC => k_is)
    (case l_FC => k_is); (case c_FC => k_is); (case k_FC => k_is); (case eq_F => k_is); (case ie_F => k_is); (case l_FE => k_is)
    (case c_FE => k_is); (case k_FE => k_is); (case i1_F => k_is); (case i2_F => k_is); (case i3_F => k_is); (case i4_F => k_is)
    (case cC_F => k_is); (case tC_F => k_is); (case g_P => k_is); (case pg_P => k_is); (case hd_P => k_is); (case po_P => k_is)
    (case sa_P => k_is); (case mk_P => k_is); (case kc_P => k_is); (case n1_P => k_is); (case n2_P => k_is); (case n3_P => k_is)
    (case n4_P => k_is); (case n5_P => k_is); (case n6_P => k_is); (case n7_P => k_is); (case at_Pi => k_is); (case fn_Pi => k_is)
    (case l_Pi => k_is); (case c_Pi => k_is); (case k_Pi => k_is); (case i1_P => k_is); (case i4_P => k_is); (case cC_P => k_is)
    (case tC_P => k_is); (case g_A => k_is); (case pg_A => k_is); (case hd_A => k_is); (case po_A => k_is); (case sa_A => k_is)
    (case mk_A => k_is); (case kc_A => k_is); (case n1_A => k_is); (case at_Ai => k_is); (case fn_Ai => k_is); (case l_Ai => k_is)
    (case c_Ai => k_is); (case k_Ai => k_is); (case at_As => k_is); (case fn_As => k_is); (case l_As => k_is); (case c_As => k_is)
    (case k_As => k_is); (case at_At => k_is); (case fn_At => k_is); (case l_At => k_is); (case c_At => k_is); (case k_At => k_is)
    (case at_Ac => k_is); (case fn_Ac => k_is); (case l_Ac => k_is); (case c_Ac => k_is); (case k_Ac => k_is); (case at_Aq => k_is)
    (case fn_Aq => k_is); (case l_Aq => k_is); (case c_Aq => k_is); (case k_Aq => k_is); (case i1_A => k_is); (case i4_A => k_is)
    (case cC_A => k_is); (case tC_A => k_is); (case at_Ranswers => k_is); (case gt_Ranswers => k_is); (case tk_Ranswers => k_is); (case rc_Ranswers => k_is)
    (case l_Ranswers => k_is); (case c_Ranswers => k_is); (case k_Ranswers => k_is); (case g_K => k_is); (case cC_K => k_is); (case tC_K => k_is)
    (case sb_AK => k_is); (case sb_PA => k_is); (case sb_AP => k_is); (case ne_AK => decide); (case ne_PA => decide)
