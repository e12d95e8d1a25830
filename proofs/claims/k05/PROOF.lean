import PyProof.Rows.All
import Wide.All
import OpenK.AllK
import Wide.FinOn
import HandS.ForMost
import HandS.Exc
import HandS.TryOnly
import HandS.ExcOwn
import HandS.WordsExc
import HandS.IsInst
import HandS.Wide
import HandS.Style
import PyProof.CollectStr
import PyProof.Rows.RuleB_pow
import HandS.Codes
import HandS.ExcInit
import HandS.ExcField
import HandS.Property
import HandS.Defaults
import PyProof.TupleOfStr
import PySem.Challenge.RW_betweenlists_k05_pieces_made
import HandS.Text
import HandS.Replace
import HandS.Star
import HandS.CallSlots
import HandS.Nested
import HandS.FromBytesMap
import KE.SortKeyHeap
import HandS.ExcValue
import KE.LtData
import KE.SortData
import HandS.Walk
import PyProof.Rows.StrLawsPart
import KE.DataCmp
import OpenK.KMeth
import KE.KOpsOwn
import HandS.TupMul
import HandS.TryMany
import PyProof.NeKinds
import HandS.DictComp
import HandS.OwnEq
import HandS.SetBool
import HandS.Rev
import HandS.EndTab
import HandS.ExcIs
import KE.KNestM
set_option Elab.async false
set_option linter.all false
set_option maxRecDepth 100000
set_option maxHeartbeats 4000000
namespace Bt
open PySem PySem.Spec PyProof.Rows L2
/-! ### heaps that grow, or that change at one place -/
/-- all but what stands at p is as it was -/
def But (p : Addr) (H H' : Hp) : Prop := ∀ b o, b ≠ p → H b = some o → H' b = some o
theorem But.refl {p : Addr} {H : Hp} : But p H H := fun _ _ _ h => h
theorem But.trans {p : Addr} {H H1 H2 : Hp} (a : But p H H1) (b : But p H1 H2) : But p H H2 := fun c o n h => b c o n (a c o n h)
theorem But.of {p : Addr} {H H' : Hp} (a : Same H H') : But p H H' := fun c o _ h => a c o h
theorem But.upd {p : Addr} {H : Hp} {o : HO} : But p H (upd H p o) := fun b u n h => by rw [upd_ne n]; exact h
theorem Same.new {H : Hp} {p : Addr} {o : HO} (h : H p = none) : Same H (upd H p o) := fun a u e => by
  rw [upd_ne (ne_of_none e h)]; exact e
theorem But.new {q p : Addr} {H : Hp} {o : HO} (h : H p = none) : But q H (L2.upd H p o) := But.of (Same.new h)
theorem But.free {p : Addr} {H H' : Hp} (e : But p H H') {l : Addr} (n : l ≠ p) (h : H' l = none) : H l = none := by
  cases q : H l with
  | none => rfl
  | some o =>
    rw [e l o n q] at h
    cases h
theorem sz {n : Nat} (h : n ≤ 100000) : n ≤ sizeLine := Nat.le_trans h (by decide)
theorem szlt {n : Nat} (h : n < 100000) : n < sizeLine := Nat.lt_of_lt_of_le h (by decide)

/-! ### operators, of several kinds at once -/
section
variable {X : Cx}
def rAddStr : R2 := fun x y H Q => ∃ i j, x = .str i ∧ y = .str j ∧ i.length + j.length ≤ sizeLine ∧ Q (.str (i ++ j)) H
def rAddU : R2 := fun x y H Q => rI0 (fun i j => .int (i + j)) x y H Q ∨ (rAddStr x y H Q ∨ rCat x y H Q)
theorem op_addU : OpR X (binaryOp .Add) rAddU := OpR.or op_add (OpR.or op_add_str op_cat)
def rSub : R2 := rI0 fun i j => .int (i - j)
theorem op_subU : OpR X (binaryOp .Sub) rSub := op_sub
def rMod : R2 := rI (fun _ j => 0 < j) fun i j => .int (i % j)
theorem op_modU : OpR X (binaryOp .Mod) rMod := op_mod
def rFdiv : R2 := rI CDiv fun i j => .int (i / j)
theorem op_fdivU : OpR X (binaryOp .FloorDiv) rFdiv := op_fdiv
def rMulI : R2 := rI CMul fun i j => .int (i * j)
def rMulU : R2 := fun x y H Q => rMulI x y H Q ∨ (rI CMulW (fun i j => .int (i * j)) x y H Q ∨ rRep x y H Q)
theorem op_mulU : OpR X (binaryOp .Mult) rMulU := OpR.or op_mul (OpR.or op_mulW op_rep)
def rLtI : R2 := rI0 fun i j => .bl (decide (i < j))
def rLeI : R2 := rI0 fun i j => .bl (decide (i ≤ j))
def rGtI : R2 := rI0 fun i j => .bl (decide (j < i))
def rGeI : R2 := rI0 fun i j => .bl (decide (j ≤ i))
theorem op_ltI : OpR X (compareOp .Lt) rLtI := op_lt
theorem op_leI : OpR X (compareOp .LtE) rLeI := op_le
theorem op_gtI : OpR X (compareOp .Gt) rGtI := op_gt
theorem op_geI : OpR X (compareOp .GtE) rGeI := op_ge
def rEqU (K : PySem.W.Frag) : R2 := fun x y H Q => rEq x y H Q ∨ rEqD K x y H Q
theorem op_eqU (hu : X.A.units + 64 < cLine) : OpR X (compareOp .Eq) (rEqU X.K) := OpR.or op_eq (op_eqD hu)
def rNeU (K : PySem.W.Frag) : R2 := fun x y H Q => rNe x y H Q ∨ rNeD K x y H Q
theorem op_neU (hu : X.A.units + 64 < cLine) : OpR X (compareOp .NotEq) (rNeU X.K) := OpR.or op_ne (op_neD hu)
end
section
variable {H : Hp} {Q : VK} {i j : Int} {x y : V} {σ : L2.St} {K : PySem.W.Frag}
theorem q_var {n : Nat} {v : V} (h : σ[n]? = some (some v)) (q : Q v H) : tVar n σ H Q := ⟨v, h, q⟩
theorem q_add (q : Q (.int (i + j)) H) : rAddU (.int i) (.int j) H Q := .inl ⟨i, j, rfl, rfl, q⟩
theorem q_addS {a b : Str} (h : a.length + b.length ≤ sizeLine) (q : Q (.str (a ++ b)) H) : rAddU (.str a) (.str b) H Q := .inr (.inl ⟨a, b, rfl, rfl, h, q⟩)
theorem q_cat {l b : Addr} {xs zs : List V} (hl : H l = some (.lst xs)) (hb : H b = some (.lst zs)) (hz : xs.length + zs.length ≤ sizeLine) (q : ∀ p H', H p = none → Same H H' → H' p = some (.lst (xs ++ zs)) → Q (.ref p) H') : rAddU (.ref l) (.ref b) H Q :=
  .inr (.inr ⟨l, b, xs, zs, rfl, rfl, hl, hb, hz, fun p n => q p _ n (Same.new n) upd_same⟩)
theorem q_sub (q : Q (.int (i - j)) H) : rSub (.int i) (.int j) H Q := ⟨i, j, rfl, rfl, q⟩
theorem q_mod (h : 0 < j) (q : Q (.int (i % j)) H) : rMod (.int i) (.int j) H Q := ⟨i, j, rfl, rfl, h, q⟩
theorem q_fdiv (h : 0 < j) (h2 : j < 1073741824) (q : Q (.int (i / j)) H) : rFdiv (.int i) (.int j) H Q := ⟨i, j, rfl, rfl, ⟨h, h2⟩, q⟩
theorem q_mulL (h : -(2 ^ 64) < i ∧ i < 2 ^ 64) (q : Q (.int (i * j)) H) : rMulU (.int i) (.int j) H Q := .inl ⟨i, j, rfl, rfl, .inl h, q⟩
theorem q_mulR (h : -(2 ^ 64) < j ∧ j < 2 ^ 64) (q : Q (.int (i * j)) H) : rMulU (.int i) (.int j) H Q := .inl ⟨i, j, rfl, rfl, .inr h, q⟩
theorem q_lt (q : Q (.bl (decide (i < j))) H) : rLtI (.int i) (.int j) H Q := ⟨i, j, rfl, rfl, q⟩
theorem q_le (q : Q (.bl (decide (i ≤ j))) H) : rLeI (.int i) (.int j) H Q := ⟨i, j, rfl, rfl, q⟩
theorem q_gt (q : Q (.bl (decide (j < i))) H) : rGtI (.int i) (.int j) H Q := ⟨i, j, rfl, rfl, q⟩
theorem q_ge (q : Q (.bl (decide (j ≤ i))) H) : rGeI (.int i) (.int j) H Q := ⟨i, j, rfl, rfl, q⟩
theorem q_eq (h : scal x y = true) (q : Q (.bl (decide (x = y))) H) : rEqU K x y H Q := .inl ⟨h, q⟩
theorem q_ne (h : scal x y = true) (q : Q (.bl (!decide (x = y))) H) : rNeU K x y H Q := .inl ⟨h, q⟩
theorem q_eqD {d e : PyData} (hd : Dp K H x d) (he : Dp K H y e) (sd : SeqAt.shaped d = true) (se : SeqAt.shaped e = true) (q : Q (.bl (PyData.eqv d e)) H) : rEqU K x y H Q := .inr ⟨d, e, hd, he, sd, se, q⟩
theorem q_neD {d e : PyData} (hd : Dp K H x d) (he : Dp K H y e) (sd : SeqAt.shaped d = true) (se : SeqAt.shaped e = true) (q : Q (.bl (!PyData.eqv d e)) H) : rNeU K x y H Q := .inr ⟨d, e, hd, he, sd, se, q⟩
theorem q_ixL {p : Addr} {xs : List V} {v : V} (h : SqL K H p xs) (ha : atI xs i = some v) (q : Q v H) : rIx K (.ref p) (.int i) H Q := .inl ⟨p, xs, i, v, rfl, rfl, h, ha, q⟩
theorem q_ixT {p : Addr} {xs : List V} {v : V} (h : SqT K H p xs) (ha : atI xs i = some v) (q : Q v H) : rIx K (.ref p) (.int i) H Q := .inr (.inl ⟨p, xs, i, v, rfl, rfl, h, ha, q⟩)
theorem q_ixS {z : Str} {c : Nat} (hz : z.length ≤ sizeLine) (ha : atI z.cps.toList i = some c) (q : Q (.str ⟨#[c]⟩) H) : rIx K (.str z) (.int i) H Q := .inr (.inr ⟨z, i, c, rfl, rfl, hz, ha, q⟩)
theorem q_test {b : Bool} {R : Bool → Prop} (q : R b) : ∃ k, V.bl b = .bl k ∧ R k := ⟨b, rfl, q⟩
end

/-- a display's new object -/
def rNewT (Q : VK) (xs : List V) (H : Hp) : Prop := xs.length ≤ sizeLine ∧ ∀ p, H p = none → Q (.ref p) (upd H p (.tup xs))
def rNewL (Q : VK) (xs : List V) (H : Hp) : Prop := xs.length ≤ sizeLine ∧ ∀ p, H p = none → Q (.ref p) (upd H p (.lst xs))
/-! ### steps: one lemma a word -/
section
variable {σ : L2.St} {H : Hp} {Q : VK} {R : Bool → Hp → Prop} {D : Ends} {ta tb tc te to : TE} {t u : TS} {c d : TT} {ts tr : TA} {r r' : R2} {g : TG} {K : PySem.W.Frag} {v : V} {n i : Nat}
theorem s_seq (h : t { D with nx := u D } σ H) : tSeq t u D σ H := h
theorem s_next (h : D.nx σ H) : tNext D σ H := h
theorem s_drop (h : te σ H fun _ H1 => D.nx σ H1) : tDrop te D σ H := h
theorem s_ret (h : te σ H D.rt) : tRet te D σ H := h
theorem s_retN (h : D.rt .non H) : tRetN D σ H := h
theorem s_ifS (h : c σ H fun b H1 => if b = true then t D σ H1 else u D σ H1) : tIfS c t u D σ H := h
theorem s_asg (h : te σ H fun x H1 => g x σ H1 D.nx) : tAsg te g D σ H := h
theorem s_gname {N : L2.St → Hp → Prop} (h : N (σ.set i (some v)) H) : gName i v σ H N := h
theorem s_var (h : σ[i]? = some (some v)) (q : Q v H) : tVar i σ H Q := ⟨v, h, q⟩
theorem s_c (q : Q v H) : tC v σ H Q := q
theorem s_op (h : ta σ H fun x H1 => tb σ H1 fun y H2 => r x y H2 Q) : tOp r ta tb σ H Q := h
theorem s_test (h : te σ H fun x H' => ∃ k, x = .bl k ∧ R k H') : tTest te σ H R := h
theorem s_B (h : te σ H fun x H' => ∃ k, x = .bl k ∧ R k H') : tB te σ H R := h
theorem s_andT (h : c σ H fun b H1 => if b = true then d σ H1 R else R false H1) : tAnd c d σ H R := h
theorem s_orT (h : c σ H fun b H1 => if b = true then R true H1 else d σ H1 R) : tOr c d σ H R := h
theorem s_notT (h : c σ H fun b H1 => R (!b) H1) : tNot c σ H R := h
theorem s_andV (h : ta σ H fun x H1 => ∃ c, x = .bl c ∧ if c = true then tb σ H1 Q else Q (.bl false) H1) : tAndV ta tb σ H Q := h
theorem s_orV (h : ta σ H fun x H1 => ∃ c, x = .bl c ∧ if c = true then Q (.bl true) H1 else tb σ H1 Q) : tOrV ta tb σ H Q := h
theorem s_notV (h : ta σ H fun x H1 => ∃ c, x = .bl c ∧ Q (.bl (!c)) H1) : tNotV ta σ H Q := h
theorem s_ifV (h : c σ H fun b H1 => if b = true then ta σ H1 Q else tb σ H1 Q) : tIf c ta tb σ H Q := h
theorem s_chain (h : ta σ H fun x H1 => tb σ H1 fun y H2 => r x y H2 fun z H3 => ∃ k, z = .bl k ∧ (if k = true then tc σ H3 fun w' H4 => r' y w' H4 Q else Q (.bl false) H3)) : tChain r r' ta tb tc σ H Q := h
theorem s_nil {R : List V → Hp → Prop} (q : R [] H) : tNil σ H R := q
theorem s_cons {R : List V → Hp → Prop} (h : te σ H fun x H1 => ts σ H1 fun xs H2 => R (x :: xs) H2) : tCons te ts σ H R := h
/-- a display: the new object by what is known of it -/
theorem s_tup (h : ts σ H fun xs H1 => rNewT Q xs H1) : tTup ts σ H Q := h
theorem s_lst (h : ts σ H fun xs H1 => rNewL Q xs H1) : tLst ts σ H Q := h
theorem q_newT {xs : List V} (hl : xs.length ≤ sizeLine) (q : ∀ p H', H p = none → Same H H' → H' p = some (.tup xs) → Q (.ref p) H') : rNewT Q xs H := ⟨hl, fun p n => q p _ n (Same.new n) upd_same⟩
theorem q_newL {xs : List V} (hl : xs.length ≤ sizeLine) (q : ∀ p H', H p = none → Same H H' → H' p = some (.lst xs) → Q (.ref p) H') : rNewL Q xs H := ⟨hl, fun p n => q p _ n (Same.new n) upd_same⟩
theorem new_by {o : HO} {R : Addr → Hp → Prop} (h : ∀ p H', H p = none → Same H H' → H' p = some o → R p H') : ∀ p, H p = none → R p (upd H p o) := fun p n => h p _ n (Same.new n) upd_same
theorem s_call {sp : Sp} {dvs : List V} {E : XK} (h : ts σ H fun vs H1 => sp (vs ++ dvs) H1 Q E) : tCall sp dvs E ts σ H Q := h
theorem s_CB {f : List V → Hp → VK → Prop} (h : ts σ H fun vs H1 => f vs H1 Q) : tCB f ts σ H Q := h
theorem s_BM {T : String} {f : V → List V → Hp → VK → Prop} (h : to σ H fun x H1 => tyV K T x H1 ∧ ts σ H1 fun xs H2 => f x xs H2 Q) : tBM K T f to ts σ H Q := h
theorem s_sl {f : V → Option Int → Option Int → Hp → VK → Prop} {tl th : TO} (h : te σ H fun x H1 => tl σ H1 fun l H2 => th σ H2 fun u H3 => f x l u H3 Q) : tSl f te tl th σ H Q := h
theorem s_noPart {R : Option Int → Hp → Prop} (q : R none H) : tNoPart σ H R := q
theorem s_part {R : Option Int → Hp → Prop} (h : te σ H fun x H1 => ∃ i, x = .int i ∧ R (some i) H1) : tPart te σ H R := h
theorem s_gsub {f : TSet} {N : L2.St → Hp → Prop} (h : to σ H fun o H1 => te σ H1 fun i H2 => f o i v H2 fun H3 => N σ H3) : gSub to te f v σ H N := h
theorem s_int {j : Int} {R : Int → Prop} (q : R j) : ∃ i, V.int j = .int i ∧ R i := ⟨j, rfl, q⟩
theorem s_ifT {A B : Prop} (h : A) : if true = true then A else B := by rw [if_pos rfl]; exact h
theorem s_ifF {A B : Prop} (h : B) : if false = true then A else B := by rw [if_neg Bool.false_ne_true]; exact h
theorem s_if {k : Bool} {A B : Prop} (h : k = true → A) (h' : k = false → B) : if k = true then A else B := by
  cases k with
  | true => exact s_ifT (h rfl)
  | false => exact s_ifF (h' rfl)
theorem q_setL {p : Addr} {xs : List V} {k : Int} {j : Nat} {R : Hp → Prop} (h : H p = some (.lst xs)) (hj : ixN xs.length k = some j) (q : R (upd H p (.lst (xs.set j v)))) : rSetL (.ref p) (.int k) v H R := ⟨p, xs, k, j, rfl, rfl, h, hj, q⟩
theorem s_if1 {k : Bool} {A B : Prop} (e : k = true) (h : A) : if k = true then A else B := by subst e; exact s_ifT h
theorem s_if0 {k : Bool} {A B : Prop} (e : k = false) (h : B) : if k = true then A else B := by subst e; exact s_ifF h
theorem s_ifD {p : Prop} {inst : Decidable p} {A B : Prop} (h : p → A) (h' : ¬ p → B) : if @decide p inst = true then A else B := by
  by_cases z : p
  · rw [decide_eq_true z]; exact s_ifT (h z)
  · rw [decide_eq_false z]; exact s_ifF (h' z)
end
end Bt
namespace Bt
open PySem PySem.Spec PyProof.Rows L2
section
variable {X : Cx}
/-! ### a power of any base -/
def CPowW (i j : Int) : Prop := 0 ≤ j ∧ (Builtin.Int.intBits i : Int) * j ≤ 2 ^ 27
theorem op_powW : OpR X (binaryOp .Pow) (rI CPowW fun i j => .int (i ^ j.toNat)) := opI fun _ _ _ _ _ _ _ hc q => pow_int hc.1 hc.2 q
/-! ### text[::-1] -/
def revT (z : Str) : Str := ⟨((Builtin.Str.strSliceIndices none none (-1) z.length).filterMap (z.cps[·]?)).toArray⟩
def tRevS (te : TE) : TE := fun σ H Q => te σ H fun x H1 => ∃ z, x = .str z ∧ (revT z).length ≤ sizeLine ∧ Q (.str (revT z)) H1
theorem pe_revS {e : Expr} {te : TE} {k : Nat} {p1 p2 p3 pos : Pos} (he : PE X e te) : PE X (.Subscript e (.Slice none none (some (.UnaryOp .USub (.Constant (.int 1) k p1) p2)) p3) pos) (tRevS te) := by
  refine ⟨fun pins s σ H Q I h => ?_⟩
  refine Subscript_ (thn (he.run pins s σ H _ I h) fun v s1 ⟨x, H1, I1, r1, q1⟩ => ?_)
  obtain ⟨z, ex, hz, q⟩ := q1
  subst ex
  obtain ⟨t, rfl⟩ := r1
  have hst : PO X (some (.UnaryOp .USub (.Constant (.int 1) k p1) p2)) (tPart (tUn (rU fun i => .int (-i)) (tC (.int 1)))) := po_some (pe_un un_neg pe_int)
  refine wpAny_Slice (thn (po_none.run pins s1 σ H1 (fun o H2 => o = none ∧ H2 = H1) I1 ⟨rfl, rfl⟩) fun vl s2 ⟨l, H2, I2, pl, el, e2⟩ => ?_)
  subst el e2
  refine thn (po_none.run pins s2 σ H2 (fun o H3 => o = none ∧ H3 = H2) I2 ⟨rfl, rfl⟩) fun vu s3 ⟨u, H3, I3, pu, eu, e3⟩ => ?_
  subst eu e3
  refine thn (hst.run pins s3 σ H3 (fun o H4 => o = some (-1) ∧ H4 = H3) I3 ⟨1, rfl, -1, rfl, rfl, rfl⟩) fun vs s4 ⟨o, H4, I4, ps, eo, e4⟩ => ?_
  subst eo e4
  have I5 : Inv X pins σ H4 { s4 with heap := s4.heap.push { cls := .type "slice", data := .fields #[vl, vu, vs] } } := I4.kept (t' := s4.toks) fun b ob q => Heap.get?_push_of_some _ q
  obtain ⟨l, rfl, el⟩ := IsPart.raw pl
  obtain ⟨u, rfl, eu⟩ := IsPart.raw pu
  obtain ⟨st, rfl, es⟩ := IsPart.raw ps
  show wpAny (model X.prog X.w) X.A (subscriptTail e (.Slice none none (some (.UnaryOp .USub (.Constant (.int 1) k p1) p2)) p3) (.str z t) (.ref s4.heap.objs.size)) (EP X pins σ Q) X.xe { s4 with heap := s4.heap.push { cls := .type "slice", data := .fields #[partValue l, partValue u, partValue st] } }
  have e1 : ((st.map (·.1)).getD 1) = -1 := by rw [es]; rfl
  refine tail_any (ops := [.ref s4.heap.objs.size, .str z t]) (typeIs_str _ _ _) (F.slot_str_getitem.lookup) ?_ (by with_unfolding_all rfl)
  refine wpAny_getItem_str_slice (l := l) (u := u) (st := st) (Heap.IsSliceOf.new _ _ _ _) (by rw [e1]; rfl) ?_
  show Made.post (if ((((st.map (·.1)).getD 1) == 1 && (Builtin.Str.strSliceIndices (l.map (·.1)) (u.map (·.1)) ((st.map (·.1)).getD 1) z.length).length == z.length) = true) then Made.val (.str z t)
    else Made.str ⟨((Builtin.Str.strSliceIndices (l.map (·.1)) (u.map (·.1)) ((st.map (·.1)).getD 1) z.length).filterMap (z.cps[·]?)).toArray⟩) (EP X pins σ Q) _
  rw [e1, el, eu, if_neg (by simp)]
  exact ⟨hz, .str _, H4, I5.tok _, ⟨_, rfl⟩, q⟩
end
/-! ### sorted(text) -/
/-- the signs of a text, each as a text -/
def signs (z : Str) : List Str := z.cps.toList.map fun c => ⟨#[c]⟩
theorem strs_of_signs {z : Str} {acc : Array Value} (h : ItemsOf (SignAt z) acc z.cps.size) : StrsAre acc.toList (signs z) := by
  have key : ∀ (l : List Value) (m : List Nat), l.length = m.length → (∀ (j : Nat) (v : Value) (c : Nat), l[j]? = some v → m[j]? = some c → ∃ u, v = .str ⟨#[c]⟩ u) → StrsAre l (m.map fun c => ⟨#[c]⟩) := by
    intro l
    induction l with
    | nil =>
      intro m hl _
      cases m with
      | nil => exact .nil
      | cons a r => cases hl
    | cons x l ih =>
      intro m hl hm
      cases m with
      | nil => cases hl
      | cons c r =>
        obtain ⟨u, e⟩ := hm 0 x c rfl rfl
        rw [e]
        exact .cons _ _ (ih r (Nat.succ.inj hl) fun j v d h1 h2 => hm (j + 1) v d (by simpa using h1) (by simpa using h2))
  refine key _ _ (by rw [Array.length_toList, Array.length_toList, h.1]) fun j v c h1 h2 => ?_
  obtain ⟨d, u, e1, e2⟩ := h.2 j v (by rw [← Array.getElem?_toList]; exact h1)
  rw [← Array.getElem?_toList, h2] at e1
  cases e1
  exact ⟨u, e2⟩
section
variable {X : Cx}
def rSortTx : List V → Hp → VK → Prop := fun vs H Q => ∃ z : Str, vs = [V.str z] ∧ z.length < 64 ∧ ∀ (ys : List Str) (p : Addr), ys.Perm (signs z) → sortedS ys = true → H p = none → Q (.ref p) (upd H p (.lst (ys.map V.str)))
theorem cr_sortedTx (hc : X.calm = true) : CallR X (.builtin "sorted") rSortTx := by
  intro pins s σ H vs us Q I r h
  obtain ⟨z, rfl, h64, q⟩ := h
  obtain ⟨u, rfl, rx⟩ := vals1 r
  obtain ⟨t, rfl⟩ := rx
  have hz : z.cps.size ≤ sizeLine := sz (Nat.le_of_lt (Nat.lt_trans h64 (by decide)))
  refine PySem.Calls.call_function_entry kind_sorted plain_sorted entry_sorted (args_sorted1 _) ?_
  unfold Builtin.«sorted»
  refine wpAny_bind (m := checkCount "sorted" 1 1 _) (wpAny_pure ?_)
  refine wpAny_bind (wpAny_collect_str (show X.A.in1.handled = none from I.ok.hd hc) z t (fun s' acc k eg ed eo hacc => ?_) hz)
  have hS := strs_of_signs hacc
  have hlen : acc.toList.length < 64 := by rw [Array.length_toList, hacc.1]; exact h64
  refine wpAny_bind (wpAny_newList ?_ (sz (by omega)))
  obtain ⟨hp, g, d, tk, os⟩ := s'
  dsimp only at eg ed eo
  subst eg ed eo
  have ho : (hp.push (seqObj "list" acc.toList.toArray 0)).get? hp.objs.size = some (seqObj "list" acc.toList.toArray 0) := Heap.get?_push_size _ rfl
  refine wpAny_bind (wpAny_holding (wpAny_call_entry slot_list_sort ⟨_, ho, rfl⟩ entry_list_sort (list_sort_treeK strKind_oneLt ho hS.keysOf (fun v₁ v₂ rest e => keyKind_strs (by rw [← e]; exact hS)) hlen fun st' a1 a2 => ⟨_, rfl, ?_⟩) (args_list_sort _)))
  obtain ⟨ss', h1, h2, h3⟩ := sorted_out_str hS a1 a2
  obtain ⟨ep, he⟩ := sortedHeap_at (vs := acc.toList) (out := (arrOf st').map (·.2)) (n := 0) ho
  have I1 : Inv X pins σ H ⟨hp, s.gens, s.drawn, tk, s.os⟩ := I.kept (t' := tk) k
  have old : ∀ b o, hp.get? b = some o → (sortedHeap (hp.push (seqObj "list" acc.toList.toArray 0)) hp.objs.size acc.toList ((arrOf st').map (·.2))).get? b = some o := fun b o e2 => by
    have hlt := Heap.lt_size e2
    rw [sortedHeap_old (Nat.ne_of_lt hlt) (by rw [size_push']; exact Nat.lt_succ_of_lt hlt), Heap.get?_push_ne _ _ _ (Nat.ne_of_lt hlt)]
    exact e2
  refine wpAny_pure ⟨_, rfl, ?_⟩
  have hl2 : (ss'.map V.str).length ≤ sizeLine := by rw [List.length_map, h2.length_eq]; exact sz (by unfold signs; rw [List.length_map, Array.length_toList]; exact Nat.le_of_lt (Nat.lt_trans h64 (by decide)))
  exact ⟨.ref _, upd H hp.objs.size (.lst (ss'.map V.str)), I1.laid (t' := tk) old (Nat.le_refl _) ⟨hl2, ((arrOf st').map (·.2)).toList, ep, vals_of_strs h1, he⟩, rfl, q ss' _ h2 h3 (I1.hok.fresh (Nat.le_refl _))⟩
end
end Bt
namespace Bt
open PySem PySem.Spec PyProof.Rows L2
variable {X : Cx}
/-! ### tuple(text) -/
theorem vals_of_signs {z : Str} {acc : Array Value} (h : ItemsOf (SignAt z) acc z.cps.size) : Vals ((signs z).map V.str) acc.toList := vals_of_strs (strs_of_signs h)
def rTupTx : List V → Hp → VK → Prop := fun vs H Q => ∃ z : Str, vs = [V.str z] ∧ z.length ≤ sizeLine ∧ ∀ p, H p = none → Q (.ref p) (upd H p (.tup ((signs z).map V.str)))
theorem q_tupTx {H : Hp} {Q : VK} {z : Str} (h : z.length ≤ sizeLine) (q : ∀ p H', H p = none → Same H H' → H' p = some (.tup ((signs z).map V.str)) → Q (.ref p) H') : rTupTx [.str z] H Q := ⟨z, rfl, h, fun p n => q p _ n (Same.new n) upd_same⟩
theorem call_tupleTx (hc : X.calm = true) : CallR X (.type "tuple") rTupTx := by
  intro pins s σ H vs us Q I r h
  obtain ⟨z, rfl, hz, q⟩ := h
  obtain ⟨u, rfl, rx⟩ := vals1 r
  obtain ⟨t, rfl⟩ := rx
  refine call_tuple_str (I.ok.hd hc) z t (fun h' tk acc k hacc => ?_) hz
  have I1 : Inv X pins σ H { s with heap := h', toks := tk } := I.kept (t' := tk) k
  have hl : ((signs z).map V.str).length ≤ sizeLine := by
    unfold signs
    rw [List.length_map, List.length_map, Array.length_toList]
    exact hz
  refine ⟨.ref h'.objs.size, _, I1.laid (t' := tk) (a := h'.objs.size) (o := .tup ((signs z).map V.str)) (fun b o e => Heap.get?_push_of_some _ e) (Nat.le_refl _) ⟨hl, acc.toList, vals_of_signs hacc, ?_⟩, rfl, q _ (I1.hok.fresh (Nat.le_refl _))⟩
  have e : acc.toList.toArray = acc := by simp
  rw [e]
  exact IsTup.new _ _
/-! ### C(e, ..), C's __init__ may raise; what is raised is wished for at the caller's slots -/
section
variable {CX : CXT} {k : Nat} {C f : Addr} {fd : FuncData} {ps : List Str} {sp : Sp} {dvs : List V} {ds : List Value} {E : L2.St → XK} {x : Str} {p pos : Pos} {e : Expr} {es : List Expr} {t : TA}
def tMakeS (C : Addr) (sp : Sp) (dvs : List V) (E : L2.St → XK) (t : TA) : TE := fun σ H Q => t σ H fun vs H1 => ∀ x dx, H1 x = none → H1 dx = none → dx ≠ x →
  sp (.ref x :: (vs ++ dvs)) (upd (upd H1 dx (.own x)) x (.ins C dx [])) (fun v H2 => v = .non ∧ Q (.ref x) H2) (E σ)
theorem run_makeS {pins : List (Addr × Obj)} {σ : L2.St} {H : Hp} {s : Shared} {Q : VK} {us : List Value} {vs : List V} (M : Mk X.K C f) (F : FnOk X.prog X.w X.K X.mg X.base CX k f fd ps sp) (hr : Room (k + 1) X.A) (hb : Binds X.K fd ps ds) (hd : Vals dvs ds)
    (hx : PassesAt CX X σ (E σ)) (I : Inv X pins σ H s) (r : Vals vs us)
    (h : ∀ x dx, H x = none → H dx = none → dx ≠ x → sp (.ref x :: (vs ++ dvs)) (upd (upd H dx (.own x)) x (.ins C dx [])) (fun v H2 => v = .non ∧ Q (.ref x) H2) (E σ)) :
    wpAny (model X.prog X.w) X.A (call (.ref C) us) (EP X pins σ Q) X.xe s := by
  have hq := h (s.heap.objs.size + 1) s.heap.objs.size (I.hok.fresh (Nat.le_succ _)) (I.hok.fresh (Nat.le_refl _)) (Nat.ne_of_lt (Nat.lt_succ_self _))
  have I2 := Inv.made (C := C) I
  have r2 : Vals (V.ref (s.heap.objs.size + 1) :: (vs ++ dvs)) (Value.ref (s.heap.objs.size + 1) :: (us ++ ds)) := .cons rfl (r.append hd)
  have hl : (Value.ref (s.heap.objs.size + 1) :: us ++ ds).length = ps.length := by
    have e := r2.length
    rw [F.len _ _ _ _ hq] at e
    exact e.symm
  refine wpAny_call (make_map (f := f) I.kIn M.makes M.init (beq_iff_eq.mp M.fn) (codeAny_mono (F.run _ X.stack _ _ ⟨Value.ref (s.heap.objs.size + 1) :: us, []⟩ (Value.ref (s.heap.objs.size + 1) :: (us ++ ds)) _ _ (E σ) (hr.make C us [])
    (I2.env0.make C us []) (hb _ (Value.ref (s.heap.objs.size + 1) :: us) I2.kIn hl) r2 hq) fun r s' hq' => ?_))
  cases r with
  | error e => exact hx pins _ _ e s' I2 hq'
  | ok fl =>
    cases fl with
    | ret u =>
      obtain ⟨v, H', I3, rv, ev, q3⟩ := I2.after hq'
      subst ev
      exact ⟨rv, ⟨V.ref (s.heap.objs.size + 1), H', I3, rfl, q3⟩⟩
    | next => exact False.elim hq'
    | brk => exact False.elim hq'
    | cont => exact False.elim hq'
theorem pe_makeS (M : Mk X.K C f) (F : FnOk X.prog X.w X.K X.mg X.base CX k f fd ps sp) (hr : Room (k + 1) X.A) (hg : Gl X x) (hm : X.mg x = some (.ref C)) (hb : Binds X.K fd ps ds) (hd : Vals dvs ds) (hx : ∀ σ, PassesAt CX X σ (E σ))
    (ha : PA X (e :: es) t) (hdb : (x == ("__debug__" : Str)) = false := by decide) (he : starEach (e :: es) X.env = (false, eval e X.env) :: starEach es X.env := by rfl) (hpl : (backTo pos (starEach es X.env)).any (·.1) = false := by rfl) :
    PE X (.Call (.Name x p) (e :: es) [] pos) (tMakeS C sp dvs E t) := by
  refine ⟨fun pins s σ H Q I h => ?_⟩
  refine wpAny_Call_Name_kw (ld_glob I hg hm ?_ hdb)
  refine PySem.W.callWith_K (h₀ := X.base) I.ok.mod.kin M.kp (thn (ha.run pos pins s σ H _ I h) fun us s1 ⟨vs, H1, I1, r, q⟩ => ⟨I1.kIn, ?_⟩) he hpl
  exact run_makeS M F hr hb hd (hx σ) I1 r q
end
/-! ### a comprehension over a text -/
theorem lc_str {z : Str} {g : TG} {tt : TT} {te : TE} {vs : List Nat} {σ : L2.St} {H1 : Hp} {D : Addr} {Qd : Hp → Prop} (Pv : Nat → Hp → Prop) (h0 : Pv 0 (upd H1 D (.lst [])))
    (hs : ∀ i (c : Nat) H, z.cps.toList[i]? = some c → Pv i H → g (.str ⟨#[c]⟩) (wipe σ vs) H fun σ2 H2 => wipe σ2 vs = wipe σ vs ∧ tt σ2 H2 fun b H3 =>
      if b = true then te σ2 H3 fun y H4 => ∃ acc, H4 D = some (.lst acc) ∧ acc.length < sizeLine ∧ Pv (i + 1) (upd H4 D (.lst (acc ++ [y]))) else Pv (i + 1) H3) (hd : ∀ H, Pv z.cps.size H → Qd H) :
    ∃ W : Nat → Nat → Hp → Prop, (∃ m, W 0 m (upd H1 D (.lst []))) ∧ ∀ i m H, W i m H →
      ((Its z).stop i H ∧ Qd H) ∨ ((Its z).go i H ∧ ∃ Nx : Hp → Prop, (∀ H', Nx H' → ∃ m', m' < m ∧ W (i + 1) m' H') ∧ ∀ x H', (Its z).yld i H x H' → g x (wipe σ vs) H' fun σ2 H2 => wipe σ2 vs = wipe σ vs ∧ tt σ2 H2 fun b H3 =>
        if b = true then te σ2 H3 fun y H4 => ∃ acc, H4 D = some (.lst acc) ∧ acc.length < sizeLine ∧ Nx (upd H4 D (.lst (acc ++ [y]))) else Nx H3) := by
  refine ⟨fun i m H => m = z.cps.size - i ∧ i ≤ z.cps.size ∧ Pv i H, ⟨z.cps.size, by simp, Nat.zero_le _, h0⟩, ?_⟩
  rintro i m H ⟨rfl, hi, p⟩
  by_cases hlt : i < z.cps.size
  · refine .inr ⟨hlt, Pv (i + 1), fun H' p' => ⟨z.cps.size - (i + 1), by omega, rfl, hlt, p'⟩, fun x H' y => ?_⟩
    obtain ⟨e, c, hc, ex⟩ := y
    subst e ex
    exact hs i c _ (by rw [Array.getElem?_toList]; exact hc) p
  · have e : i = z.cps.size := by omega
    subst e
    exact .inl ⟨Nat.le_refl _, hd H p⟩
theorem s_lc {wi : TI} {g : TG} {tt : TT} {te : TE} {vs : List Nat} {σ : L2.St} {H : Hp} {Q : VK} (h : wi σ H fun J H1 => ∀ D, H1 D = none → ∃ W : Nat → Nat → Hp → Prop, (∃ m, W 0 m (upd H1 D (.lst []))) ∧ ∀ i m H, W i m H →
  (J.stop i H ∧ Q (.ref D) H) ∨ (J.go i H ∧ ∃ Nx : Hp → Prop, (∀ H', Nx H' → ∃ m', m' < m ∧ W (i + 1) m' H') ∧ ∀ x H', J.yld i H x H' → g x (wipe σ vs) H' fun σ2 H2 => wipe σ2 vs = wipe σ vs ∧ tt σ2 H2 fun b H3 =>
    if b = true then te σ2 H3 fun y H4 => ∃ acc, H4 D = some (.lst acc) ∧ acc.length < sizeLine ∧ Nx (upd H4 D (.lst (acc ++ [y]))) else Nx H3)) : tLc wi g tt te vs σ H Q := h
theorem s_yes {σ : L2.St} {H : Hp} {R : Bool → Hp → Prop} (h : R true H) : tYes σ H R := h
theorem same_mut {H H' : Hp} {p : Addr} {o : HO} (e : Same H H') (h : H p = none) : Same H (upd H' p o) := fun a u ha => by
  rw [upd_ne (ne_of_none ha h)]
  exact e a u ha
theorem take_map_more {α β : Type} {f : α → β} {l : List α} {j : Nat} {x : α} (h : l[j]? = some x) : (l.take (j + 1)).map f = (l.take j).map f ++ [f x] := by
  rw [List.take_add_one, h, List.map_append]
  rfl
theorem s_iStr {te : TE} {σ : L2.St} {H : Hp} {R : It → Hp → Prop} (h : te σ H fun v H1 => ∃ x, v = .str x ∧ R (Its x) H1) : iStr te σ H R := h
theorem s_M0 {to : TE} {r : V → List V → Hp → VK → Prop} {σ : L2.St} {H : Hp} {Q : VK} (h : to σ H fun x H1 => (∃ a, x = .str a) ∧ r x [] H1 Q) : tM0 r to σ H Q := h
/-! ### x == y, x an instance of an own class with __eq__ -/
def rEqOwn (K : PySem.W.Frag) (C : Addr) (sp : Sp) (E : XK) : R2 := fun x y H Q => ∃ a dx fs t, x = .ref a ∧ H a = some (.ins C dx fs) ∧ TyX K H y t ∧ PySem.W.notFirst K C t = true ∧ sp [x, y] H (fun v H' => ∃ b, v = .bl b ∧ Q v H') E
theorem op_eqOwn {CX : CXT} {n : Nat} {C f : Addr} {fd : FuncData} {ps : List Str} {sp : Sp} {E : XK} (F : FnOk X.prog X.w X.K X.mg X.base CX n f fd ps sp) (hr : Room n X.A)
    (hs : PySem.W.findIn X.K (.ref C) "__eq__" = some (some (.ref f))) (hf : PySem.W.isFn X.K (.ref f) = true) (hb : Binds X.K fd ps []) (hx : Passes CX X E) : OpR X (compareOp .Eq) (rEqOwn X.K C sp E) := by
  intro pins s σ H x y v u Q I rx ry hq
  obtain ⟨a, dx, fs, t, rfl, ha, ty, hn, hsp⟩ := hq
  cases rx
  obtain ⟨mA, J, _⟩ := ins_get I.hok ha
  obtain ⟨od, J, _⟩ := J.look
  obtain ⟨m, hF⟩ := I.fr
  obtain ⟨P, Z, p, _⟩ := kit_of I ry ty
  show wpAny (model X.prog X.w) X.A (richCompare .Eq (.ref a) u) (EP X pins σ Q) X.xe s
  refine PySem.W.cmp_K (op := .Eq) (tb := t) hr.units0 hF I.ok.mod.kin J (Z.ty _ _ I.kIn p) hn hs hf ?_
  have hl := F.len _ _ _ _ hsp
  have r2 : Vals [V.ref a, y] [Value.ref a, u] := .cons rfl (.cons ry .nil)
  refine wpAny_call (codeAny_mono (F.run X.A X.stack s H ⟨[.ref a, u], []⟩ [.ref a, u] [.ref a, y] _ E hr I.env0 (by
    have := hb s [.ref a, u] I.kIn (by simpa using hl)
    simpa using this) r2 hsp) fun r s' hq => ?_)
  cases r with
  | error e => exact hx pins σ H s e s' I hq
  | ok fl =>
    cases fl with
    | ret w =>
      obtain ⟨z, H', I', rz, b, ez, q⟩ := I.after hq
      subst ez
      cases rz
      exact ⟨.bl b, H', I', rfl, q⟩
    | next => exact False.elim hq
    | brk => exact False.elim hq
    | cont => exact False.elim hq
end Bt
namespace Bt
open PySem PyProof.Rows
/-! ### letters -/
abbrev sg (c : Nat) : Str := ⟨#[c]⟩
def alphaS : Str := "abcdefghijklmnopqrstuvwxyz"
def alpha : List Nat := (List.range 26).map (97 + ·)
theorem alphaS_cps : alphaS.cps.toList = alpha := by decide +kernel
theorem alpha_len : alpha.length = 26 := by decide
theorem mem_alpha {c : Nat} : c ∈ alpha ↔ 97 ≤ c ∧ c ≤ 122 := by
  unfold alpha
  rw [List.mem_map]
  constructor
  · rintro ⟨a, h, rfl⟩
    have := List.mem_range.mp h
    omega
  · rintro ⟨h1, h2⟩
    exact ⟨c - 97, List.mem_range.mpr (by omega), by omega⟩
theorem alpha_nd : alpha.Nodup := by decide
/-- the letters of a form -/
def Letters (z : Str) : Prop := z.cps.toList.Perm alpha
instance {z : Str} : Decidable (Letters z) := inferInstanceAs (Decidable (List.Perm _ _))
theorem rising_pw : ∀ (cs : List Nat) (p : Nat), risingS (sg p) (cs.map sg) = true → (p :: cs).Pairwise (· ≤ ·)
  | [], p, _ => List.pairwise_singleton _ _
  | c :: cs, p, h => by
    have h' : (!Spec.ltCps [c] [p] && risingS (sg c) (cs.map sg)) = true := h
    obtain ⟨h1, h2⟩ := Bool.and_eq_true_iff.mp h'
    have ih := rising_pw cs c h2
    have hpc : p ≤ c := by
      rw [ltCps_eq] at h1
      rcases Nat.lt_or_ge c p with k | k
      · have : ([c] : List Nat) < [p] := List.Lex.rel k
        simp [this] at h1
      · exact k
    refine List.pairwise_cons.mpr ⟨fun a ha => ?_, ih⟩
    rcases List.mem_cons.mp ha with e | ha
    · rw [e]; exact hpc
    · exact Nat.le_trans hpc ((List.pairwise_cons.mp ih).1 a ha)
theorem sorted_pw (cs : List Nat) (h : sortedS (cs.map sg) = true) : cs.Pairwise (· ≤ ·) := by
  cases cs with
  | nil => exact List.Pairwise.nil
  | cons c cs => exact rising_pw cs c h
theorem sg_inj : Function.Injective sg := fun a b h => by
  have : (#[a] : Array Nat) = #[b] := congrArg Str.cps h
  simpa using this
theorem signs_eq (z : Str) : signs z = z.cps.toList.map sg := rfl
theorem perm_signs {z : Str} {ys : List Str} (h : ys.Perm (signs z)) : ∃ cs : List Nat, ys = cs.map sg ∧ cs.Perm z.cps.toList := by
  let f : Str → Nat := fun s => s.cps.toList.headD 0
  have fs : ∀ c, f (sg c) = c := fun c => rfl
  refine ⟨ys.map f, ?_, ?_⟩
  · rw [List.map_map]
    have : ∀ y ∈ ys, (sg ∘ f) y = y := fun y hy => by
      have := h.mem_iff.mp hy
      rw [signs_eq, List.mem_map] at this
      obtain ⟨c, _, rfl⟩ := this
      rfl
    exact ((List.map_congr_left this).trans (List.map_id _)).symm
  · have := h.map f
    rw [signs_eq, List.map_map] at this
    have e : (z.cps.toList).map (f ∘ sg) = z.cps.toList := (List.map_congr_left (fun c _ => fs c)).trans (List.map_id _)
    rw [e] at this
    exact this
theorem eqvAll_strs : ∀ (xs ys : List Str), PyData.eqvAll (xs.map .str) (ys.map .str) = decide (xs = ys)
  | [], [] => by simp [PyData.eqvAll]
  | [], y :: ys => by simp [PyData.eqvAll]
  | x :: xs, [] => by simp [PyData.eqvAll]
  | x :: xs, y :: ys => by
    have ih := eqvAll_strs xs ys
    simp only [List.map_cons, PyData.eqvAll, PyData.eqv, ih]
    by_cases h1 : x = y <;> by_cases h2 : xs = ys <;> simp [h1, h2]
theorem sorted_eq_iff {z w : Str} {ys ws : List Str} (h1 : ys.Perm (signs z)) (s1 : sortedS ys = true) (h2 : ws.Perm (signs w)) (s2 : sortedS ws = true) :
    PyData.eqv (.list (ys.map .str)) (.list (ws.map .str)) = decide (z.cps.toList.Perm w.cps.toList) := by
  obtain ⟨cs, rfl, p1⟩ := perm_signs h1
  obtain ⟨ds, rfl, p2⟩ := perm_signs h2
  have q1 := sorted_pw cs s1
  have q2 := sorted_pw ds s2
  show PyData.eqvAll _ _ = _
  rw [eqvAll_strs]
  apply decide_eq_decide.mpr
  constructor
  · intro e
    have e2 : cs = ds := by
      have := congrArg (List.map fun s : Str => s.cps.toList.headD 0) e
      simpa [List.map_map, Function.comp_def] using this
    subst e2
    exact p1.symm.trans p2
  · intro e
    have p : cs.Perm ds := (p1.trans e).trans p2.symm
    rw [p.eq_of_pairwise (fun a b _ _ h1 h2 => Nat.le_antisymm h1 h2) q1 q2]
end Bt
namespace Bt
open PySem PySem.Spec PyProof.Rows L2
/-! ### a def as it stands behind the top, by its name alone -/
structure Df (K : PySem.W.Frag) (mg : Str → Option Value) (x : Str) (st : Stmt) (ps : List Str) : Prop where
  ex : ∃ (f : Addr) (fd : FuncData), Fun K x x st f fd ∧ mg x = some (.ref f) ∧ Binds K fd ps []
/-- a def that raises nothing, with its promise -/
structure Cal (P : Program) (w : World) (K : PySem.W.Frag) (mg : Str → Option Value) (base : Heap) (k : Nat) (x : Str) (sp : Sp) : Prop where
  ex : ∃ (f : Addr) (fd : FuncData) (ps : List Str), FnOk P w K mg base CX0 k f fd ps sp ∧ mg x = some (.ref f) ∧ PySem.W.keepIn K (.ref f) = true ∧ Binds K fd ps []
/-- one that may raise -/
structure CalX (P : Program) (w : World) (K : PySem.W.Frag) (mg : Str → Option Value) (base : Heap) (k : Nat) (x : Str) (sp : Sp) : Prop where
  ex : ∃ (f : Addr) (fd : FuncData) (ps : List Str), FnOk P w K mg base (L2.CX P w) k f fd ps sp ∧ mg x = some (.ref f) ∧ PySem.W.keepIn K (.ref f) = true ∧ Binds K fd ps []
section
variable {P : Program} {w : World} {K : PySem.W.Frag} {mg : Str → Option Value} {base : Heap} {x : Str} {st : Stmt} {N ps : List Str} {k : Nat} {sp : Sp}
theorem Df.cal (D : Df K mg x st ps) (S : FnScope N ps (defScope st)) (len : ∀ vs H Q E, sp vs H Q E → vs.length = ps.length)
    (hbody : ∀ (f : Addr) (cdv : Value) (A : Around) (outer : List Env) (s : Shared) (H : Hp) (vs : List V) (Q : VK) (E : XK), Room k (A.deeper (envOfC x (defScope st) s.heap.objs.size f cdv)) → sp vs H Q E →
      ∃ t, PSs (cxOf CX0 P w K mg base N x (defScope st) f cdv A outer s H E).nox (defBody st) t ∧ t { nx := fun _ H' => Q .non H', rt := Q } (start N vs) H) : Cal P w K mg base (k + 1) x sp := by
  obtain ⟨f, fd, F, g, b⟩ := D.ex
  exact ⟨⟨f, fd, ps, F.ok S len (hbody f), g, F.kp, b⟩⟩
theorem Df.calX (D : Df K mg x st ps) (S : FnScope N ps (defScope st)) (len : ∀ vs H Q E, sp vs H Q E → vs.length = ps.length)
    (hbody : ∀ (f : Addr) (cdv : Value) (A : Around) (outer : List Env) (s : Shared) (H : Hp) (vs : List V) (Q : VK) (E : XK), Room k (A.deeper (envOfC x (defScope st) s.heap.objs.size f cdv)) → sp vs H Q E →
      ∃ t, PSs (cxOf (L2.CX P w) P w K mg base N x (defScope st) f cdv A outer s H E) (defBody st) t ∧ t { nx := fun _ H' => Q .non H', rt := Q } (start N vs) H) : CalX P w K mg base (k + 1) x sp := by
  obtain ⟨f, fd, F, g, b⟩ := D.ex
  exact ⟨⟨f, fd, ps, F.okX S len (hbody f), g, F.kp, b⟩⟩
end
section
variable {X : Cx} {k j : Nat} {x : Str} {sp : Sp} {p pos : Pos} {e : Expr} {es : List Expr} {t : TA}
theorem pe_c (c : Cal X.prog X.w X.K X.mg X.base k x sp) (hr : Room j X.A) (hk : k ≤ j) (hg : Gl X x) (ha : PA X (e :: es) t)
    (hdb : (x == ("__debug__" : Str)) = false := by decide) (he : starEach (e :: es) X.env = (false, eval e X.env) :: starEach es X.env := by rfl) (hpl : (backTo pos (starEach es X.env)).any (·.1) = false := by rfl) :
    PE X (.Call (.Name x p) (e :: es) [] pos) (tCall sp [] E0 t) := by
  obtain ⟨f, fd, ps, F, hm, kp, b⟩ := c.ex
  exact pe_call F (hr.mono hk) hg hm kp b .nil pass0 ha hdb he hpl
/-- a def that may raise, called where it does not -/
theorem pe_cx0 (c : CalX X.prog X.w X.K X.mg X.base k x sp) (hr : Room j X.A) (hk : k ≤ j) (hg : Gl X x) (ha : PA X (e :: es) t)
    (hdb : (x == ("__debug__" : Str)) = false := by decide) (he : starEach (e :: es) X.env = (false, eval e X.env) :: starEach es X.env := by rfl) (hpl : (backTo pos (starEach es X.env)).any (·.1) = false := by rfl) :
    PE X (.Call (.Name x p) (e :: es) [] pos) (tCall sp [] E0 t) := by
  obtain ⟨f, fd, ps, F, hm, kp, b⟩ := c.ex
  exact pe_call F (hr.mono hk) hg hm kp b .nil passL ha hdb he hpl
end
/-! ### kinds of values -/
/-- a value of a built-in kind, with its type's name -/
def Ty (K : PySem.W.Frag) (H : Hp) (x : V) (T : String) : Prop := TyX K H x (.type T)
theorem kit_is {K : PySem.W.Frag} {a b : String} (h : (a == b) = true) : PySem.W.kitOne K (.type a) (.type b) = some true := kit_ty (by
  have e : a = b := by simpa using h
  subst e
  unfold kitB
  rw [if_pos (by simp)])
/-- the kinds that data have, and what isinstance says of them -/
inductive Kd : String → Prop where
  | non : Kd "NoneType" | bl : Kd "bool" | int : Kd "int" | str : Kd "str" | lst : Kd "list" | tup : Kd "tuple" | dct : Kd "dict"
def subKd (a b : String) : Bool := a == b || (a == "bool" && b == "int")
theorem kit_kd {K : PySem.W.Frag} {a b : String} (ha : Kd a) (hb : Kd b) : PySem.W.kitOne K (.type a) (.type b) = some (subKd a b) := by
  cases ha <;> cases hb <;> exact kit_ty (by decide +kernel)
/-- a plain value: data at its top -/
def Pl (K : PySem.W.Frag) (H : Hp) (x : V) (T : String) : Prop := TyX K H x (.type T) ∧ Kd T
theorem q_isi {K : PySem.W.Frag} {H : Hp} {Q : VK} {x : V} {a b : String} (h : Pl K H x a) (hb : Kd b) (q : Q (.bl (subKd a b)) H) : rIsi K [x, .ty b] H Q :=
  ⟨x, .ty b, .type a, .type b, subKd a b, rfl, .ty b, h.1, kit_kd h.2 hb, q⟩
theorem Pl.non {K : PySem.W.Frag} {H : Hp} : Pl K H .non "NoneType" := ⟨.base .non, .non⟩
theorem Pl.bl {K : PySem.W.Frag} {H : Hp} {b : Bool} : Pl K H (.bl b) "bool" := ⟨.base (.bl b), .bl⟩
theorem Pl.int {K : PySem.W.Frag} {H : Hp} {i : Int} : Pl K H (.int i) "int" := ⟨.base (.int i), .int⟩
theorem Pl.str {K : PySem.W.Frag} {H : Hp} {z : Str} : Pl K H (.str z) "str" := ⟨.base (.str z), .str⟩
theorem Pl.lst {K : PySem.W.Frag} {H : Hp} {a : Addr} {xs : List V} (h : H a = some (.lst xs)) : Pl K H (.ref a) "list" := ⟨.base (.lst h), .lst⟩
theorem Pl.tup {K : PySem.W.Frag} {H : Hp} {a : Addr} {xs : List V} (h : H a = some (.tup xs)) : Pl K H (.ref a) "tuple" := ⟨.base (.tup h), .tup⟩
theorem TyX.mono {K : PySem.W.Frag} {H H' : Hp} {x : V} {t : Value} (S : Same H H') (h : TyX K H x t) : TyX K H' x t := by
  cases h with
  | base b =>
    cases b with
    | non => exact .base .non
    | bl z => exact .base (.bl z)
    | int z => exact .base (.int z)
    | str z => exact .base (.str z)
    | flt z => exact .base (.flt z)
    | lst e => exact .base (.lst (S _ _ e))
    | frz e => exact .base (.frz (S _ _ e))
    | tup e => exact .base (.tup (S _ _ e))
    | dK e => exact .base (.dK (S _ _ e))
    | dT e => exact .base (.dT (S _ _ e))
    | ins e cl ha hn htk hm => exact .base (.ins (S _ _ e) cl ha hn htk hm)
  | byt b => exact .byt b
  | set e => exact .set (S _ _ e)
  | kList e c => exact .kList e c
  | kTuple e c => exact .kTuple e c
  | kDict e c => exact .kDict e c
  | fTuple e => exact .fTuple (S _ _ e)
  | fDict e => exact .fDict (S _ _ e)
theorem Pl.mono {K : PySem.W.Frag} {H H' : Hp} {x : V} {T : String} (S : Same H H') (h : Pl K H x T) : Pl K H' x T := ⟨TyX.mono S h.1, h.2⟩
theorem ty_ne {a b : String} {p : Prop} (e : Value.type a = Value.type b) (h : a ≠ b) : p := absurd (Value.type.inj e) h
theorem Pl.is_str {K : PySem.W.Frag} {H : Hp} {z : Str} {T : String} (h : Pl K H (.str z) T) : T = "str" := by
  have key : ∀ t, TyX K H (.str z) t → t = .type "str" := fun t h => by
    cases h with
    | base b => cases b; rfl
  exact Value.type.inj (key _ h.1)
theorem Pl.is_int {K : PySem.W.Frag} {H : Hp} {z : Int} {T : String} (h : Pl K H (.int z) T) : T = "int" := by
  have key : ∀ t, TyX K H (.int z) t → t = .type "int" := fun t h => by
    cases h with
    | base b => cases b; rfl
  exact Value.type.inj (key _ h.1)
theorem Pl.is_bl {K : PySem.W.Frag} {H : Hp} {z : Bool} {T : String} (h : Pl K H (.bl z) T) : T = "bool" := by
  have key : ∀ t, TyX K H (.bl z) t → t = .type "bool" := fun t h => by
    cases h with
    | base b => cases b; rfl
  exact Value.type.inj (key _ h.1)
theorem Pl.of_str {K : PySem.W.Frag} {H : Hp} {x : V} {T : String} (h : Pl K H x T) (e : T = "str") : ∃ z, x = .str z := by
  have key : ∀ t, TyX K H x t → t = .type "str" → ∃ z, x = .str z := fun t h e => by
    cases h with
    | base b =>
      cases b with
      | str z => exact ⟨z, rfl⟩
      | ins _ _ _ _ _ _ => cases e
      | _ => exact ty_ne e (by decide)
    | _ => exact ty_ne e (by decide)
  exact key _ h.1 (by rw [e])
theorem Pl.of_int {K : PySem.W.Frag} {H : Hp} {x : V} {T : String} (h : Pl K H x T) (e : T = "int") : ∃ z, x = .int z := by
  have key : ∀ t, TyX K H x t → t = .type "int" → ∃ z, x = .int z := fun t h e => by
    cases h with
    | base b =>
      cases b with
      | int z => exact ⟨z, rfl⟩
      | ins _ _ _ _ _ _ => cases e
      | _ => exact ty_ne e (by decide)
    | _ => exact ty_ne e (by decide)
  exact key _ h.1 (by rw [e])
/-- the object at a stands where the abstract heap has grown -/
theorem q_sortTx {H : Hp} {Q : VK} {z : Str} (h : z.length < 64) (q : ∀ (ys : List Str) (p : Addr) H', H p = none → Same H H' → H' p = some (.lst (ys.map V.str)) → ys.Perm (signs z) → sortedS ys = true → Q (.ref p) H') : rSortTx [.str z] H Q :=
  ⟨z, rfl, h, fun ys p h1 h2 n => q ys p _ n (Same.new n) upd_same h1 h2⟩
theorem dp_strs {K : PySem.W.Frag} {H : Hp} : ∀ ys : List Str, DpAll K H (ys.map V.str) (ys.map PyData.str)
  | [] => .nil
  | y :: ys => .cons (.str y) (dp_strs ys)
theorem dp_lst_strs {K : PySem.W.Frag} {H : Hp} {p : Addr} {ys : List Str} (h : H p = some (.lst (ys.map V.str))) : Dp K H (.ref p) (.list (ys.map PyData.str)) := .lst (SqL.of h) (dp_strs ys)
def Asc (z : Str) : Prop := ∀ c ∈ z.cps.toList, c < 128
theorem Asc.ok {z : Str} (h : Asc z) : PyData.strOk z = true := by
  unfold PyData.strOk
  rw [← Array.all_toList, List.all_eq_true]
  intro c hc
  have := h c hc
  exact decide_eq_true (by omega)
theorem canLay_strs : ∀ (ys : List Str), (∀ y ∈ ys, Asc y) → PyData.canLayAll0 (ys.map PyData.str) = true
  | [], _ => rfl
  | y :: ys, h => by
    simp only [List.map_cons, PyData.canLayAll0, PyData.canLay0, Bool.and_eq_true]
    exact ⟨(h y List.mem_cons_self).ok, canLay_strs ys fun z hz => h z (List.mem_cons_of_mem _ hz)⟩
theorem depth_strs : ∀ (ys : List Str), PyData.depthAll (ys.map PyData.str) = 0
  | [] => rfl
  | y :: ys => by simp only [List.map_cons, PyData.depthAll, PyData.depth, depth_strs ys]; rfl
theorem shaped_strs {ys : List Str} (h : ∀ y ∈ ys, Asc y) : SeqAt.shaped (.list (ys.map PyData.str)) = true := by
  unfold SeqAt.shaped
  rw [Bool.and_eq_true]
  refine ⟨?_, ?_⟩
  · simp only [PyData.canLay0]; exact canLay_strs ys h
  · simp only [PyData.depth, depth_strs]; decide
theorem asc_signs {z : Str} (h : Asc z) : ∀ y ∈ signs z, Asc y := fun y hy c hc => by
  unfold signs at hy
  obtain ⟨d, hd, rfl⟩ := List.mem_map.mp hy
  have : c = d := by simpa using hc
  subst this
  exact h _ hd
theorem shaped_sorted {z : Str} {ys : List Str} (h : Asc z) (p : ys.Perm (signs z)) : SeqAt.shaped (.list (ys.map PyData.str)) = true := shaped_strs fun y hy => asc_signs h y (p.mem_iff.mp hy)
theorem asc_alpha : Asc alphaS := fun c hc => by
  rw [alphaS_cps] at hc
  have := (mem_alpha.mp hc).2
  omega
end Bt
namespace Bt
open PySem PySem.Spec PyProof.Rows L2
theorem SqT_mono {K : PySem.W.Frag} {H H' : Hp} {a : Addr} {xs : List V} (e : Same H H') (h : SqT K H a xs) : SqT K H' a xs := by
  rcases h with (h | ⟨o, h⟩) | h
  · exact .inl (.inl (e _ _ h))
  · exact .inl (.inr ⟨o, e _ _ h⟩)
  · exact .inr h
mutual
theorem Dp.mono {K : PySem.W.Frag} {H H' : Hp} (S : Same H H') : ∀ {v : V} {d : PyData}, Dp K H v d → Dp K H' v d
  | _, _, .non => .non
  | _, _, .bl b => .bl b
  | _, _, .int i => .int i
  | _, _, .str x => .str x
  | _, _, .lst h r => .lst (S.seq h) (DpAll.mono S r)
  | _, _, .tup h r => .tup (SqT_mono S h) (DpAll.mono S r)
theorem DpAll.mono {K : PySem.W.Frag} {H H' : Hp} (S : Same H H') : ∀ {vs : List V} {ds : List PyData}, DpAll K H vs ds → DpAll K H' vs ds
  | _, _, .nil => .nil
  | _, _, .cons h r => .cons (Dp.mono S h) (DpAll.mono S r)
end
/-! ### an own error with one field, stored by its __init__ -/
def spExc (C : Addr) (fld : Str) : Sp := fun vs H Q _ => ∃ a v, vs = [.ref a, v] ∧ H a = some (exo a C none) ∧ ∀ dx, H dx = none → dx ≠ a → Q .non (upd (upd H dx (exd dx [(fld, v)])) a (exo a C (some dx)))
structure ExcF (K : PySem.W.Frag) (mg : Str → Option Value) (x fld : Str) (C : Addr) : Prop where
  g : mg x = some (.ref C)
  T : OexC K C
  no : PySem.W.findIn K (.ref C) fld = some none
  xf : XfC K C
  te : PySem.W.exmOne K (.ref C) (.ref C) = some true
  init : ∃ (f : Addr) (fd : FuncData) (qual : Str) (params : Arguments) (scope : Scope) (q1 q2 q3 q4 : Pos),
    PySem.W.findIn K (.ref C) "__init__" = some (some (.ref f)) ∧ PySem.W.typeIn K (.ref f) = some (.type "function") ∧
    FunD K "__init__" qual params [.Assign [.Attribute (.Name "self" q1) fld q2] (.Name fld q3) q4] scope [.non] [] f fd ∧ FnScope ["self", fld] ["self", fld] scope ∧ Binds K fd ["self", fld] []
section
variable {P : Program} {w : World} {K : PySem.W.Frag} {mg : Str → Option Value} {base : Heap} {x fld : Str} {C : Addr}
theorem exc_init {f : Addr} {fd : FuncData} {qual : Str} {params : Arguments} {scope : Scope} {q1 q2 q3 q4 : Pos} (T : OexC K C) (no : PySem.W.findIn K (.ref C) fld = some none)
    (F : FunD K "__init__" qual params [.Assign [.Attribute (.Name "self" q1) fld q2] (.Name fld q3) q4] scope [.non] [] f fd) (S : FnScope ["self", fld] ["self", fld] scope) (hd : (fld == ("__debug__" : Str)) = false) (hcd : (fld == ("__classdict__" : Str)) = false) :
    FnOk P w K mg base CX0 1 f fd ["self", fld] (spExc C fld) := by
  refine F.ok S (fun vs H Q E h => ?_) (fun cdv A outer s H vs Q E hr h => ?_)
  · obtain ⟨a, v, rfl, _⟩ := h
    rfl
  · obtain ⟨a, v, rfl, ha, k⟩ := h
    have v1 : Vis scope "self" := (S.par "self" List.mem_cons_self).elim .inl fun z => .inr (.inl z)
    have v2 : Vis scope fld := (S.par fld (List.mem_cons_of_mem _ List.mem_cons_self)).elim .inl fun z => .inr (.inl z)
    refine ⟨_, pss_one (ps_ost (pe_var (i := 0) rfl v1 (by decide) (by decide)) (pe_var (i := 1) rfl v2 hd hcd) (by rfl)), ?_⟩
    exact ⟨v, rfl, .ref a, rfl, a, C, rfl, T, no, .inl ⟨ha, fun dx n ne => k dx n ne⟩⟩
end
section
variable {X : Cx} {x fld : Str} {C : Addr} {k : Nat} {W : WX} {e : Expr} {te : TE} {p pos pos2 : Pos}
/-- what is wished may be weakened -/
def tMono (te : TE) : TE := fun σ H Q => ∃ Q' : VK, te σ H Q' ∧ ∀ v H1, Q' v H1 → Q v H1
theorem PE.mono (he : PE X e te) : PE X e (tMono te) := ⟨fun pins s σ H Q I h => by
  obtain ⟨Q', h1, h2⟩ := h
  refine thn (he.run pins s σ H Q' I h1) fun u s' z => ?_
  obtain ⟨v, H', I', r, q⟩ := z
  exact ⟨v, H', I', r, h2 v H' q⟩⟩
/-- raise C(e) -/
def tRaise1 (C : Addr) (fld : Str) (W : WX) (te : TE) : TS := fun _ σ H => te σ H fun v H1 => ∀ d H3, H1 d = none → Same H1 H3 → H3 d = some (.xd [(fld, v)]) → W (.ref C) (some d) σ H3
theorem ps_raise1 (hc : X.calm = true) (B : ExcF X.K X.mg x fld C) (hr : Room k X.A) (hk : 2 ≤ k) (tk : Takes X W) (he : PE X e te) (hg : Gl X x := by rfl) (hd : (fld == ("__debug__" : Str)) = false := by decide) (hcd : (fld == ("__classdict__" : Str)) = false := by decide)
    (hdb : (x == ("__debug__" : Str)) = false := by decide) (h1 : starEach (e :: []) X.env = (false, eval e X.env) :: starEach [] X.env := by rfl) (h2 : (backTo pos (starEach [] X.env)).any (·.1) = false := by rfl) :
    PS X (.Raise (some (.Call (.Name x p) [e] [] pos)) none pos2) (tRaise1 C fld W te) := by
  obtain ⟨f, fd, qual, params, scope, q1, q2, q3, q4, i1, i2, F, S, b⟩ := B.init
  have m := pmk_oex (sp := spExc C fld) (dvs := []) (p := p) (pos := pos) B.T i1 i2 (exc_init B.T B.no F S hd hcd) (hr.mono hk) b .nil pass0 hg B.g (pa_cons (PE.mono he) pa_nil h1) hdb h1 h2
  have q := ps_raise (pos := pos2) hc tk m
  refine ⟨fun pins s σ H D I h => q.run pins s σ H D I ?_⟩
  have key : ∀ v H1, (∀ d H3, H1 d = none → Same H1 H3 → H3 d = some (.xd [(fld, v)]) → W (.ref C) (some d) σ H3) →
      ([v].length ≤ 1000 ∧ ∀ a, H1 a = none → spExc C fld (.ref a :: ([v] ++ [])) (upd H1 a (exo a C none))
        (fun v H2 => v = .non ∧ ∃ (d : Addr) (fs : List (Str × V)), H2 a = some (exo a C (some d)) ∧ H2 d = some (exd d fs) ∧ H1 d = none ∧ W (.ref C) (some d) σ (upd (del H2 a) d (.xd fs))) (fun _ _ _ => False)) := fun v H1 z => by
    refine ⟨by show 1 ≤ 1000; decide, fun a ha => ⟨a, v, rfl, upd_same, fun dx n ne => ⟨rfl, dx, _, upd_same, by rw [upd_ne ne, upd_same], ?_, ?_⟩⟩⟩
    · rw [upd_ne ne] at n; exact n
    · have n1 : H1 dx = none := by rw [upd_ne ne] at n; exact n
      refine z dx _ n1 (fun b o e => ?_) upd_same
      have nb : b ≠ dx := ne_of_none e n1
      have na : b ≠ a := ne_of_none e ha
      rw [upd_ne nb, del_ne na, upd_ne na, upd_ne nb, upd_ne na]
      exact e
  exact ⟨_, h, fun v H1 z => key v H1 z⟩
theorem s_raise1 {C : Addr} {fld : Str} {W : WX} {te : TE} {D : Ends} {σ : L2.St} {H : Hp} (h : te σ H fun v H1 => ∀ d H3, H1 d = none → Same H1 H3 → H3 d = some (.xd [(fld, v)]) → W (.ref C) (some d) σ H3) : tRaise1 C fld W te D σ H := h
end
end Bt
namespace Bt
open PySem PySem.Spec PyProof.Rows L2
def top (i : Nat) : Stmt := PySem.Challenge.pw_betweenlists_k05_pieces_made.main.body.getD i (.Pass ⟨0, 0, 0, 0⟩)
abbrev s__wall : Stmt := top 0
theorem sc__wall : FnScope ["k"] ["k"] (defScope s__wall) := ⟨rfl, rfl, rfl, by decide +kernel, rfl, by decide +kernel, by decide +kernel⟩
abbrev s_InvalidName___init__ : Stmt := inClass (top 3) 0
theorem sc_InvalidName___init__ : FnScope ["self", "value"] ["self", "value"] (defScope s_InvalidName___init__) := ⟨rfl, rfl, rfl, by decide +kernel, rfl, by decide +kernel, by decide +kernel⟩
abbrev s_InvalidPlace___init__ : Stmt := inClass (top 4) 0
theorem sc_InvalidPlace___init__ : FnScope ["self", "value"] ["self", "value"] (defScope s_InvalidPlace___init__) := ⟨rfl, rfl, rfl, by decide +kernel, rfl, by decide +kernel, by decide +kernel⟩
abbrev s_InvalidForm___init__ : Stmt := inClass (top 5) 0
theorem sc_InvalidForm___init__ : FnScope ["self", "value"] ["self", "value"] (defScope s_InvalidForm___init__) := ⟨rfl, rfl, rfl, by decide +kernel, rfl, by decide +kernel, by decide +kernel⟩
abbrev s_InvalidLook___init__ : Stmt := inClass (top 6) 0
theorem sc_InvalidLook___init__ : FnScope ["self", "value"] ["self", "value"] (defScope s_InvalidLook___init__) := ⟨rfl, rfl, rfl, by decide +kernel, rfl, by decide +kernel, by decide +kernel⟩
abbrev s_InvalidNumber___init__ : Stmt := inClass (top 7) 0
theorem sc_InvalidNumber___init__ : FnScope ["self", "value"] ["self", "value"] (defScope s_InvalidNumber___init__) := ⟨rfl, rfl, rfl, by decide +kernel, rfl, by decide +kernel, by decide +kernel⟩
abbrev s_is_whole : Stmt := top 11
theorem sc_is_whole : FnScope ["value"] ["value"] (defScope s_is_whole) := ⟨rfl, rfl, rfl, by decide +kernel, rfl, by decide +kernel, by decide +kernel⟩
abbrev s_is_name : Stmt := top 12
theorem sc_is_name : FnScope ["value", "letter"] ["value"] (defScope s_is_name) := ⟨rfl, rfl, rfl, by decide +kernel, rfl, by decide +kernel, by decide +kernel⟩
abbrev s_is_place : Stmt := top 13
theorem sc_is_place : FnScope ["value"] ["value"] (defScope s_is_place) := ⟨rfl, rfl, rfl, by decide +kernel, rfl, by decide +kernel, by decide +kernel⟩
abbrev s_is_name_list : Stmt := top 14
theorem sc_is_name_list : FnScope ["value", "item"] ["value"] (defScope s_is_name_list) := ⟨rfl, rfl, rfl, by decide +kernel, rfl, by decide +kernel, by decide +kernel⟩
abbrev s_check_name : Stmt := top 16
theorem sc_check_name : FnScope ["value"] ["value"] (defScope s_check_name) := ⟨rfl, rfl, rfl, by decide +kernel, rfl, by decide +kernel, by decide +kernel⟩
abbrev s_check_place : Stmt := top 17
theorem sc_check_place : FnScope ["value"] ["value"] (defScope s_check_place) := ⟨rfl, rfl, rfl, by decide +kernel, rfl, by decide +kernel, by decide +kernel⟩
abbrev s_check_least : Stmt := top 18
theorem sc_check_least : FnScope ["value", "least"] ["value", "least"] (defScope s_check_least) := ⟨rfl, rfl, rfl, by decide +kernel, rfl, by decide +kernel, by decide +kernel⟩
abbrev s_key_in : Stmt := top 21
theorem sc_key_in : FnScope ["form", "name", "ranks", "letter"] ["form", "name"] (defScope s_key_in) := ⟨rfl, rfl, rfl, by decide +kernel, rfl, by decide +kernel, by decide +kernel⟩
abbrev s__are_letters : Stmt := top 22
theorem sc__are_letters : FnScope ["value"] ["value"] (defScope s__are_letters) := ⟨rfl, rfl, rfl, by decide +kernel, rfl, by decide +kernel, by decide +kernel⟩
abbrev s__are_chains : Stmt := top 23
theorem sc__are_chains : FnScope ["value"] ["value"] (defScope s__are_chains) := ⟨rfl, rfl, rfl, by decide +kernel, rfl, by decide +kernel, by decide +kernel⟩
abbrev s_Form___init__ : Stmt := inClass (top 24) 0
theorem sc_Form___init__ : FnScope ["self", "letters", "chains"] ["self", "letters", "chains"] (defScope s_Form___init__) := ⟨rfl, rfl, rfl, by decide +kernel, rfl, by decide +kernel, by decide +kernel⟩
abbrev s_Form_letters : Stmt := inClass (top 24) 1
theorem sc_Form_letters : FnScope ["self"] ["self"] (defScope s_Form_letters) := ⟨rfl, rfl, rfl, by decide +kernel, rfl, by decide +kernel, by decide +kernel⟩
abbrev s_Form_chains : Stmt := inClass (top 24) 2
theorem sc_Form_chains : FnScope ["self"] ["self"] (defScope s_Form_chains) := ⟨rfl, rfl, rfl, by decide +kernel, rfl, by decide +kernel, by decide +kernel⟩
abbrev s_Form___call__ : Stmt := inClass (top 24) 3
theorem sc_Form___call__ : FnScope ["self", "name"] ["self", "name"] (defScope s_Form___call__) := ⟨rfl, rfl, rfl, by decide +kernel, rfl, by decide +kernel, by decide +kernel⟩
abbrev s_Form_ordered : Stmt := inClass (top 24) 4
theorem sc_Form_ordered : FnScope ["self", "names"] ["self", "names"] (defScope s_Form_ordered) := ⟨rfl, rfl, rfl, by decide +kernel, rfl, by decide +kernel, by decide +kernel⟩
abbrev s_Form___mul__ : Stmt := inClass (top 24) 5
theorem sc_Form___mul__ : FnScope ["self", "other"] ["self", "other"] (defScope s_Form___mul__) := ⟨rfl, rfl, rfl, by decide +kernel, rfl, by decide +kernel, by decide +kernel⟩
abbrev s_Form___rmul__ : Stmt := inClass (top 24) 6
theorem sc_Form___rmul__ : FnScope ["self", "other"] ["self", "other"] (defScope s_Form___rmul__) := ⟨rfl, rfl, rfl, by decide +kernel, rfl, by decide +kernel, by decide +kernel⟩
abbrev s_Form___floordiv__ : Stmt := inClass (top 24) 7
theorem sc_Form___floordiv__ : FnScope ["self", "other"] ["self", "other"] (defScope s_Form___floordiv__) := ⟨rfl, rfl, rfl, by decide +kernel, rfl, by decide +kernel, by decide +kernel⟩
abbrev s_Form___eq__ : Stmt := inClass (top 24) 8
theorem sc_Form___eq__ : FnScope ["self", "other"] ["self", "other"] (defScope s_Form___eq__) := ⟨rfl, rfl, rfl, by decide +kernel, rfl, by decide +kernel, by decide +kernel⟩
abbrev s__rise : Stmt := top 26
theorem sc__rise : FnScope ["form", "mark", "names", "row", "keys", "name", "low", "high"] ["form", "mark", "names"] (defScope s__rise) := ⟨rfl, rfl, rfl, by decide +kernel, rfl, by decide +kernel, by decide +kernel⟩
abbrev s__is_piece : Stmt := top 27
theorem sc__is_piece : FnScope ["folder", "form", "mark", "names", "ended"] ["folder", "form", "mark", "names", "ended"] (defScope s__is_piece) := ⟨rfl, rfl, rfl, by decide +kernel, rfl, by decide +kernel, by decide +kernel⟩
abbrev s__is_answer : Stmt := top 28
theorem sc__is_answer : FnScope ["value"] ["value"] (defScope s__is_answer) := ⟨rfl, rfl, rfl, by decide +kernel, rfl, by decide +kernel, by decide +kernel⟩
abbrev s__are_answers : Stmt := top 29
theorem sc__are_answers : FnScope ["value", "item", "place", "_"] ["value"] (defScope s__are_answers) := ⟨rfl, rfl, rfl, by decide +kernel, rfl, by decide +kernel, by decide +kernel⟩
abbrev s_Look___init__ : Stmt := inClass (top 30) 0
theorem sc_Look___init__ : FnScope ["self"] ["self"] (defScope s_Look___init__) := ⟨rfl, rfl, rfl, by decide +kernel, rfl, by decide +kernel, by decide +kernel⟩
abbrev s_Piece___init__ : Stmt := inClass (top 31) 0
theorem sc_Piece___init__ : FnScope ["self", "folder", "form", "mark", "names", "ended"] ["self", "folder", "form", "mark", "names", "ended"] (defScope s_Piece___init__) := ⟨rfl, rfl, rfl, by decide +kernel, rfl, by decide +kernel, by decide +kernel⟩
abbrev s_Piece_folder : Stmt := inClass (top 31) 1
theorem sc_Piece_folder : FnScope ["self"] ["self"] (defScope s_Piece_folder) := ⟨rfl, rfl, rfl, by decide +kernel, rfl, by decide +kernel, by decide +kernel⟩
abbrev s_Piece_form : Stmt := inClass (top 31) 2
theorem sc_Piece_form : FnScope ["self"] ["self"] (defScope s_Piece_form) := ⟨rfl, rfl, rfl, by decide +kernel, rfl, by decide +kernel, by decide +kernel⟩
abbrev s_Piece_mark : Stmt := inClass (top 31) 3
theorem sc_Piece_mark : FnScope ["self"] ["self"] (defScope s_Piece_mark) := ⟨rfl, rfl, rfl, by decide +kernel, rfl, by decide +kernel, by decide +kernel⟩
abbrev s_Piece_names : Stmt := inClass (top 31) 4
theorem sc_Piece_names : FnScope ["self"] ["self"] (defScope s_Piece_names) := ⟨rfl, rfl, rfl, by decide +kernel, rfl, by decide +kernel, by decide +kernel⟩
abbrev s_Piece_ended : Stmt := inClass (top 31) 5
theorem sc_Piece_ended : FnScope ["self"] ["self"] (defScope s_Piece_ended) := ⟨rfl, rfl, rfl, by decide +kernel, rfl, by decide +kernel, by decide +kernel⟩
abbrev s_Piece_says : Stmt := inClass (top 31) 6
theorem sc_Piece_says : FnScope ["self", "place"] ["self", "place"] (defScope s_Piece_says) := ⟨rfl, rfl, rfl, by decide +kernel, rfl, by decide +kernel, by decide +kernel⟩
abbrev s_Piece_standing : Stmt := inClass (top 31) 7
theorem sc_Piece_standing : FnScope ["self", "name"] ["self"] (defScope s_Piece_standing) := ⟨rfl, rfl, rfl, by decide +kernel, rfl, by decide +kernel, by decide +kernel⟩
abbrev s_Piece___contains__ : Stmt := inClass (top 31) 8
theorem sc_Piece___contains__ : FnScope ["self", "place", "key", "behind"] ["self", "place"] (defScope s_Piece___contains__) := ⟨rfl, rfl, rfl, by decide +kernel, rfl, by decide +kernel, by decide +kernel⟩
abbrev s_Piece___eq__ : Stmt := inClass (top 31) 9
theorem sc_Piece___eq__ : FnScope ["self", "other"] ["self", "other"] (defScope s_Piece___eq__) := ⟨rfl, rfl, rfl, by decide +kernel, rfl, by decide +kernel, by decide +kernel⟩
abbrev s_Ask___init__ : Stmt := inClass (top 32) 0
theorem sc_Ask___init__ : FnScope ["self", "answers"] ["self", "answers"] (defScope s_Ask___init__) := ⟨rfl, rfl, rfl, by decide +kernel, rfl, by decide +kernel, by decide +kernel⟩
abbrev s_Ask_answers : Stmt := inClass (top 32) 1
theorem sc_Ask_answers : FnScope ["self"] ["self"] (defScope s_Ask_answers) := ⟨rfl, rfl, rfl, by decide +kernel, rfl, by decide +kernel, by decide +kernel⟩
abbrev s_Ask_says : Stmt := inClass (top 32) 2
theorem sc_Ask_says : FnScope ["self", "place"] ["self", "place"] (defScope s_Ask_says) := ⟨rfl, rfl, rfl, by decide +kernel, rfl, by decide +kernel, by decide +kernel⟩
abbrev s_Ask_standing : Stmt := inClass (top 32) 3
theorem sc_Ask_standing : FnScope ["self", "place", "stands"] ["self"] (defScope s_Ask_standing) := ⟨rfl, rfl, rfl, by decide +kernel, rfl, by decide +kernel, by decide +kernel⟩
abbrev s_Ask___contains__ : Stmt := inClass (top 32) 4
theorem sc_Ask___contains__ : FnScope ["self", "place"] ["self", "place"] (defScope s_Ask___contains__) := ⟨rfl, rfl, rfl, by decide +kernel, rfl, by decide +kernel, by decide +kernel⟩
abbrev s_Ask___eq__ : Stmt := inClass (top 32) 5
theorem sc_Ask___eq__ : FnScope ["self", "other"] ["self", "other"] (defScope s_Ask___eq__) := ⟨rfl, rfl, rfl, by decide +kernel, rfl, by decide +kernel, by decide +kernel⟩
abbrev s__law_purse : Stmt := top 34
theorem sc__law_purse : FnScope ["_law_script", "_law_at", "_law_cell"] ["_law_script", "_law_at"] (defScope s__law_purse) := ⟨rfl, rfl, rfl, by decide +kernel, rfl, by decide +kernel, by decide +kernel⟩
abbrev s__law_draw : Stmt := top 35
theorem sc__law_draw : FnScope ["_law_purse_here", "_law_many", "_law_drawn", "_law_number"] ["_law_purse_here", "_law_many"] (defScope s__law_draw) := ⟨rfl, rfl, rfl, by decide +kernel, rfl, by decide +kernel, by decide +kernel⟩
abbrev s__law_name : Stmt := top 36
theorem sc__law_name : FnScope ["_law_purse_here", "_law_name_here", "_law_turn"] ["_law_purse_here"] (defScope s__law_name) := ⟨rfl, rfl, rfl, by decide +kernel, rfl, by decide +kernel, by decide +kernel⟩
abbrev s__law_names : Stmt := top 37
theorem sc__law_names : FnScope ["_law_purse_here", "_law_many", "_law_names_here", "_law_turn", "_law_name_here"] ["_law_purse_here", "_law_many"] (defScope s__law_names) := ⟨rfl, rfl, rfl, by decide +kernel, rfl, by decide +kernel, by decide +kernel⟩
abbrev s__law_form : Stmt := top 38
theorem sc__law_form : FnScope ["_law_purse_here", "_law_letters", "_law_way", "_law_at", "_law_turn", "_law_rest", "_law_many"] ["_law_purse_here"] (defScope s__law_form) := ⟨rfl, rfl, rfl, by decide +kernel, rfl, by decide +kernel, by decide +kernel⟩
abbrev s__law_key : Stmt := top 39
theorem sc__law_key : FnScope ["_law_form_here", "_law_name_here", "_law_ranks", "_law_letter"] ["_law_form_here", "_law_name_here"] (defScope s__law_key) := ⟨rfl, rfl, rfl, by decide +kernel, rfl, by decide +kernel, by decide +kernel⟩
abbrev s__law_ordered : Stmt := top 40
theorem sc__law_ordered : FnScope ["_law_form_here", "_law_names_here"] ["_law_form_here", "_law_names_here"] (defScope s__law_ordered) := ⟨rfl, rfl, rfl, by decide +kernel, rfl, by decide +kernel, by decide +kernel⟩
abbrev s__law_world : Stmt := top 41
theorem sc__law_world : FnScope ["_law_purse_here", "_law_folders", "_law_names_here", "_law_places", "_law_folder", "_law_name_here"] ["_law_purse_here"] (defScope s__law_world) := ⟨rfl, rfl, rfl, by decide +kernel, rfl, by decide +kernel, by decide +kernel⟩
abbrev s__law_piece : Stmt := top 42
theorem sc__law_piece : FnScope ["_law_purse_here", "_law_places", "_law_there", "_law_folder", "_law_form_here", "_law_way", "_law_mark", "_law_here", "_law_many", "_law_ended", "_law_place", "_law_name_here"] ["_law_purse_here", "_law_places", "_law_there"] (defScope s__law_piece) := ⟨rfl, rfl, rfl, by decide +kernel, rfl, by decide +kernel, by decide +kernel⟩
abbrev s__law_refused : Stmt := top 43
theorem sc__law_refused : FnScope ["_law_parts", "_law_given", "_law_found", "e"] ["_law_parts"] (defScope s__law_refused) := ⟨rfl, rfl, rfl, by decide +kernel, rfl, by decide +kernel, by decide +kernel⟩
abbrev s__law_forms_apart : Stmt := top 44
theorem sc__law_forms_apart : FnScope ["_law_folder", "_law_spec", "_law_names_here", "_law_few", "_law_others", "_law_letters", "_law_many", "_law_odd"] ["_law_folder", "_law_spec", "_law_names_here"] (defScope s__law_forms_apart) := ⟨rfl, rfl, rfl, by decide +kernel, rfl, by decide +kernel, by decide +kernel⟩
abbrev s__law_long : Stmt := top 45
theorem sc__law_long : FnScope ["_law_folder", "_law_spec", "_law_many", "_law_names_here", "_law_form_here", "_law_piece_here", "_law_spots", "_law_letter", "_law_name_here", "_law_spot"] ["_law_folder", "_law_spec", "_law_many"] (defScope s__law_long) := ⟨rfl, rfl, rfl, by decide +kernel, rfl, by decide +kernel, by decide +kernel⟩
abbrev s__law_five : Stmt := top 46
theorem sc__law_five : FnScope ["_law_piece_here"] ["_law_piece_here"] (defScope s__law_five) := ⟨rfl, rfl, rfl, by decide +kernel, rfl, by decide +kernel, by decide +kernel⟩
abbrev s__law_bad_folders : Stmt := top 47
theorem sc__law_bad_folders : FnScope ["_law_folder"] ["_law_folder"] (defScope s__law_bad_folders) := ⟨rfl, rfl, rfl, by decide +kernel, rfl, by decide +kernel, by decide +kernel⟩
abbrev s__law_bad : Stmt := top 48
theorem sc__law_bad : FnScope ["_law_parts", "_law_spec", "_law_folder", "_law_form_here", "_law_mark", "_law_names_here", "_law_ended", "_law_bad_here", "_law_lists", "_law_one", "_law_name_here"] ["_law_parts", "_law_spec"] (defScope s__law_bad) := ⟨rfl, rfl, rfl, by decide +kernel, rfl, by decide +kernel, by decide +kernel⟩
abbrev s__law_changed : Stmt := top 49
theorem sc__law_changed : FnScope ["_law_parts", "_law_spec", "_law_folder", "_law_form_here", "_law_mark", "_law_names_here", "_law_ended", "_law_found"] ["_law_parts", "_law_spec"] (defScope s__law_changed) := ⟨rfl, rfl, rfl, by decide +kernel, rfl, by decide +kernel, by decide +kernel⟩
abbrev s_law : Stmt := top 50
theorem sc_law : FnScope ["_law_script", "_law_at", "_law_purse_here", "_law_places", "_law_word", "_law_folder", "_law_spec", "_law_mark", "_law_names_here", "_law_ended", "_law_form_here", "_law_handed", "_law_piece_here", "_law_twin", "_law_told", "_law_parts", "_law_one"] ["_law_script"] (defScope s_law) := ⟨rfl, rfl, rfl, by decide +kernel, rfl, by decide +kernel, by decide +kernel⟩
theorem words_ : True := by
  k_with "s_P5" => first
    | ((with_reducible refine' s_var ?hv ?_); (case hv => exact rfl))
    | with_reducible first
      | refine' s_c ?_ | refine' s_op ?_ | refine' s_asg ?_ | refine' s_gname ?_ | refine' s_seq ?_ | refine' s_next ?_ | refine' s_ret ?_ | refine' s_ifS ?_ | refine' s_drop ?_ | refine' s_retN ?_
      | refine' s_test ?_ | refine' s_B ?_ | refine' q_test ?_ | refine' s_int ?_ | refine' s_cons ?_ | refine' s_nil ?_ | refine' s_call ?_ | refine' s_CB ?_ | refine' s_andT ?_ | refine' s_orT ?_ | refine' s_notT ?_
      | refine' s_andV ?_ | refine' s_orV ?_ | refine' s_notV ?_ | refine' s_ifV ?_ | refine' s_chain ?_ | refine' s_sl ?_ | refine' s_noPart ?_ | refine' s_part ?_ | refine' s_gsub ?_ | refine' s_BM ?_ | refine' s_tup ?_ | refine' s_lst ?_
      | refine' q_add ?_ | refine' q_sub ?_ | refine' q_lt ?_ | refine' q_le ?_ | refine' q_gt ?_ | refine' q_ge ?_ | refine' s_ifT ?_ | refine' s_ifF ?_
      | (refine' q_mod ?hm ?_; (case hm => first | omega | decide)) | (refine' q_fdiv ?hm ?hn ?_; (case hm => first | omega | decide); (case hn => first | omega | decide))
      | (refine' q_mulR ?hm ?_; (case hm => first | omega | decide)) | (refine' q_mulL ?hm ?_; (case hm => first | omega | decide))
    | dsimp only
  k_with "r_P5" => repeat (k_extra "s_P5")
  trivial
structure Txt (K : PySem.W.Frag) (mg : Str → Option Value) : Prop where
  n_isinstance : mg "isinstance" = none
  n_int : mg "int" = none
  n_bool : mg "bool" = none
  n_str : mg "str" = none
  n_sorted : mg "sorted" = none
  v_LETTERS : ∃ t, mg "LETTERS" = some (.str alphaS t)
  v_MOST_CHAINS : ∃ t, mg "MOST_CHAINS" = some (.int 1000 t)
  n_tuple : mg "tuple" = none
  d_is_whole : Df K mg "is_whole" s_is_whole ["value"]
  d__are_letters : Df K mg "_are_letters" s__are_letters ["value"]
  d__are_chains : Df K mg "_are_chains" s__are_chains ["value"]
/-- what a Form stores -/
def frm (l c : V) : List (Str × V) := putF "_chains" c (putF "_letters" l [])
theorem lc_ne : ¬ (("_letters" : Str) = "_chains") := by decide +kernel
theorem frm_l (l c : V) : (frm l c).lookup ("_letters" : Str) = some l := by
  unfold frm
  rw [lookup_putF, if_neg lc_ne, lookup_putF, if_pos rfl]
theorem frm_c (l c : V) : (frm l c).lookup ("_chains" : Str) = some c := by
  unfold frm
  rw [lookup_putF, if_pos rfl]
structure FormC (K : PySem.W.Frag) (mg : Str → Option Value) (C : Addr) : Prop where
  cl : Cls K C
  g : mg "Form" = some (.ref C)
  makes : PySem.W.makesIn K C = true
  kp : PySem.W.keepIn K (.ref C) = true
  nL : NoAttr K C "_letters"
  nC : NoAttr K C "_chains"
  init : ∃ (f : Addr) (fd : FuncData) (d1 d2 : List Value), PySem.W.findIn K (.ref C) "__init__" = some (some (.ref f)) ∧ PySem.W.isFn K (.ref f) = true ∧
    FunD K "__init__" "Form.__init__" (defArgs s_Form___init__) (defBody s_Form___init__) (defScope s_Form___init__) [.str alphaS, .int 1] [] f fd ∧
    Binds K fd ["self", "letters", "chains"] [] ∧ Vals [.int 1] d1 ∧ Binds K fd ["self", "letters", "chains"] d1 ∧ Vals [.str alphaS, .int 1] d2 ∧ Binds K fd ["self", "letters", "chains"] d2
  pL : ∃ (p f : Addr) (fd : FuncData), PropOf K C "letters" p f ∧ Fun K "letters" "Form.letters" s_Form_letters f fd ∧ Binds K fd ["self"] []
  pC : ∃ (p f : Addr) (fd : FuncData), PropOf K C "chains" p f ∧ Fun K "chains" "Form.chains" s_Form_chains f fd ∧ Binds K fd ["self"] []
  eq : ∃ (f : Addr) (fd : FuncData), PySem.W.findIn K (.ref C) "__eq__" = some (some (.ref f)) ∧ PySem.W.isFn K (.ref f) = true ∧ Fun K "__eq__" "Form.__eq__" s_Form___eq__ f fd ∧ Binds K fd ["self", "other"] []
  i1 : PySem.W.findIn K (.ref C) "__class__" = some (some (.builtin "object.__class__"))
  i2 : PySem.W.specialIn K (.builtin "object.__class__") "__get__" = some (some (.builtin "getset_descriptor.__get__"))
  i3 : PySem.W.takesIn K (.builtin "object.__class__") = some true
  i4 : PySem.W.mroIn K C (.type "object") = some true
  kY : PySem.W.kitOne K (.ref C) (.ref C) = some true
  kN : ∀ T, Kd T → PySem.W.kitOne K (.type T) (.ref C) = some false
  nf : ∀ T, Kd T → PySem.W.notFirst K C (.type T) = true
  nfS : PySem.W.notFirst K C (.ref C) = true
section
variable {P : Program} {w : World} {K : PySem.W.Frag} {mg : Str → Option Value} {base : Heap}
/-! ### is_whole -/
def wholeV : V → Bool
  | .int _ => true
  | _ => false
def spWhole (K : PySem.W.Frag) : Sp := fun vs H Q _ => ∃ x T, vs = [x] ∧ Pl K H x T ∧ Q (.bl (T == "int")) H
theorem ok_is_whole (T : Txt K mg) : Cal P w K mg base 1 "is_whole" (spWhole K) := by
  refine T.d_is_whole.cal sc_is_whole (fun vs H Q E h => ?_) (fun f cdv A outer s H vs Q E hr h => ?_)
  · obtain ⟨x, T, rfl, _⟩ := h
    rfl
  · obtain ⟨x, ty, rfl, hx, k⟩ := h
    refine ⟨_, (pss_one (ps_ret (pe_and (pe_callB call_isi (by rfl) T.n_isinstance (by decide +kernel) (pa_cons (pv 0) (pa_cons (pe_bltn (v := .ty "int") (by rfl) T.n_int (by decide +kernel) rfl) pa_nil))) (pe_one (pe_not (pe_callB call_isi (by rfl) T.n_isinstance (by decide +kernel) (pa_cons (pv 0) (pa_cons (pe_bltn (v := .ty "bool") (by rfl) T.n_bool (by decide +kernel) rfl) pa_nil)))))))), ?_⟩
    k_extra "r_P5"
    refine q_isi hx .int ?_
    k_extra "r_P5"
    cases hx.2 <;> k_extra "r_P5" <;> first | exact k | (refine s_if (fun _ => ?_) (fun z => absurd z (by decide)); k_extra "r_P5"; refine q_isi hx .bl ?_; k_extra "r_P5"; exact k)
/-! ### _are_letters -/
def spLetters (K : PySem.W.Frag) : Sp := fun vs H Q _ => ∃ x T, vs = [x] ∧ Pl K H x T ∧ (∀ z, x = .str z → z.length < 64 ∧ Asc z) ∧ ((∀ z, x = .str z → ¬ Letters z) → ∀ H', Same H H' → Q (.bl false) H') ∧ ((∃ z, x = .str z ∧ Letters z) → ∀ H', Same H H' → Q (.bl true) H')
theorem ok__are_letters (T : Txt K mg) : Cal P w K mg base 1 "_are_letters" (spLetters K) := by
  refine T.d__are_letters.cal sc__are_letters (fun vs H Q E h => ?_) (fun f cdv A outer s H vs Q E hr h => ?_)
  · obtain ⟨x, T, rfl, _⟩ := h
    rfl
  · obtain ⟨x, ty, rfl, hx, hz, kN, kY⟩ := h
    have hu := hr.units
    refine ⟨_, (pss_one (ps_ret (pe_and (pe_callB call_isi (by rfl) T.n_isinstance (by decide +kernel) (pa_cons (pv 0) (pa_cons (pe_bltn (v := .ty "str") (by rfl) T.n_str (by decide +kernel) rfl) pa_nil)))
      (pe_one (pe_cmpR (op_eqU hu) (pe_callB (cr_sortedTx (by rfl)) (by rfl) T.n_sorted (by decide +kernel) (pa_cons (pv 0) pa_nil)) (pe_callB (cr_sortedTx (by rfl)) (by rfl) T.n_sorted (by decide +kernel) (pa_cons (pe_glob (v := .str alphaS) (by rfl) T.v_LETTERS.choose_spec ⟨_, rfl⟩) pa_nil)) (by rfl)))))), ?_⟩
    k_extra "r_P5"
    refine q_isi hx .str ?_
    by_cases e : ty = "str"
    · obtain ⟨z, rfl⟩ := hx.of_str e
      obtain ⟨h64, asc⟩ := hz z rfl
      subst e
      k_extra "r_P5"
      refine s_if1 rfl ?_
      k_extra "r_P5"
      refine q_sortTx h64 fun ys p1 H1 n1 S1 h1 q1 q2 => ?_
      k_extra "r_P5"
      refine q_sortTx (by decide) fun ws p2 H2 n2 S2 h2 r1 r2 => ?_
      refine q_eqD (dp_lst_strs (S2 _ _ h1)) (dp_lst_strs h2) (shaped_sorted asc q1) (shaped_sorted asc_alpha r1) ?_
      rw [sorted_eq_iff q1 q2 r1 r2, alphaS_cps]
      by_cases l : Letters z
      · rw [decide_eq_true (show z.cps.toList.Perm alpha from l)]
        exact kY ⟨z, rfl, l⟩ _ (S1.trans S2)
      · rw [decide_eq_false (show ¬ z.cps.toList.Perm alpha from l)]
        exact kN (fun z' e => by cases e; exact l) _ (S1.trans S2)
    · have e2 : subKd ty "str" = false := by
        cases hx.2 <;> first | rfl | exact absurd rfl e
      rw [e2]
      k_extra "r_P5"
      refine kN (fun z ez => ?_) H (Same.refl H)
      subst ez
      exact absurd hx.is_str e
/-! ### _are_chains -/
def spChains (K : PySem.W.Frag) : Sp := fun vs H Q _ => ∃ x T, vs = [x] ∧ Pl K H x T ∧ ((∀ i, x = .int i → ¬ (1 ≤ i ∧ i ≤ 1000)) → Q (.bl false) H) ∧ ((∃ i, x = .int i ∧ 1 ≤ i ∧ i ≤ 1000) → Q (.bl true) H)
theorem ok__are_chains (T : Txt K mg) : Cal P w K mg base 2 "_are_chains" (spChains K) := by
  refine T.d__are_chains.cal sc__are_chains (fun vs H Q E h => ?_) (fun f cdv A outer s H vs Q E hr h => ?_)
  · obtain ⟨x, T, rfl, _⟩ := h
    rfl
  · obtain ⟨x, ty, rfl, hx, kN, kY⟩ := h
    refine ⟨_, (pss_one (ps_ret (pe_and (pe_c (ok_is_whole T) hr (by decide) rfl (pa_cons (pv 0) pa_nil)) (pe_one (pe_chain op_leI op_leI pe_int (pv 0) (pe_glob (v := .int 1000) (by rfl) T.v_MOST_CHAINS.choose_spec ⟨_, rfl⟩)))))), ?_⟩
    k_extra "r_P5"
    refine ⟨x, ty, rfl, hx, ?_⟩
    by_cases e : ty = "int"
    · obtain ⟨i, rfl⟩ := hx.of_int e
      subst e
      k_extra "r_P5"
      refine s_if1 rfl ?_
      k_extra "r_P5"
      by_cases h1 : 1 ≤ i
      · rw [decide_eq_true h1]
        k_extra "r_P5"
        by_cases h2 : i ≤ 1000
        · rw [decide_eq_true h2]
          exact kY ⟨i, rfl, h1, h2⟩
        · rw [decide_eq_false h2]
          exact kN fun j ej => by cases ej; omega
      · rw [decide_eq_false h1]
        k_extra "r_P5"
        exact kN fun j ej => by cases ej; omega
    · k_extra "r_P5"
      refine s_if0 (beq_eq_false_iff_ne.mpr e) ?_
      refine kN fun i ei => ?_
      subst ei
      exact absurd hx.is_int e
/-! ### Form.__init__ -/
def Valid (l c : V) : Prop := (∃ z, l = .str z ∧ Letters z) ∧ ∃ i, c = .int i ∧ 1 ≤ i ∧ i ≤ 1000
theorem valid_dec (l c : V) : Valid l c ∨ ¬ Valid l c := Classical.em _
def spFormInit (K : PySem.W.Frag) (C CI : Addr) : Sp := fun vs H Q E => ∃ p dx l c T1 T2, vs = [.ref p, l, c] ∧ H p = some (.ins C dx []) ∧ Pl K H l T1 ∧ Pl K H c T2 ∧ (∀ z, l = .str z → z.length < 64 ∧ Asc z) ∧
  (Valid l c → ∀ H', H' p = some (.ins C dx (frm l c)) → But p H H' → Q .non H') ∧
  (¬ Valid l c → ∀ H' t d, Same H H' → H t = none → H d = none → H' d = some (.xd [("value", .ref t)]) → H' t = some (.tup [l, c]) → E (.ref CI) (some d) H')
theorem ok_form_init {C CI f : Addr} {fd : FuncData} (T : Txt K mg) (FC : FormC K mg C) (XI : ExcF K mg "InvalidForm" "value" CI)
    (F : FunD K "__init__" "Form.__init__" (defArgs s_Form___init__) (defBody s_Form___init__) (defScope s_Form___init__) [.str alphaS, .int 1] [] f fd) :
    FnOk P w K mg base (L2.CX P w) 4 f fd ["self", "letters", "chains"] (spFormInit K C CI) := by
  refine F.ok sc_Form___init__ (fun vs H Q E h => ?_) (fun cdv A outer s H vs Q E hr h => ?_)
  · obtain ⟨p, dx, l, c, _, _, rfl, _⟩ := h
    rfl
  · obtain ⟨p, dx, l, c, T1, T2, rfl, hp, hl, hc, hz, kY, kN⟩ := h
    refine ⟨_, (pss_cons (ps_if (pt_not (PW.pt (pw_and (pt_val (pe_c (ok__are_letters T) hr (by decide) rfl (pa_cons (pv 1) pa_nil))) (pw_and1 (pt_val (pe_c (ok__are_chains T) hr (by decide) rfl (pa_cons (pv 2) pa_nil))))))) (pss_one (ps_raise1 rfl XI hr (by decide) (takes_of rfl rfl rfl rfl) (pe_tup (pa_cons (pv 1) (pa_cons (pv 2) pa_nil))))) pss_nil)
      (pss_cons (ps_fld (pv 0) (pv 1) rfl)
      (pss_one (ps_fld (pv 0) (pv 2) rfl)))), ?_⟩
    have raise : ¬ Valid l c → ∀ H1, Same H H1 → ∀ Z : Ends, tRaise1 CI "value" (fun cls d σ H => E cls d H) (tTup (tCons (tVar 1) (tCons (tVar 2) tNil))) Z (start ["self", "letters", "chains"] [.ref p, l, c]) H1 := fun nv H1 S1 Z => by
      refine s_raise1 ?_
      k_extra "r_P5"
      refine ⟨by show 2 ≤ sizeLine; decide, fun t nt d H3 nd S3 hd => ?_⟩
      have n1 : H1 d = none := by
        cases e : H1 d with
        | none => rfl
        | some o => exact absurd ((Same.new nt) d o e) (by rw [nd]; intro z; cases z)
      exact kN nv H3 t d (fun b o e => S3 _ _ (Same.new nt _ _ (S1 _ _ e))) (S1.free nt) (S1.free n1) hd (S3 _ _ upd_same)
    k_extra "r_P5"
    refine ⟨l, T1, rfl, hl, hz, fun hno H1 S1 => ?_, fun hyes H1 S1 => ?_⟩
    · k_extra "r_P5"
      exact raise (fun v => by obtain ⟨⟨z, ez, lz⟩, _⟩ := v; exact hno z ez lz) H1 S1 ⟨fun _ _ => False, Q, fun _ _ => False, fun _ _ => False⟩
    · k_extra "r_P5"
      refine ⟨c, T2, rfl, hc.mono S1, fun hno => ?_, fun hyc => ?_⟩
      · k_extra "r_P5"
        exact raise (fun v => by obtain ⟨_, i, ei, li⟩ := v; exact hno i ei li) H1 S1 ⟨fun _ _ => False, Q, fun _ _ => False, fun _ _ => False⟩
      · k_extra "r_P5"
        refine ⟨_, rfl, _, rfl, p, C, dx, [], rfl, S1 _ _ hp, FC.cl, FC.nL, (by show 0 < 1000; decide), ?_⟩
        refine ⟨_, rfl, _, rfl, p, C, dx, _, rfl, upd_same, FC.cl, FC.nC, (by show 1 < 1000; decide), ?_⟩
        refine kY ⟨hyes, hyc⟩ _ upd_same fun b o n e => ?_
        rw [upd_ne n, upd_ne n]
        exact S1 _ _ e
/-! ### a form that stands -/
def FormAt (C : Addr) (H : Hp) (a : Addr) (z : Str) (c : Int) : Prop := ∃ dx, H a = some (.ins C dx (frm (.str z) (.int c)))
theorem FormAt.mono {C : Addr} {H H' : Hp} {a : Addr} {z : Str} {c : Int} (S : Same H H') (h : FormAt C H a z c) : FormAt C H' a z c := let ⟨dx, e⟩ := h; ⟨dx, S _ _ e⟩
theorem FormAt.ty {C : Addr} {H : Hp} {a : Addr} {z : Str} {c : Int} (FC : FormC K mg C) (h : FormAt C H a z c) : TyX K H (.ref a) (.ref C) := let ⟨_, e⟩ := h; .base (.ins e FC.cl FC.i1 FC.i2 FC.i3 FC.i4)
theorem ok_form_letters {C f : Addr} {fd : FuncData} (FC : FormC K mg C) (F : Fun K "letters" "Form.letters" s_Form_letters f fd) : FnOk P w K mg base CX0 1 f fd ["self"] (getSp C "_letters") := by
  obtain ⟨oc, od, kV, doc, pm, an, cdv, ct, osl, rfl, lk, hcd⟩ := F.ex
  exact fn_getter lk hcd sc_Form_letters rfl rfl FC.cl FC.nL
theorem ok_form_chains {C f : Addr} {fd : FuncData} (FC : FormC K mg C) (F : Fun K "chains" "Form.chains" s_Form_chains f fd) : FnOk P w K mg base CX0 1 f fd ["self"] (getSp C "_chains") := by
  obtain ⟨oc, od, kV, doc, pm, an, cdv, ct, osl, rfl, lk, hcd⟩ := F.ex
  exact fn_getter lk hcd sc_Form_chains rfl rfl FC.cl FC.nC
end
section
variable {X : Cx} {C : Addr} {e : Expr} {pos : Pos} {te : TE} {k : Nat}
theorem pe_letters (FC : FormC X.K X.mg C) (hr : Room k X.A) (hk : 2 ≤ k) (he : PE X e te) (hab : attributeBase e "letters" X.env (eval e X.env) = eval e X.env := by rfl) : PE X (.Attribute e "letters" pos) (tProp C (getSp C "_letters") [] E0 te) := by
  obtain ⟨p, f, fd, hp, F, b⟩ := FC.pL
  exact pe_prop he FC.cl hp (ok_form_letters FC F) (hr.mono hk) b .nil pass0 hab
theorem pe_chains (FC : FormC X.K X.mg C) (hr : Room k X.A) (hk : 2 ≤ k) (he : PE X e te) (hab : attributeBase e "chains" X.env (eval e X.env) = eval e X.env := by rfl) : PE X (.Attribute e "chains" pos) (tProp C (getSp C "_chains") [] E0 te) := by
  obtain ⟨p, f, fd, hp, F, b⟩ := FC.pC
  exact pe_prop he FC.cl hp (ok_form_chains FC F) (hr.mono hk) b .nil pass0 hab
theorem s_letters {σ : L2.St} {H : Hp} {Q : VK} (h : te σ H fun x H1 => ∃ a z c, x = .ref a ∧ FormAt C H1 a z c ∧ Q (.str z) H1) : ∃ Q', te σ H Q' ∧ ∀ x H1, Q' x H1 → (∃ a dx fs, x = .ref a ∧ H1 a = some (.ins C dx fs) ∧ getSp C "_letters" (.ref a :: []) H1 Q E0) :=
  ⟨_, h, fun x H1 ⟨a, z, c, ex, ⟨dx, ea⟩, q⟩ => ⟨a, dx, _, ex, ea, a, dx, _, _, rfl, ea, frm_l _ _, q⟩⟩
end
theorem q_letters {C a : Addr} {H : Hp} {Q : VK} {z : Str} {c : Int} (h : FormAt C H a z c) (q : Q (.str z) H) : ∃ b dx fs, V.ref a = .ref b ∧ H b = some (.ins C dx fs) ∧ getSp C "_letters" (.ref b :: []) H Q E0 :=
  let ⟨dx, e⟩ := h; ⟨a, dx, _, rfl, e, a, dx, _, _, rfl, e, frm_l _ _, q⟩
theorem q_chains {C a : Addr} {H : Hp} {Q : VK} {z : Str} {c : Int} (h : FormAt C H a z c) (q : Q (.int c) H) : ∃ b dx fs, V.ref a = .ref b ∧ H b = some (.ins C dx fs) ∧ getSp C "_chains" (.ref b :: []) H Q E0 :=
  let ⟨dx, e⟩ := h; ⟨a, dx, _, rfl, e, a, dx, _, _, rfl, e, frm_c _ _, q⟩
theorem s_prop {C : Addr} {sp : Sp} {dvs : List V} {E : XK} {ta : TE} {σ : L2.St} {H : Hp} {Q : VK} (h : ta σ H fun x H1 => ∃ a dx fs, x = .ref a ∧ H1 a = some (.ins C dx fs) ∧ sp (.ref a :: dvs) H1 Q E) : tProp C sp dvs E ta σ H Q := h
section
variable {P : Program} {w : World} {K : PySem.W.Frag} {mg : Str → Option Value} {base : Heap}
/-! ### Form.__eq__ -/
def spFormEq (K : PySem.W.Frag) (C : Addr) : Sp := fun vs H Q _ => ∃ a y z c, vs = [.ref a, y] ∧ FormAt C H a z c ∧ ((∃ b z' c', y = .ref b ∧ FormAt C H b z' c' ∧ Q (.bl (decide (z = z' ∧ c = c'))) H) ∨ ∃ T, Pl K H y T ∧ Q (.bl false) H)
theorem ok_form_eq {C f : Addr} {fd : FuncData} (T : Txt K mg) (FC : FormC K mg C) (F : Fun K "__eq__" "Form.__eq__" s_Form___eq__ f fd) : FnOk P w K mg base CX0 3 f fd ["self", "other"] (spFormEq K C) := by
  refine F.ok sc_Form___eq__ (fun vs H Q E h => ?_) (fun cdv A outer s H vs Q E hr h => ?_)
  · obtain ⟨a, y, z, c, rfl, _⟩ := h
    rfl
  · obtain ⟨a, y, z, c, rfl, ha, hy⟩ := h
    refine ⟨_, (pss_one (ps_ret (pe_and (pe_callB call_isi (by rfl) T.n_isinstance (by decide +kernel) (pa_cons (pv 1) (pa_cons (pe_glob (v := .ref C) (by rfl) FC.g rfl) pa_nil)))
      (pe_and (pe_cmpR op_eq (pe_letters FC hr (by decide) (pv 0)) (pe_letters FC hr (by decide) (pv 1)) (by rfl)) (pe_one (pe_cmpR op_eq (pe_chains FC hr (by decide) (pv 0)) (pe_chains FC hr (by decide) (pv 1)) (by rfl))))))), ?_⟩
    k_extra "r_P5"
    rcases hy with ⟨b, z', c', rfl, hb, q⟩ | ⟨ty, hy, q⟩
    · refine ⟨.ref b, .ref C, .ref C, .ref C, true, rfl, .own C, hb.ty FC, FC.kY, ?_⟩
      k_extra "r_P5"
      refine s_prop ?_
      k_extra "r_P5"
      refine q_letters ha ?_
      refine s_prop ?_
      k_extra "r_P5"
      refine q_letters hb ⟨rfl, ?_⟩
      k_extra "r_P5"
      by_cases e1 : z = z'
      · subst e1
        refine s_if1 (by simp) ?_
        refine s_prop ?_
        k_extra "r_P5"
        refine q_chains ha ?_
        refine s_prop ?_
        k_extra "r_P5"
        refine q_chains hb ⟨rfl, ?_⟩
        have : decide (V.int c = V.int c') = decide (z = z ∧ c = c') := decide_eq_decide.mpr ⟨fun e => ⟨rfl, by cases e; rfl⟩, fun e => by rw [e.2]⟩
        rw [this]
        exact q
      · refine s_if0 (by simp [e1]) ?_
        have : decide (z = z' ∧ c = c') = false := decide_eq_false fun e => e1 e.1
        rw [this] at q
        exact q
    · refine ⟨y, .ref C, .type ty, .ref C, false, rfl, .own C, hy.1, FC.kN _ hy.2, ?_⟩
      k_extra "r_P5"
      exact q
end
end Bt
namespace Bt
open PySem PySem.Spec PyProof.Rows L2
theorem app_cps (a b : Str) : (a ++ b).cps.toList = a.cps.toList ++ b.cps.toList := by
  show (a.cps ++ b.cps).toList = _
  simp
theorem len_cps (z : Str) : z.length = z.cps.toList.length := (Array.length_toList).symm
theorem app_len (a b : Str) : (a ++ b).length = a.length + b.length := by
  rw [len_cps, len_cps, len_cps, app_cps, List.length_append]
theorem cut_cps (z : Str) (lo hi : Option Int) : (cutS z lo hi).cps.toList = (z.cps.toList.drop (HT.sIx z.length 0 lo)).take (HT.sIx z.length z.length hi - HT.sIx z.length 0 lo) := rfl
theorem cut_from {z : Str} {i : Int} (h0 : 0 ≤ i) : (cutS z (some i) none).cps.toList = z.cps.toList.drop i.toNat := by
  obtain ⟨k, rfl⟩ : ∃ k : Nat, i = k := ⟨i.toNat, by omega⟩
  rw [cut_cps, HT.sIx_nat, HT.sIx_none, Int.toNat_natCast, len_cps]
  rcases Nat.le_total k z.cps.toList.length with h | h
  · rw [Nat.min_eq_left h, List.take_of_length_le (by rw [List.length_drop]; omega)]
  · rw [Nat.min_eq_right h, List.drop_of_length_le (Nat.le_refl _), List.drop_of_length_le h, List.take_nil]
theorem cut_to {z : Str} {j : Int} (h0 : 0 ≤ j) : (cutS z none (some j)).cps.toList = z.cps.toList.take j.toNat := by
  obtain ⟨k, rfl⟩ : ∃ k : Nat, j = k := ⟨j.toNat, by omega⟩
  rw [cut_cps, HT.sIx_nat, HT.sIx_none, Int.toNat_natCast, len_cps, List.drop_zero, Nat.sub_zero]
  rcases Nat.le_total k z.cps.toList.length with h | h
  · rw [Nat.min_eq_left h]
  · rw [Nat.min_eq_right h, List.take_of_length_le (Nat.le_refl _), List.take_of_length_le h]
theorem cut_mid {z : Str} {i j : Int} (h0 : 0 ≤ i) (h1 : 0 ≤ j) (h2 : i ≤ z.length) (h3 : j ≤ z.length) : (cutS z (some i) (some j)).cps.toList = (z.cps.toList.drop i.toNat).take (j.toNat - i.toNat) := by
  obtain ⟨k, rfl⟩ : ∃ k : Nat, i = k := ⟨i.toNat, by omega⟩
  obtain ⟨m, rfl⟩ : ∃ k : Nat, j = k := ⟨j.toNat, by omega⟩
  rw [cut_cps, HT.sIx_nat, HT.sIx_nat, Int.toNat_natCast, Int.toNat_natCast, Nat.min_eq_left (by omega), Nat.min_eq_left (by omega)]
theorem Letters.len {z : Str} (h : Letters z) : z.length = 26 := by rw [len_cps, h.length_eq, alpha_len]
theorem Letters.asc {z : Str} (h : Letters z) : Asc z := fun c hc => by
  have := (mem_alpha.mp (h.mem_iff.mp hc)).2
  omega
theorem letters_alpha : Letters alphaS := by unfold Letters; rw [alphaS_cps]
theorem letters_rev : Letters (revT alphaS) := by decide +kernel
theorem perm_rot {l : List Nat} (k : Nat) : (l.drop k ++ l.take k).Perm l := by
  refine List.perm_append_comm.trans ?_
  rw [List.take_append_drop]
theorem letters_rot {z a b : Str} {k : Nat} (h : Letters z) (ha : a.cps.toList = z.cps.toList.drop k) (hb : b.cps.toList = z.cps.toList.take k) : Letters (a ++ b) := by
  unfold Letters
  rw [app_cps, ha, hb]
  exact (perm_rot k).trans h
theorem perm_pull {l : List Nat} {t a : Nat} {c : Nat} (hta : t ≤ a) (hc : l[a]? = some c) : (l.take t ++ [c] ++ ((l.drop t).take (a - t) ++ l.drop (a + 1))).Perm l := by
  obtain ⟨ha, ec⟩ := List.getElem?_eq_some_iff.mp hc
  have e1 : l = l.take t ++ ((l.drop t).take (a - t) ++ (c :: l.drop (a + 1))) := by
    have h1 : l.drop t = (l.drop t).take (a - t) ++ (l.drop t).drop (a - t) := (List.take_append_drop _ _).symm
    have h2 : (l.drop t).drop (a - t) = l.drop a := by rw [List.drop_drop]; congr 1; omega
    have h3 : l.drop a = c :: l.drop (a + 1) := by rw [List.drop_eq_getElem_cons ha, ec]
    rw [← h3, ← h2, ← h1, List.take_append_drop]
  have e2 : (l.take t ++ [c] ++ ((l.drop t).take (a - t) ++ l.drop (a + 1))).Perm (l.take t ++ ((l.drop t).take (a - t) ++ (c :: l.drop (a + 1)))) := by
    rw [List.append_assoc]
    refine List.Perm.append_left _ ?_
    show ([c] ++ ((l.drop t).take (a - t) ++ l.drop (a + 1))).Perm _
    exact (List.perm_middle (a := c) (l₁ := (l.drop t).take (a - t)) (l₂ := l.drop (a + 1))).symm
  rw [← e1] at e2
  exact e2
theorem letters_pull {z x y r : Str} {t a c : Nat} (h : Letters z) (hta : t ≤ a) (hc : z.cps.toList[a]? = some c) (hx : x.cps.toList = z.cps.toList.take t) (hy : y.cps.toList = [c]) (hr : r.cps.toList = (z.cps.toList.drop t).take (a - t) ++ z.cps.toList.drop (a + 1)) : Letters (x ++ y ++ r) := by
  unfold Letters
  rw [app_cps, app_cps, hx, hy, hr]
  exact (perm_pull hta hc).trans h
end Bt
namespace Bt
open PySem PySem.Spec PyProof.Rows L2
theorem words2_ : True := by
  k_with "s_D5" => first
    | ((with_reducible refine' s_var ?hv ?_); (case hv => exact rfl))
    | with_reducible first
      | refine' s_c ?_ | refine' s_op ?_ | refine' s_asg ?_ | refine' s_gname ?_ | refine' s_seq ?_ | refine' s_next ?_ | refine' s_ret ?_ | refine' s_ifS ?_ | refine' s_drop ?_ | refine' s_retN ?_
      | refine' s_test ?_ | refine' s_B ?_ | refine' q_test ?_ | refine' s_int ?_ | refine' s_cons ?_ | refine' s_nil ?_ | refine' s_call ?_ | refine' s_CB ?_ | refine' s_andT ?_ | refine' s_orT ?_ | refine' s_notT ?_
      | refine' s_andV ?_ | refine' s_orV ?_ | refine' s_notV ?_ | refine' s_ifV ?_ | refine' s_chain ?_ | refine' s_sl ?_ | refine' s_noPart ?_ | refine' s_part ?_ | refine' s_gsub ?_ | refine' s_BM ?_ | refine' s_tup ?_ | refine' s_lst ?_
      | refine' q_add ?_ | refine' q_sub ?_ | refine' q_lt ?_ | refine' q_le ?_ | refine' q_gt ?_ | refine' q_ge ?_ | refine' s_ifT ?_ | refine' s_ifF ?_
      | (refine' q_mod ?hm ?_; (case hm => first | omega | decide)) | (refine' q_fdiv ?hm ?hn ?_; (case hm => first | omega | decide); (case hn => first | omega | decide))
      | (refine' q_mulR ?hm ?_; (case hm => first | omega | decide)) | (refine' q_mulL ?hm ?_; (case hm => first | omega | decide))
    | dsimp only
  k_with "r_D5" => repeat (k_extra "s_D5")
  trivial
/-! ### the purse -/
def Purse (H : Hp) (p : Addr) : Prop := ∃ a b c : Int, H p = some (.lst [.int a, .int b, .int c]) ∧ 0 ≤ b ∧ b < 2147483629
theorem Purse.mono {H H' : Hp} {p : Addr} (S : Same H H') (h : Purse H p) : Purse H' p := let ⟨a, b, c, e, h⟩ := h; ⟨a, b, c, S _ _ e, h⟩
def spDraw : Sp := fun vs H Q _ => ∃ (p : Addr) (m : Int), vs = [.ref p, .int m] ∧ Purse H p ∧ 0 < m ∧ m < 1073741824 ∧ ∀ n H', 0 ≤ n → n < m → Purse H' p → But p H H' → Q (.int n) H'
structure TxtL (K : PySem.W.Frag) (mg : Str → Option Value) : Prop where
  n_range : mg "range" = none
  n_sum : mg "sum" = none
  d__law_purse : Df K mg "_law_purse" s__law_purse ["_law_script", "_law_at"]
  d__law_draw : Df K mg "_law_draw" s__law_draw ["_law_purse_here", "_law_many"]
  d__law_form : Df K mg "_law_form" s__law_form ["_law_purse_here"]
section
variable {P : Program} {w : World} {K : PySem.W.Frag} {mg : Str → Option Value} {base : Heap}
theorem ok__law_draw (L : TxtL K mg) : Cal P w K mg base 1 "_law_draw" spDraw := by
  refine L.d__law_draw.cal sc__law_draw (fun vs H Q E h => ?_) (fun f cdv A outer s H vs Q E hr h => ?_)
  · obtain ⟨p, m, rfl, _⟩ := h
    rfl
  · obtain ⟨p, m, rfl, ⟨a, b, c, hp, b0, b1⟩, m0, m1, k⟩ := h
    refine ⟨_, (pss_cons (ps_if (pt_cmpR op_gtI (pe_ix ix_seq (pv 0) pe_int (fun _ _ => rfl)) pe_int (by rfl)) (pss_cons (ps_set (i := 2) sc__law_draw.nd rfl (.inl rfl) (pe_op op_modU (pe_ix ix_seq (pv 0) pe_int (fun _ _ => rfl)) (pv 1)))
        (pss_cons (ps_asg (pe_op op_fdivU (pe_ix ix_seq (pv 0) pe_int (fun _ _ => rfl)) (pv 1)) (pg_sub (pv 0) pe_int set_list))
        (pss_one (ps_ret (pv 2))))) pss_nil)
      (pss_cons (ps_asg (pe_op op_addU (pe_ix ix_seq (pv 0) pe_int (fun _ _ => rfl)) pe_int) (pg_sub (pv 0) pe_int set_list))
      (pss_cons (ps_set (i := 3) sc__law_draw.nd rfl (.inl rfl) (pe_op op_modU (pe_op op_addU (pe_op op_addU (pe_op op_mulU (pe_ix ix_seq (pv 0) pe_int (fun _ _ => rfl)) pe_int) (pe_op op_mulU (pe_ix ix_seq (pv 0) pe_int (fun _ _ => rfl)) pe_int)) pe_int) pe_int))
      (pss_cons (ps_set (i := 3) sc__law_draw.nd rfl (.inl rfl) (pe_op op_modU (pe_op op_addU (pe_op op_mulU (pv 3) (pv 3)) (pe_ix ix_seq (pv 0) pe_int (fun _ _ => rfl))) pe_int))
      (pss_cons (ps_set (i := 3) sc__law_draw.nd rfl (.inl rfl) (pe_op op_modU (pe_op op_addU (pe_op op_mulU (pv 3) (pv 3)) pe_int) pe_int))
      (pss_one (ps_ret (pe_op op_modU (pe_op op_fdivU (pv 3) pe_int) (pv 1))))))))), ?_⟩
    k_extra "r_D5"
    refine q_ixL (SqL.of hp) (at_of (j := 0) rfl rfl) ?_
    k_extra "r_D5"
    refine s_ifD (fun c0 => ?_) (fun c0 => ?_)
    · k_extra "r_D5"
      refine q_ixL (SqL.of hp) (at_of (j := 0) rfl rfl) ?_
      k_extra "r_D5"
      refine q_ixL (SqL.of hp) (at_of (j := 0) rfl rfl) ?_
      k_extra "r_D5"
      refine q_setL hp rfl ?_
      k_extra "r_D5"
      exact k _ _ (Int.emod_nonneg _ (by omega)) (Int.emod_lt_of_pos _ m0) ⟨_, _, _, upd_same, b0, b1⟩ But.upd
    · k_extra "r_D5"
      refine q_ixL (SqL.of hp) (at_of (j := 2) rfl rfl) ?_
      k_extra "r_D5"
      refine q_setL hp rfl ?_
      have hp2 : (upd H p (.lst ([V.int a, V.int b, V.int c].set 2 (.int (c + 1))))) p = some (.lst [.int a, .int b, .int (c + 1)]) := upd_same
      k_extra "r_D5"
      refine q_ixL (SqL.of hp2) (at_of (j := 1) rfl rfl) ?_
      k_extra "r_D5"
      refine q_ixL (SqL.of hp2) (at_of (j := 2) rfl rfl) ?_
      k_extra "r_D5"
      have g1 := Int.emod_nonneg (b * 48271 + (c + 1) * 1299709 + 907) (show (2147483629 : Int) ≠ 0 by decide)
      have g2 := Int.emod_lt_of_pos (b * 48271 + (c + 1) * 1299709 + 907) (show (0 : Int) < 2147483629 by decide)
      generalize (b * 48271 + (c + 1) * 1299709 + 907) % 2147483629 = x1 at g1 g2 ⊢
      k_extra "r_D5"
      refine q_ixL (SqL.of hp2) (at_of (j := 2) rfl rfl) ?_
      k_extra "r_D5"
      have g3 := Int.emod_nonneg (x1 * x1 + (c + 1)) (show (2147483587 : Int) ≠ 0 by decide)
      have g4 := Int.emod_lt_of_pos (x1 * x1 + (c + 1)) (show (0 : Int) < 2147483587 by decide)
      generalize (x1 * x1 + (c + 1)) % 2147483587 = x2 at g3 g4 ⊢
      k_extra "r_D5"
      exact k _ _ (Int.emod_nonneg _ (by omega)) (Int.emod_lt_of_pos _ m0) ⟨_, _, _, hp2, b0, b1⟩ But.upd
theorem cutV_ints {ns : List Int} {lo hi : Option Int} : ∃ ms : List Int, cutV (ns.map V.int) lo hi = ms.map V.int := ⟨_, by unfold cutV; rw [← List.map_drop, ← List.map_take]⟩
theorem big_pos : (0 : Int) < ((10 : Int) ^ (60 : Int).toNat) ^ (10 : Int).toNat := Int.pow_pos (Int.pow_pos (by decide))
def spPurse (K : PySem.W.Frag) : Sp := fun vs H Q _ => ∃ (a : Addr) (ns : List Int) (k : Int), vs = [.ref a, .int k] ∧ SqL K H a (ns.map V.int) ∧ 0 ≤ k ∧ k < 1000 ∧ ∀ p H', H p = none → Same H H' → Purse H' p → Q (.ref p) H'
theorem ok__law_purse (T : Txt K mg) (L : TxtL K mg) : Cal P w K mg base 1 "_law_purse" (spPurse K) := by
  refine L.d__law_purse.cal sc__law_purse (fun vs H Q E h => ?_) (fun f cdv A outer s H vs Q E hr h => ?_)
  · obtain ⟨a, ns, k, rfl, _⟩ := h
    rfl
  · obtain ⟨a, ns, at_, rfl, hs, k0, k1, k⟩ := h
    refine ⟨_, (pss_cons (ps_set (i := 2) sc__law_purse.nd rfl (.inl rfl) (pe_callTy call_int1 (by rfl) T.n_int (by decide +kernel) (pa_cons (pe_callB (cr_sum rfl) (by rfl) L.n_sum (by decide +kernel) (pa_cons (pe_slice sl_list (pv 0) (po_some (pv 1)) (po_some (pe_op op_addU (pv 1) pe_int))) pa_nil)) pa_nil)))
      (pss_one (ps_ret (pe_lst (pa_cons (pe_op op_mulU (pe_callTy call_int1 (by rfl) T.n_int (by decide +kernel) (pa_cons (pe_cmpR op_geI (pv 2) (pe_op op_powW pe_int pe_int) (by rfl)) pa_nil)) (pe_op op_modU (pv 2) (pe_op op_powW (pe_op op_powW pe_int pe_int) pe_int))) (pa_cons (pe_op op_modU (pv 2) pe_int) (pa_cons (pe_op op_mulU pe_int (pv 1)) pa_nil))))))), ?_⟩
    k_extra "r_D5"
    refine ⟨a, _, rfl, hs, fun l hl => ?_⟩
    obtain ⟨ms, em⟩ := cutV_ints (ns := ns) (lo := some at_) (hi := some (at_ + 1))
    rw [em]
    k_extra "r_D5"
    refine ⟨l, ms, rfl, SqL.of upd_same, ?_⟩
    k_extra "r_D5"
    refine .inl ⟨_, rfl, ?_⟩
    k_extra "r_D5"
    refine ⟨_, _, rfl, rfl, ⟨by decide, by decide +kernel⟩, ?_⟩
    k_extra "r_D5"
    refine .inr ⟨_, rfl, ?_⟩
    k_extra "r_D5"
    refine ⟨_, _, rfl, rfl, ⟨by decide, by decide +kernel⟩, ?_⟩
    k_extra "r_D5"
    refine ⟨_, _, rfl, rfl, ⟨by decide, by decide +kernel⟩, ?_⟩
    refine q_mod big_pos ?_
    refine q_mulL ?_ ?_
    · split <;> decide
    k_extra "r_D5"
    refine ⟨by show 3 ≤ sizeLine; decide, fun p np => ?_⟩
    refine k p _ (by rw [upd_ne (fun e => by rw [e, upd_same] at np; cases np)] at np; exact np) (fun b o e => ?_) ⟨_, _, _, upd_same, Int.emod_nonneg _ (by decide), Int.emod_lt_of_pos _ (by decide)⟩
    exact Same.new np _ _ (Same.new hl _ _ e)
/-! ### the form's draw -/
def spForm : Sp := fun vs H Q _ => ∃ (p : Addr), vs = [.ref p] ∧ Purse H p ∧ ∀ t H' z c, H t = none → H' t = some (.tup [.str z, .int c]) → Letters z → 1 ≤ c → c ≤ 1000 → Purse H' p → But p H H' → Q (.ref t) H'
theorem ok__law_form (T : Txt K mg) (L : TxtL K mg) : Cal P w K mg base 2 "_law_form" spForm := by
  refine L.d__law_form.cal sc__law_form (fun vs H Q E h => ?_) (fun f cdv A outer s H vs Q E hr h => ?_)
  · obtain ⟨p, rfl, _⟩ := h
    rfl
  · obtain ⟨p, rfl, hp, k⟩ := h
    refine ⟨_, (pss_cons (ps_set (i := 1) sc__law_form.nd rfl (.inl rfl) pe_str)
      (pss_cons (ps_set (i := 2) sc__law_form.nd rfl (.inl rfl) (pe_c (ok__law_draw L) hr (by decide) rfl (pa_cons (pv 0) (pa_cons pe_int pa_nil))))
      (C8.pss_cut (ps_if (pt_cmpR op_eq (pv 2) pe_int (by rfl)) (pss_one (ps_set (i := 1) sc__law_form.nd rfl (.inl rfl) (pe_revS (pv 1)))) pss_nil)
      (C8.pss_cut (ps_if (pt_cmpR op_eq (pv 2) pe_int (by rfl)) (pss_cons (ps_set (i := 3) sc__law_form.nd rfl (.inl rfl) (pe_c (ok__law_draw L) hr (by decide) rfl (pa_cons (pv 0) (pa_cons pe_int pa_nil))))
        (pss_one (ps_set (i := 1) sc__law_form.nd rfl (.inl rfl) (pe_op op_addU (pe_slice sl_str (pv 1) (po_some (pv 3)) po_none) (pe_slice sl_str (pv 1) po_none (po_some (pv 3))))))) pss_nil)
      (C8.pss_cut (ps_if (pt_cmpR op_eq (pv 2) pe_int (by rfl)) (pss_one (ps_for PassesOwn.never rfl (pi_range1 rfl L.n_range (pa_cons pe_int pa_nil)) (pg_name (i := 4) sc__law_form.nd rfl (.inl rfl))
          (pss_cons (ps_set (i := 3) sc__law_form.nd rfl (.inl rfl) (pe_op op_addU (pv 4) (pe_c (ok__law_draw L) hr (by decide) rfl (pa_cons (pv 0) (pa_cons (pe_op op_subU pe_int (pv 4)) pa_nil)))))
            (pss_cons (ps_set (i := 5) sc__law_form.nd rfl (.inl rfl) (pe_op op_addU (pe_slice sl_str (pv 1) (po_some (pv 4)) (po_some (pv 3))) (pe_slice sl_str (pv 1) (po_some (pe_op op_addU (pv 3) pe_int)) po_none)))
            (pss_one (ps_set (i := 1) sc__law_form.nd rfl (.inl rfl) (pe_op op_addU (pe_op op_addU (pe_slice sl_str (pv 1) po_none (po_some (pv 4))) (pe_ix ix_seq (pv 1) (pv 3) (fun _ _ => rfl))) (pv 5)))))))) pss_nil)
      (pss_cons (ps_set (i := 6) sc__law_form.nd rfl (.inl rfl) (pe_ix ix_seq (pe_lst (pa_cons pe_int (pa_cons pe_int (pa_cons pe_int (pa_cons pe_int pa_nil))))) (pe_c (ok__law_draw L) hr (by decide) rfl (pa_cons (pv 0) (pa_cons pe_int pa_nil))) (fun _ _ => rfl)))
      (pss_one (ps_ret (pe_tup (pa_cons (pv 1) (pa_cons (pe_op op_addU pe_int (pe_c (ok__law_draw L) hr (by decide) rfl (pa_cons (pv 0) (pa_cons (pv 6) pa_nil)))) pa_nil))))))))))), ?_⟩
    k_extra "r_D5"
    refine ⟨p, 5, rfl, hp, by decide, by decide, fun n H1 n0 n5 hp1 b1 => ?_⟩
    k_extra "r_D5"
    -- what is known between the ifs
    let Mid : L2.St → Hp → Prop := fun σ H' => ∃ (z : Str) (a1 a2 a3 : Option V), σ = [some (.ref p), some (.str z), some (.int n), a1, a2, a3, none] ∧ Letters z ∧ Purse H' p ∧ But p H H'
    refine ⟨fun σ H' => ∃ (z : Str), σ = [some (.ref p), some (.str z), some (.int n), none, none, none, none] ∧ Letters z ∧ Purse H' p ∧ But p H H', ?_, ?_⟩
    · k_extra "r_D5"
      refine ⟨rfl, ?_⟩
      k_extra "r_D5"
      refine s_ifD (fun c => ?_) (fun c => ?_)
      · k_extra "r_D5"
        refine ⟨_, rfl, alphaS, rfl, by decide +kernel, ?_⟩
        exact ⟨revT alphaS, rfl, letters_rev, hp1, b1⟩
      · k_extra "r_D5"
        exact ⟨alphaS, rfl, letters_alpha, hp1, b1⟩
    · rintro σ H2 ⟨z, rfl, lz, hp2, b2⟩
      refine ⟨Mid, ?_, ?_⟩
      · k_extra "r_D5"
        refine ⟨rfl, ?_⟩
        k_extra "r_D5"
        refine s_ifD (fun c => ?_) (fun c => ?_)
        · k_extra "r_D5"
          refine ⟨p, 26, rfl, hp2, by decide, by decide, fun m H3 m0 m1 hp3 b3 => ?_⟩
          k_extra "r_D5"
          have hz : z.length ≤ sizeLine := sz (by rw [lz.len]; decide)
          refine ⟨z, rfl, hz, ?_⟩
          k_extra "r_D5"
          refine ⟨z, rfl, hz, ?_⟩
          have e1 := cut_from (z := z) m0
          have e2 := cut_to (z := z) m0
          have lr := letters_rot lz e1 e2
          refine q_addS (by rw [← app_len, lr.len]; exact sz (by decide)) ?_
          k_extra "r_D5"
          exact ⟨_, _, _, _, rfl, lr, hp3, b2.trans b3⟩
        · exact ⟨z, none, none, none, rfl, lz, hp2, b2⟩
      · rintro σ H3 ⟨z, a1, a2, a3, rfl, lz, hp3, b3⟩
        refine ⟨Mid, ?_, ?_⟩
        · k_extra "r_D5"
          refine ⟨rfl, ?_⟩
          k_extra "r_D5"
          refine s_ifD (fun c => ?_) (fun c => ?_)
          · k_extra "r_D5"
            refine ⟨25, rfl, by decide, by decide, for_range (lo := 0) (n := 25) (fun i σ H' => Mid σ H') ⟨z, a1, a2, a3, rfl, lz, hp3, b3⟩ ?_ ?_⟩
            · rintro i σ H4 hi ⟨z, a1, a2, a3, rfl, lz, hp4, b4⟩
              k_extra "r_D5"
              refine ⟨p, 26 - (0 + (i : Int)), rfl, hp4, by omega, by omega, fun m H5 m0 m1 hp5 b5 => ?_⟩
              k_extra "r_D5"
              have hz : z.length ≤ sizeLine := sz (by rw [lz.len]; decide)
              have h26 := lz.len
              obtain ⟨a, ha⟩ : ∃ a : Nat, 0 + (i : Int) + m = a := ⟨(0 + (i : Int) + m).toNat, by omega⟩
              have ei : (0 : Int) + (i : Int) = (i : Int) := by omega
              rw [ha, ei]
              refine ⟨z, rfl, hz, ?_⟩
              k_extra "r_D5"
              refine ⟨z, rfl, hz, ?_⟩
              have e1 := cut_mid (z := z) (i := (i : Int)) (j := (a : Int)) (by omega) (by omega) (by omega) (by omega)
              have e2 := cut_from (z := z) (i := (a : Int) + 1) (by omega)
              have e3 := cut_to (z := z) (j := (i : Int)) (by omega)
              have q2 : ((a : Int) + 1).toNat = a + 1 := by omega
              rw [Int.toNat_natCast, Int.toNat_natCast] at e1
              rw [q2] at e2
              rw [Int.toNat_natCast] at e3
              have la : a < z.cps.toList.length := by rw [← len_cps]; omega
              have hc : z.cps.toList[a]? = some z.cps.toList[a] := List.getElem?_eq_getElem la
              have er : (cutS z (some (i : Int)) (some (a : Int)) ++ cutS z (some ((a : Int) + 1)) none).cps.toList = (z.cps.toList.drop i).take (a - i) ++ z.cps.toList.drop (a + 1) := by rw [app_cps, e1, e2]
              have lr : Letters (cutS z none (some (i : Int)) ++ ⟨#[z.cps.toList[a]]⟩ ++ (cutS z (some (i : Int)) (some (a : Int)) ++ cutS z (some ((a : Int) + 1)) none)) := letters_pull lz (by omega) hc e3 rfl er
              have lrl := lr.len
              rw [app_len, app_len] at lrl
              refine q_addS (by rw [← app_len]; exact sz (by omega)) ?_
              k_extra "r_D5"
              refine ⟨z, rfl, hz, ?_⟩
              k_extra "r_D5"
              refine q_ixS hz (atI_nat hc) ?_
              refine q_addS (sz (by omega)) ?_
              k_extra "r_D5"
              refine q_addS (by rw [app_len]; exact sz (by omega)) ?_
              k_extra "r_D5"
              exact ⟨_, _, _, _, rfl, lr, hp5, b4.trans b5⟩
            · rintro σ H4 h4
              exact h4
          · exact ⟨z, a1, a2, a3, rfl, lz, hp3, b3⟩
        · rintro σ H4 ⟨z, a1, a2, a3, rfl, lz, hp4, b4⟩
          k_extra "r_D5"
          refine ⟨by show 4 ≤ sizeLine; decide, fun q nq => ?_⟩
          k_extra "r_D5"
          have npq : q ≠ p := fun e => by
            obtain ⟨_, _, _, e2, _⟩ := hp4
            rw [e, e2] at nq
            cases nq
          refine ⟨p, 4, rfl, hp4.mono (Same.new nq), by decide, by decide, fun m H5 m0 m1 hp5 b5 => ?_⟩
          have hq : H5 q = some (.lst [.int 1, .int 1, .int 4, .int 1000]) := b5 q _ npq upd_same
          k_extra "r_D5"
          obtain ⟨mm, em, g1, g2⟩ : ∃ mm : Int, atI [V.int 1, V.int 1, V.int 4, V.int 1000] m = some (.int mm) ∧ 1 ≤ mm ∧ mm ≤ 1000 := by
            have : m = 0 ∨ m = 1 ∨ m = 2 ∨ m = 3 := by omega
            rcases this with rfl | rfl | rfl | rfl
            · exact ⟨1, rfl, by decide, by decide⟩
            · exact ⟨1, rfl, by decide, by decide⟩
            · exact ⟨4, rfl, by decide, by decide⟩
            · exact ⟨1000, rfl, by decide, by decide⟩
          refine q_ixL (SqL.of hq) em ?_
          k_extra "r_D5"
          refine ⟨p, mm, rfl, hp5, by omega, by omega, fun y H6 y0 y1 hp6 b6 => ?_⟩
          k_extra "r_D5"
          refine ⟨by show 2 ≤ sizeLine; decide, fun t nt => ?_⟩
          have b46 : But p H H6 := ((b4.trans (But.of (Same.new nq))).trans b5).trans b6
          have ntp : t ≠ p := fun e => by
            obtain ⟨_, _, _, e2, _⟩ := hp6
            rw [e, e2] at nt
            cases nt
          exact k t _ z (1 + y) (b46.free ntp nt) upd_same lz (by omega) (by omega) (hp6.mono (Same.new nt)) (b46.trans (But.of (Same.new nt)))
end
end Bt
namespace Bt
open PySem PySem.Spec PyProof.Rows L2
section
variable {X : Cx}
/-- a tuple == an instance of an own class: the class's own __eq__ answers -/
def rEqTupOwn (K : PySem.W.Frag) (C : Addr) (sp : Sp) (E : XK) : R2 := fun x y H Q => ∃ t xs a dx fs, x = .ref t ∧ H t = some (.tup xs) ∧ y = .ref a ∧ H a = some (.ins C dx fs) ∧ sp [y, x] H (fun v H' => ∃ b, v = .bl b ∧ Q v H') E
theorem op_eqTupOwn {CX : CXT} {n : Nat} {C f : Addr} {fd : FuncData} {ps : List Str} {sp : Sp} {E : XK} (F : FnOk X.prog X.w X.K X.mg X.base CX n f fd ps sp) (hr : Room n X.A)
    (hs : PySem.W.findIn X.K (.ref C) "__eq__" = some (some (.ref f))) (hf : PySem.W.isFn X.K (.ref f) = true) (hb : Binds X.K fd ps []) (hx : Passes CX X E)
    (hsub : PySem.W.subIn X.K (.ref C) (.type "tuple") = some false) (hmro : PySem.W.mroIn X.K C (.type "tuple") = some false) : OpR X (compareOp .Eq) (rEqTupOwn X.K C sp E) := by
  intro pins s σ H x y v u Q I rx ry hq
  obtain ⟨t, xs, a, dx, fs, rfl, ht, rfl, ha, hsp⟩ := hq
  cases rx
  cases ry
  obtain ⟨mA, J, _⟩ := ins_get I.hok ha
  obtain ⟨od, J, _⟩ := J.look
  obtain ⟨m, hF⟩ := I.fr
  obtain ⟨its, r, pl, hz⟩ := I.tuple (.inl (.inl ht))
  have XK := I.kIn
  have hT : s.TypeIs (.ref t) "tuple" := pl.typeIs
  show wpAny (model X.prog X.w) X.A (richCompare .Eq (.ref t) (.ref a)) (EP X pins σ Q) X.xe s
  have inst : PySem.W.Looks (model X.prog X.w) s.heap (isInstance (.ref a) (.type "tuple")) false := J.type.andThen (PySem.W.looks_mroIn XK hmro)
  unfold richCompare
  simp only [oneThing_ref]
  refine wpAny_holding (wpAny_bind (wpAny_cRoomFor hr.units0 ?_))
  refine wpAny_bind (wpAny_typeOf hT (wpAny_bind (J.type.here ?_)))
  rw [if_pos (by rfl)]
  refine wpAny_bind ((PySem.W.looks_subIn XK hsub).here ?_)
  simp only [Bool.false_eq_true, if_false]
  refine wpAny_bind (wpAny_tryCompare_declines hT PySem.F.slot_tuple_eq (wpAny_call_entry PySem.F.slot_tuple_eq hT PySem.F.entry_tuple_eq ?_ (PySem.F.args_tuple_eq_2 _ _)))
  have hl := F.len _ _ _ _ hsp
  have r2 : Vals [V.ref a, V.ref t] [Value.ref a, Value.ref t] := .cons rfl (.cons rfl .nil)
  have back : ∀ s' : Shared, s' = s → wpAny (model X.prog X.w) X.A (tryCompare (.ref a) "__eq__" (.ref t)) (fun r s' => ∃ v, r = some v ∧ EP X pins σ Q v s') X.xe s' := fun s' e => by
    subst e
    unfold tryCompare
    refine wpAny_bind (PySem.W.ifBound_K XK J hs hf (wpAny_call (codeAny_mono (F.run X.A X.stack s' H ⟨[.ref a, .ref t], []⟩ [.ref a, .ref t] [.ref a, .ref t] _ E hr I.env0 (by
      have := hb s' [.ref a, .ref t] I.kIn (by simpa using hl)
      simpa using this) r2 hsp) fun r s' hq => ?_)))
    cases r with
    | error e => exact hx pins σ H _ e s' I hq
    | ok fl =>
      cases fl with
      | ret w =>
        obtain ⟨z, H', I', rz, b, ez, q⟩ := I.after hq
        subst ez
        cases rz
        exact wpAny_pure ⟨_, rfl, .bl b, H', I', rfl, q⟩
      | next => exact False.elim hq
      | brk => exact False.elim hq
      | cont => exact False.elim hq
  have step : ∀ s' : Shared, s' = s → wpAny (model X.prog X.w) X.A.in1 (Builtin.«tuple.__eq__» ⟨[.ref t, .ref a], []⟩) (fun fin s'' => fin = Fin.done (Flow.ret Value.notImplemented) ∧ s'' = s) X.xe s' := fun s' e => by
    subst e
    obtain ⟨hp, g, d, tk, os⟩ := s'
    unfold Builtin.«tuple.__eq__»
    wp_delta
    repeat (first | with_reducible refine inst.at ?_ | wp_step)
    exact ⟨rfl, rfl⟩
  refine wpAny_mono (step s rfl) (fun fin s' z => ?_) fun _ _ x => x
  obtain ⟨e1, e2⟩ := z
  subst e1 e2
  refine ⟨_, rfl, rfl, ?_⟩
  rw [if_pos (by rfl)]
  refine wpAny_bind (wpAny_mono (back _ rfl) (fun r s' z => ?_) fun _ _ x => x)
  obtain ⟨v, rfl, q⟩ := z
  exact wpAny_pure q
end
/-- for i, x in enumerate(xs) -/
theorem for_enum {K : PySem.W.Frag} {a : Addr} {xs : List V} {g : TG} {tb : TS} {D : Ends} {σ : L2.St} {H : Hp} (Pv : Nat → L2.St → Hp → Prop) (h0 : Pv 0 σ H) (hl : ∀ i σ H, i ≤ xs.length → Pv i σ H → SqL K H a xs)
    (hs : ∀ i x σ H T, xs[i]? = some x → Pv i σ H → H T = none → g (.ref T) σ (upd H T (.tup [.int (i : Nat), x])) fun σ2 H2 => tb { D with nx := Pv (i + 1), ct := Pv (i + 1), bk := D.nx } σ2 H2) (hd : ∀ σ H, Pv xs.length σ H → D.nx σ H) :
    ∃ W : Nat → Nat → L2.St → Hp → Prop, (∃ m, W 0 m σ H) ∧ ∀ i m σ H, W i m σ H →
      ((Ite K a).stop i H ∧ D.nx σ H) ∨ ((Ite K a).go i H ∧ ∃ N : L2.St → Hp → Prop, (∀ σ' H', N σ' H' → ∃ m', m' < m ∧ W (i + 1) m' σ' H') ∧ ∀ x H', (Ite K a).yld i H x H' → g x σ H' fun σ2 H2 => tb { D with nx := N, ct := N, bk := D.nx } σ2 H2) := by
  refine ⟨fun i m σ H => m = xs.length - i ∧ i ≤ xs.length ∧ Pv i σ H, ⟨xs.length, by simp, Nat.zero_le _, h0⟩, ?_⟩
  rintro i m σ H ⟨rfl, hi, p⟩
  have q := hl i σ H hi p
  by_cases hlt : i < xs.length
  · refine .inr ⟨⟨xs, xs[i], q, by simp [hlt]⟩, Pv (i + 1), fun σ' H' p' => ⟨xs.length - (i + 1), by omega, rfl, hlt, p'⟩, fun x H' y => ?_⟩
    obtain ⟨T, x0, e1, nT, e2, y⟩ := y
    subst e1 e2
    exact hs i x0 σ _ T (y xs q) p nT
  · have e : i = xs.length := by omega
    subst e
    exact .inl ⟨⟨xs, q, Nat.le_refl _⟩, hd σ H p⟩
theorem s_iList {K : PySem.W.Frag} {te : TE} {σ : L2.St} {H : Hp} {R : It → Hp → Prop} (h : te σ H fun x H1 => ∃ a, x = .ref a ∧ (∃ xs, SqL K H1 a xs) ∧ R (Itl K a) H1) : iList K te σ H R := h
theorem s_iEnum {K : PySem.W.Frag} {ts : TA} {σ : L2.St} {H : Hp} {R : It → Hp → Prop} (h : ts σ H fun vs H1 => ∃ a xs, vs = [.ref a] ∧ SqL K H1 a xs ∧ R (Ite K a) H1) : iEnum K ts σ H R := h
theorem same_but {p : Addr} {H0 H1 H2 : Hp} (S : Same H0 H1) (n : H0 p = none) (b : But p H1 H2) : Same H0 H2 := fun c o h => b c o (ne_of_none h n) (S c o h)
theorem s_par {i j : Nat} {ta : TA} {D : Ends} {σ : L2.St} {H : Hp} (h : ta σ H fun vs H1 => ∃ v w, vs = [v, w] ∧ D.nx ((σ.set i (some v)).set j (some w)) H1) : tPar i j ta D σ H := h
theorem s_gcons {t : TG} {u : TGs} {v : V} {r : List V} {σ : L2.St} {H : Hp} {N : L2.St → Hp → Prop} (h : t v σ H fun σ' H' => u r σ' H' N) : gCons t u (v :: r) σ H N := ⟨v, r, rfl, h⟩
theorem s_gnil {σ : L2.St} {H : Hp} {N : L2.St → Hp → Prop} (h : N σ H) : gNil [] σ H N := ⟨rfl, h⟩
theorem q_gtup {K : PySem.W.Frag} {n : Nat} {t : TGs} {a : Addr} {xs : List V} {σ : L2.St} {H : Hp} {N : L2.St → Hp → Prop} (h : SqT K H a xs) (hl : xs.length = n) (q : t xs σ H N) : gTup K n t (.ref a) σ H N := ⟨a, xs, rfl, h, hl, q⟩
theorem q_slL {K : PySem.W.Frag} {a : Addr} {xs : List V} {lo hi : Option Int} {H : Hp} {Q : VK} (h : SqL K H a xs) (q : ∀ p H', H p = none → Same H H' → H' p = some (.lst (cutV xs lo hi)) → Q (.ref p) H') : rSlL K (.ref a) lo hi H Q := ⟨a, xs, rfl, h, fun p n => q p _ n (Same.new n) upd_same⟩
theorem q_append {l : Addr} {xs : List V} {y : V} {H : Hp} {Q : VK} (h : H l = some (.lst xs)) (hl : xs.length < sizeLine) (q : ∀ H', But l H H' → H' l = some (.lst (xs ++ [y])) → Q .non H') : rAppend (.ref l) [y] H Q := ⟨l, xs, y, rfl, rfl, h, hl, q _ But.upd upd_same⟩
/-- a for over J from here on -/
def ForIt (J : It) (g : TG) (tb : TS) (D : Ends) (σ : L2.St) (H : Hp) : Prop := ∃ W : Nat → Nat → L2.St → Hp → Prop, (∃ m, W 0 m σ H) ∧ ∀ i m σ H, W i m σ H →
  (J.stop i H ∧ D.nx σ H) ∨ (J.go i H ∧ ∃ N : L2.St → Hp → Prop, (∀ σ' H', N σ' H' → ∃ m', m' < m ∧ W (i + 1) m' σ' H') ∧ ∀ x H', J.yld i H x H' → g x σ H' fun σ2 H2 => tb { D with nx := N, ct := N, bk := D.nx } σ2 H2)
theorem s_for {wi : TI} {g : TG} {tb : TS} {D : Ends} {σ : L2.St} {H : Hp} (h : wi σ H fun J H1 => ForIt J g tb D σ H1) : tFor wi g tb D σ H := h
section
variable {K : PySem.W.Frag} {a : Addr} {xs : List V} {g : TG} {tb : TS} {D : Ends} {σ : L2.St} {H : Hp}
theorem q_forL (Pv : Nat → L2.St → Hp → Prop) (h0 : Pv 0 σ H) (hl : ∀ i σ H, i ≤ xs.length → Pv i σ H → SqL K H a xs)
    (hs : ∀ i x σ H, xs[i]? = some x → Pv i σ H → g x σ H fun σ2 H2 => tb { D with nx := Pv (i + 1), ct := Pv (i + 1), bk := D.nx } σ2 H2) (hd : ∀ σ H, Pv xs.length σ H → D.nx σ H) : ForIt (Itl K a) g tb D σ H := for_list Pv h0 hl hs hd
theorem q_forE (Pv : Nat → L2.St → Hp → Prop) (h0 : Pv 0 σ H) (hl : ∀ i σ H, i ≤ xs.length → Pv i σ H → SqL K H a xs)
    (hs : ∀ i x σ H T, xs[i]? = some x → Pv i σ H → H T = none → g (.ref T) σ (upd H T (.tup [.int (i : Nat), x])) fun σ2 H2 => tb { D with nx := Pv (i + 1), ct := Pv (i + 1), bk := D.nx } σ2 H2) (hd : ∀ σ H, Pv xs.length σ H → D.nx σ H) : ForIt (Ite K a) g tb D σ H := for_enum Pv h0 hl hs hd
theorem q_forR {lo : Int} {n : Nat} (Pv : Nat → L2.St → Hp → Prop) (h0 : Pv 0 σ H)
    (hs : ∀ i σ H, i < n → Pv i σ H → g (.int (lo + i)) σ H fun σ2 H2 => tb { D with nx := Pv (i + 1), ct := Pv (i + 1), bk := D.nx } σ2 H2) (hd : ∀ σ H, Pv n σ H → D.nx σ H) : ForIt (Itr lo n) g tb D σ H := for_range Pv h0 hs hd
end
theorem s_rng1 {ta : TA} {σ : L2.St} {H : Hp} {R : It → Hp → Prop} (h : ta σ H fun vs H1 => ∃ j : Int, vs = [.int j] ∧ -(2 ^ 62) ≤ j ∧ j < 2 ^ 62 ∧ R (Itr 0 j.toNat) H1) : iRng1 ta σ H R := h
end Bt
namespace Bt
open PySem PySem.Spec PyProof.Rows L2
theorem words6_ : True := by
  k_with "s_N5" => first
    | ((with_reducible refine' s_var ?hv ?_); (case hv => exact rfl))
    | with_reducible first
      | refine' s_c ?_ | refine' s_op ?_ | refine' s_asg ?_ | refine' s_gname ?_ | refine' s_seq ?_ | refine' s_next ?_ | refine' s_ret ?_ | refine' s_ifS ?_ | refine' s_drop ?_ | refine' s_retN ?_
      | refine' s_test ?_ | refine' s_B ?_ | refine' q_test ?_ | refine' s_int ?_ | refine' s_cons ?_ | refine' s_nil ?_ | refine' s_call ?_ | refine' s_CB ?_ | refine' s_andT ?_ | refine' s_orT ?_ | refine' s_notT ?_
      | refine' s_andV ?_ | refine' s_orV ?_ | refine' s_notV ?_ | refine' s_ifV ?_ | refine' s_chain ?_ | refine' s_sl ?_ | refine' s_noPart ?_ | refine' s_part ?_ | refine' s_gsub ?_ | refine' s_BM ?_ | refine' s_tup ?_ | refine' s_lst ?_
      | refine' q_add ?_ | refine' q_sub ?_ | refine' q_lt ?_ | refine' q_le ?_ | refine' q_gt ?_ | refine' q_ge ?_ | refine' s_ifT ?_ | refine' s_ifF ?_ | refine' s_yes ?_ | refine' s_iStr ?_ | refine' s_M0 ?_ | refine' s_make ?_ | refine' s_makeS ?_ | refine' s_prop ?_ | refine' s_raise1 ?_ | refine' s_for ?_ | refine' s_rng1 ?_ | refine' s_par ?_ | refine' s_gcons ?_ | refine' s_gnil ?_ | refine' s_iList ?_ | refine' s_iEnum ?_
      | (refine' q_mod ?hm ?_; (case hm => first | omega | decide)) | (refine' q_fdiv ?hm ?hn ?_; (case hm => first | omega | decide); (case hn => first | omega | decide))
      | (refine' q_mulR ?hm ?_; (case hm => first | omega | decide)) | (refine' q_mulL ?hm ?_; (case hm => first | omega | decide))
    | dsimp only
  k_with "r_N5" => repeat (k_extra "s_N5")
  trivial
/-! ### names -/
def Nm (z : Str) : Prop := 1 ≤ z.length ∧ z.length ≤ 8 ∧ ∀ c ∈ z.cps.toList, c ∈ alpha
theorem Nm.asc {z : Str} (h : Nm z) : Asc z := fun c hc => by
  have := mem_alpha.mp (h.2.2 c hc)
  omega
theorem Nm.sz {z : Str} (h : Nm z) : z.length ≤ sizeLine := Bt.sz (by have := h.2.1; omega)
def NmV (x : V) : Prop := ∃ z, x = .str z ∧ Nm z
structure TxtN (K : PySem.W.Frag) (mg : Str → Option Value) : Prop where
  n_len : mg "len" = none
  n_all : mg "all" = none
  v_LONGEST_NAME : ∃ t, mg "LONGEST_NAME" = some (.int 8 t)
  d_is_name : Df K mg "is_name" s_is_name ["value"]
  d__law_name : Df K mg "_law_name" s__law_name ["_law_purse_here"]
  d__law_names : Df K mg "_law_names" s__law_names ["_law_purse_here", "_law_many"]
section
variable {P : Program} {w : World} {K : PySem.W.Frag} {mg : Str → Option Value} {base : Heap}
theorem s_ifND {p : Prop} {inst : Decidable p} {A B : Prop} (h : p → B) (h' : ¬ p → A) : if (!@decide p inst) = true then A else B := by
  by_cases c : p
  · rw [decide_eq_true c]; exact h c
  · rw [decide_eq_false c]; exact h' c
theorem take_all (z : Str) : z.cps.toList.take z.cps.size = z.cps.toList := List.take_of_length_le (by rw [Array.length_toList]; exact Nat.le_refl _)
def rLenS : List V → Hp → VK → Prop := fun xs H Q => ∃ z, xs = [.str z] ∧ z.length ≤ sizeLine ∧ Q (.int z.length) H
theorem call_lenS {X : Cx} : CallR X (.builtin "len") rLenS := call_len_str
theorem q_lenS {H : Hp} {Q : VK} {z : Str} (h : z.length ≤ sizeLine) (q : Q (.int z.length) H) : rLenS [.str z] H Q := ⟨z, rfl, h, q⟩
def rInC : R2 := fun x y H Q => ∃ (c : Nat) (z : Str), x = .str ⟨#[c]⟩ ∧ y = .str z ∧ Q (.bl (decide (c ∈ z.cps.toList))) H
theorem op_inC {X : Cx} : OpR X (compareOp .In) rInC := op_in_sign
theorem q_inC {H : Hp} {Q : VK} {c : Nat} {z : Str} (q : Q (.bl (decide (c ∈ z.cps.toList))) H) : rInC (.str ⟨#[c]⟩) (.str z) H Q := ⟨c, z, rfl, rfl, q⟩
def rAllB (K : PySem.W.Frag) : List V → Hp → VK → Prop := fun vs H Q => ∃ (a : Addr) (bs : List Bool), vs = [V.ref a] ∧ SqL K H a (bs.map V.bl) ∧ Q (.bl (bs.all id)) H
theorem call_allB {X : Cx} (hc : X.calm = true) : CallR X (.builtin "all") (rAllB X.K) := cr_all hc
theorem q_allB {H : Hp} {Q : VK} {a : Addr} {bs : List Bool} (h : SqL K H a (bs.map V.bl)) (q : Q (.bl (bs.all id)) H) : rAllB K [.ref a] H Q := ⟨a, bs, rfl, h, q⟩
def spName (K : PySem.W.Frag) : Sp := fun vs H Q _ => ∃ x T, vs = [x] ∧ Pl K H x T ∧ (∀ z, x = .str z → z.length < 64) ∧ (¬ NmV x → ∀ H', Same H H' → Q (.bl false) H') ∧ (NmV x → ∀ H', Same H H' → Q (.bl true) H')
theorem ok_is_name (T : Txt K mg) (N : TxtN K mg) : Cal P w K mg base 1 "is_name" (spName K) := by
  refine N.d_is_name.cal sc_is_name (fun vs H Q E h => ?_) (fun f cdv A outer s H vs Q E hr h => ?_)
  · obtain ⟨x, T, rfl, _⟩ := h
    rfl
  · obtain ⟨x, ty, rfl, hx, hz, kN, kY⟩ := h
    refine ⟨_, (pss_cons (ps_if (pt_not (PW.pt (pw_and (pt_val (pe_callB call_isi (by rfl) T.n_isinstance (by decide +kernel) (pa_cons (pv 0) (pa_cons (pe_bltn (v := .ty "str") (by rfl) T.n_str (by decide +kernel) rfl) pa_nil)))) (pw_and1 (pt_chain op_leI op_leI pe_int (pe_callB call_lenS (by rfl) N.n_len (by decide +kernel) (pa_cons (pv 0) pa_nil)) (pe_glob (v := .int 8) (by rfl) N.v_LONGEST_NAME.choose_spec ⟨_, rfl⟩)))))) (pss_one (ps_ret pe_bl)) pss_nil)
      (pss_one (ps_ret (pe_callB (call_allB rfl) (by rfl) N.n_all (by decide +kernel) (pa_cons (pe_lc (own := [("letter", 1)]) (g := gName 1) (tt := tYes) rfl sc_is_name.nd (pi_str (pv 0)) (blkOk_by (own := [("letter", 1)]) (N := ["value", "letter"]) (sc := defScope s_is_name) (by decide +kernel)) (fun _ _ _ _ _ => pg_name (i := 1) sc_is_name.nd rfl (Or.inl rfl)) (fun _ _ _ _ _ => pts_nil) (fun _ _ _ _ _ => (pe_cmpR op_inC (pv 1) (pe_glob (v := .str alphaS) (by rfl) T.v_LETTERS.choose_spec ⟨_, rfl⟩) (by rfl)))) pa_nil))))), ?_⟩
    k_extra "r_N5"
    refine q_isi hx .str ?_
    by_cases e : ty = "str"
    · obtain ⟨z, rfl⟩ := hx.of_str e
      have h64 := hz z rfl
      have hs : z.length ≤ sizeLine := Bt.sz (by omega)
      subst e
      k_extra "r_N5"
      refine s_if1 rfl ?_
      k_extra "r_N5"
      refine q_lenS hs ?_
      k_extra "r_N5"
      have inv : Nm z → z.length ≥ 1 ∧ z.length ≤ 8 := fun h => ⟨h.1, h.2.1⟩
      refine s_ifD (fun c1 => ?_) (fun c1 => ?_)
      · k_extra "r_N5"
        refine s_ifND (fun c2 => ?_) (fun c2 => ?_)
        · k_extra "r_N5"
          refine s_lc ?_
          k_extra "r_N5"
          refine ⟨z, rfl, fun D nD => lc_str (z := z) (fun i H' => Same H H' ∧ H' D = some (.lst (((z.cps.toList.take i).map fun c => decide (c ∈ alphaS.cps.toList)).map V.bl))) ⟨Same.new nD, upd_same⟩ ?_ ?_⟩
          · rintro j d H' hj ⟨S', hD⟩
            k_extra "r_N5"
            refine ⟨rfl, ?_⟩
            k_extra "r_N5"
            refine q_inC ⟨_, hD, ?_, same_mut S' nD, ?_⟩
            · rw [List.length_map, List.length_map, List.length_take]
              exact szlt (by have := (List.getElem?_eq_some_iff.mp hj).1; rw [← len_cps] at this; omega)
            · rw [upd_same, take_map_more hj, List.map_append]
              rfl
          · rintro H2 ⟨S2, h2⟩
            rw [take_all] at h2
            k_extra "r_N5"
            refine q_allB (SqL.of h2) ?_
            by_cases v : Nm z
            · rw [show (List.all _ id : Bool) = true from ?_]
              · exact kY ⟨z, rfl, v⟩ _ S2
              · rw [List.all_map, List.all_eq_true]
                intro c hc
                show decide _ = true
                rw [alphaS_cps]
                exact decide_eq_true (v.2.2 c hc)
            · rw [show (List.all _ id : Bool) = false from ?_]
              · exact kN (fun u => by obtain ⟨_, e, u⟩ := u; cases e; exact v u) _ S2
              · rw [Bool.eq_false_iff]
                intro hall
                rw [List.all_map, List.all_eq_true] at hall
                refine v ⟨by omega, by omega, fun c hc => ?_⟩
                have := of_decide_eq_true (show decide _ = true from hall c hc)
                rw [alphaS_cps] at this
                exact this
        · k_extra "r_N5"
          exact kN (fun v => by obtain ⟨_, e, v⟩ := v; cases e; have := v.2.1; omega) _ (Same.refl H)
      · k_extra "r_N5"
        exact kN (fun v => by obtain ⟨_, e, v⟩ := v; cases e; have := v.1; omega) _ (Same.refl H)
    · have e2 : subKd ty "str" = false := by
        cases hx.2 <;> first | rfl | exact absurd rfl e
      rw [e2]
      k_extra "r_N5"
      refine kN (fun v => ?_) H (Same.refl H)
      obtain ⟨z, ez, _⟩ := v
      subst ez
      exact absurd hx.is_str e
def AlC (z : Str) : Prop := ∀ c ∈ z.cps.toList, c ∈ alpha
def spName1 : Sp := fun vs H Q _ => ∃ p, vs = [.ref p] ∧ Purse H p ∧ ∀ z H', Nm z → Purse H' p → But p H H' → Q (.str z) H'
theorem ok__law_name (L : TxtL K mg) (N : TxtN K mg) : Cal P w K mg base 2 "_law_name" spName1 := by
  refine N.d__law_name.cal sc__law_name (fun vs H Q E h => ?_) (fun f cdv A outer s H vs Q E hr h => ?_)
  · obtain ⟨p, rfl, _⟩ := h
    rfl
  · obtain ⟨p, rfl, hp, k⟩ := h
    refine ⟨_, (pss_cons (ps_set (i := 1) sc__law_name.nd rfl (.inl rfl) pe_str)
      (pss_cons (ps_for PassesOwn.never rfl (pi_range1 rfl L.n_range (pa_cons (pe_op op_addU pe_int (pe_c (ok__law_draw L) hr (by decide) rfl (pa_cons (pv 0) (pa_cons pe_int pa_nil)))) pa_nil)) (pg_name (i := 2) sc__law_name.nd rfl (.inl rfl))
        (pss_one (ps_set (i := 1) sc__law_name.nd rfl (.inl rfl) (pe_op op_addU (pv 1) (pe_ix ix_seq pe_str (pe_c (ok__law_draw L) hr (by decide) rfl (pa_cons (pv 0) (pa_cons pe_int pa_nil))) (fun _ _ => rfl))))))
      (pss_one (ps_ret (pv 1))))), ?_⟩
    k_extra "r_N5"
    refine ⟨p, 8, rfl, hp, by decide, by decide, fun n H1 n0 n1 p1 b1 => ?_⟩
    k_extra "r_N5"
    refine ⟨_, rfl, by omega, by omega, q_forR (fun i σ H2 => ∃ z v, σ = [some (.ref p), some (.str z), v] ∧ z.length = i ∧ AlC z ∧ Purse H2 p ∧ But p H H2) ⟨_, none, rfl, rfl, (fun c hc => by cases hc), p1, b1⟩ ?_ ?_⟩
    · rintro i σ H2 hi ⟨z, v, rfl, hz, az, p2, b2⟩
      k_extra "r_N5"
      refine ⟨p, 26, rfl, p2, by decide, by decide, fun m H3 m0 m1 p3 b3 => ?_⟩
      obtain ⟨j, rfl⟩ : ∃ j : Nat, m = j := ⟨m.toNat, by omega⟩
      have hj : j < 26 := by omega
      have ej : alphaS.cps.toList[j]? = some (97 + j) := by
        rw [alphaS_cps]
        unfold alpha
        rw [List.getElem?_map, List.getElem?_range hj]
        rfl
      refine q_ixS (by show alphaS.length ≤ sizeLine; exact Bt.sz (by decide)) (atI_nat ej) ?_
      refine q_addS (Bt.sz (by rw [hz]; show i + 1 ≤ 100000; omega)) ?_
      k_extra "r_N5"
      refine ⟨_, _, rfl, ?_, ?_, p3, b2.trans b3⟩
      · rw [app_len, hz]
        rfl
      · intro c hc
        rw [app_cps, List.mem_append] at hc
        rcases hc with hc | hc
        · exact az c hc
        · have ec : c = 97 + j := by simpa using hc
          exact mem_alpha.mpr (by omega)
    · rintro σ H2 ⟨z, v, rfl, hz, az, p2, b2⟩
      k_extra "r_N5"
      exact k z H2 ⟨by omega, by omega, az⟩ p2 b2
theorem eqv_strs (xs ys : List Str) : PyData.eqv (.list (xs.map .str)) (.list (ys.map .str)) = decide (xs = ys) := by
  rw [← eqvAll_strs]
  simp only [PyData.eqv]
theorem inV_strs (z : Str) (zs : List Str) : inV (.str z) (zs.map V.str) = decide (z ∈ zs) := by
  unfold inV
  rw [List.any_map, Bool.eq_iff_iff, List.any_eq_true, decide_eq_true_iff]
  constructor
  · rintro ⟨y, hy, e⟩
    have e2 : (y == z) = true := e
    rw [← eq_of_beq e2]
    exact hy
  · intro h
    exact ⟨z, h, (beq_self_eq_true z : (z == z) = true)⟩
theorem flat_strs (zs : List Str) : (zs.map V.str).all flatV = true := by
  rw [List.all_map, List.all_eq_true]
  exact fun _ _ => rfl
theorem q_notinStrs {H : Hp} {Q : VK} {l : Addr} {z : Str} {zs : List Str} (h : H l = some (.lst (zs.map V.str))) (q : Q (.bl (!decide (z ∈ zs))) H) : rIn K true (.str z) (.ref l) H Q :=
  ⟨l, _, rfl, .inl (SqL.of h), rfl, flat_strs zs, by rw [inV_strs]; exact q⟩
theorem atI_last {α : Type} (xs : List α) (x : α) : atI (xs ++ [x]) (-1) = some x := by
  unfold atI
  have e : ixN (xs ++ [x]).length (-1) = some xs.length := by
    rw [List.length_append]
    unfold ixN
    rw [if_neg (by decide), if_pos (by show (-(((xs.length + 1 : Nat)) : Int)) ≤ -1; omega)]
    congr 1
    show (-1 + (((xs.length + 1 : Nat)) : Int)).toNat = xs.length
    omega
  rw [e]
  simp
def spNames : Sp := fun vs H Q _ => ∃ (p : Addr) (m : Nat), vs = [.ref p, .int m] ∧ Purse H p ∧ m ≤ 1000 ∧
  ∀ l H' zs, H l = none → H' l = some (.lst (zs.map V.str)) → (∀ z ∈ zs, Nm z) → zs.Nodup → zs.length ≤ m → (1 ≤ m → zs ≠ []) → Purse H' p → But p H H' → Q (.ref l) H'
theorem ok__law_names (L : TxtL K mg) (N : TxtN K mg) : Cal P w K mg base 3 "_law_names" spNames := by
  refine N.d__law_names.cal sc__law_names (fun vs H Q E h => ?_) (fun f cdv A outer s H vs Q E hr h => ?_)
  · obtain ⟨p, m, rfl, _⟩ := h
    rfl
  · obtain ⟨p, m, rfl, hp, hm, k⟩ := h
    have hu := hr.units
    refine ⟨_, (pss_cons (ps_set (i := 2) sc__law_names.nd rfl (.inl rfl) (pe_lst pa_nil))
      (pss_cons (ps_for PassesOwn.never rfl (pi_range1 rfl L.n_range (pa_cons (pv 1) pa_nil)) (pg_name (i := 3) sc__law_names.nd rfl (.inl rfl))
        (pss_cons (ps_set (i := 4) sc__law_names.nd rfl (.inl rfl) (pe_c (ok__law_name L N) hr (by decide) rfl (pa_cons (pv 0) pa_nil)))
          (C8.pss_cut (ps_if (PW.pt (pw_and (pt_cmpR (op_neU hu) (pv 2) (pe_lst pa_nil) (by rfl)) (pw_and1 (pt_cmpR (op_eqU hu) (pe_c (ok__law_draw L) hr (by decide) rfl (pa_cons (pv 0) (pa_cons pe_int pa_nil))) pe_int (by rfl))))) (pss_one (ps_set (i := 4) sc__law_names.nd rfl (.inl rfl) (pe_slice sl_str (pe_op op_addU (pe_ix ix_seq (pv 2) (pe_un un_neg pe_int) (fun _ _ => rfl)) (pv 4)) po_none (po_some (pe_op op_addU pe_int (pe_c (ok__law_draw L) hr (by decide) rfl (pa_cons (pv 0) (pa_cons pe_int pa_nil)))))))) pss_nil)
          (pss_one (ps_if (pt_cmpR op_notIn_seq (pv 4) (pv 2) (by rfl)) (pss_one (ps_expr (pe_bm PySem.F.plainAttrs_list PySem.F.slot_list_append PySem.F.type_list_append mt_append (pv 2) (pa_cons (pv 4) pa_nil)))) pss_nil)))))
      (pss_one (ps_ret (pv 2))))), ?_⟩
    k_extra "r_N5"
    refine q_newL (by show 0 ≤ sizeLine; decide) fun l H1 n1 S1 h1 => ?_
    k_extra "r_N5"
    have hlp : l ≠ p := by
      obtain ⟨_, _, _, e, _⟩ := hp
      exact fun z => by rw [z, e] at n1; cases n1
    refine ⟨_, rfl, by omega, by omega, q_forR (fun i σ H2 => ∃ zs v u, σ = [some (.ref p), some (.int m), some (.ref l), v, u] ∧ H2 l = some (.lst (zs.map V.str)) ∧ (∀ z ∈ zs, Nm z) ∧ zs.Nodup ∧ zs.length ≤ i ∧ (1 ≤ i → zs ≠ []) ∧ Purse H2 p ∧ But p H H2)
      ⟨[], none, none, rfl, h1, (fun z hz => by cases hz), .nil, Nat.le_refl _, (fun z => absurd z (by decide)), hp.mono S1, But.of S1⟩ ?_ ?_⟩
    · rintro i σ H2 hi ⟨zs, v, u, rfl, h2, nz, nd, hl, hne, p2, b2⟩
      k_extra "r_N5"
      refine ⟨p, rfl, p2, fun z H3 hz p3 b3 => ?_⟩
      have h3 := b3 _ _ hlp h2
      k_extra "r_N5"
      refine ⟨fun σ H4 => ∃ z v, σ = [some (.ref p), some (.int m), some (.ref l), v, some (.str z)] ∧ Nm z ∧ H4 l = some (.lst (zs.map V.str)) ∧ Purse H4 p ∧ But p H H4, ?_, ?_⟩
      · k_extra "r_N5"
        refine q_newL (by show 0 ≤ sizeLine; decide) fun l0 H4 n4 S4 h4 => ?_
        refine q_neD (dp_lst_strs (S4 _ _ h3)) (dp_lst_strs (ys := []) h4) (shaped_strs fun y hy => (nz y hy).asc) (shaped_strs fun y hy => by cases hy) ?_
        rw [eqv_strs]
        k_extra "r_N5"
        refine s_ifND (fun c => ?_) (fun c => ?_)
        · k_extra "r_N5"
          exact ⟨z, _, rfl, hz, S4 _ _ h3, p3.mono S4, b2.trans (b3.trans (But.of S4))⟩
        · k_extra "r_N5"
          refine ⟨p, 3, rfl, p3.mono S4, by decide, by decide, fun n5 H5 n50 n51 p5 b5 => ?_⟩
          refine q_eq rfl ?_
          k_extra "r_N5"
          refine s_if (fun _ => ?_) (fun _ => ?_)
          · k_extra "r_N5"
            obtain ⟨zs0, y, rfl⟩ : ∃ zs0 y, zs = zs0 ++ [y] := ⟨zs.dropLast, zs.getLast c, (List.dropLast_concat_getLast c).symm⟩
            have ny := nz y (by simp)
            have h5 := b5 _ _ hlp (S4 _ _ h3)
            refine ⟨_, rfl, ?_⟩
            rw [List.map_append] at h5
            refine q_ixL (SqL.of h5) (atI_last _ _) ?_
            k_extra "r_N5"
            have hsum : (y ++ z).length ≤ 16 := by rw [app_len]; have := ny.2.1; have := hz.2.1; omega
            refine q_addS (by rw [← app_len]; exact Bt.sz (by omega)) ?_
            k_extra "r_N5"
            refine ⟨p, 8, rfl, p5, by decide, by decide, fun n6 H6 n60 n61 p6 b6 => ?_⟩
            k_extra "r_N5"
            refine ⟨_, rfl, Bt.sz (by omega), ?_⟩
            k_extra "r_N5"
            have ecut : (cutS (y ++ z) none (some (1 + n6))).cps.toList = (y ++ z).cps.toList.take (1 + n6).toNat := cut_to (by omega)
            refine ⟨_, _, rfl, ⟨?_, ?_, fun c2 hc2 => ?_⟩, ?_, p6, ?_⟩
            · rw [len_cps, ecut, List.length_take, ← len_cps, app_len]
              have := ny.1
              omega
            · rw [len_cps, ecut, List.length_take]
              omega
            · rw [ecut] at hc2
              have hc3 := List.mem_of_mem_take hc2
              rw [app_cps, List.mem_append] at hc3
              rcases hc3 with hc3 | hc3
              · exact ny.2.2 _ hc3
              · exact hz.2.2 _ hc3
            · rw [List.map_append]
              exact b6 _ _ hlp h5
            · exact b2.trans (b3.trans ((But.of S4).trans (b5.trans b6)))
          · k_extra "r_N5"
            exact ⟨z, _, rfl, hz, b5 _ _ hlp (S4 _ _ h3), p5, b2.trans (b3.trans ((But.of S4).trans b5))⟩
      · rintro σ H4 ⟨z4, v4, rfl, hz4, h4, p4, b4⟩
        k_extra "r_N5"
        refine q_notinStrs h4 ?_
        k_extra "r_N5"
        refine s_ifND (fun c => ?_) (fun c => ?_)
        · k_extra "r_N5"
          exact ⟨zs, _, _, rfl, h4, nz, nd, by omega, (fun _ e => by rw [e] at c; cases c), p4, b4⟩
        · k_extra "r_N5"
          refine ⟨.inl ⟨rfl, _, SqL.of h4⟩, ?_⟩
          k_extra "r_N5"
          refine q_append h4 (by rw [List.length_map]; exact szlt (by omega)) fun H5 b5 h5 => ?_
          k_extra "r_N5"
          have h5' : H5 l = some (.lst ((zs ++ [z4]).map V.str)) := by rw [h5, List.map_append]; rfl
          refine ⟨zs ++ [z4], _, _, rfl, h5', fun y hy => ?_, ?_, by rw [List.length_append]; show zs.length + 1 ≤ i + 1; omega, (fun _ e => by simp at e), ?_, ?_⟩
          · rcases List.mem_append.mp hy with hy | hy
            · exact nz y hy
            · rw [List.mem_singleton.mp hy]; exact hz4
          · refine List.nodup_append.mpr ⟨nd, by simp, fun a ha b hb e => ?_⟩
            rw [List.mem_singleton.mp hb] at e
            exact c (e ▸ ha)
          · obtain ⟨a, b, c, e, h⟩ := p4
            exact ⟨a, b, c, b5 _ _ hlp.symm e, h⟩
          · exact fun b o hb e => b5 b o (fun z => by rw [z] at e; rw [e] at n1; cases n1) (b4 b o hb e)
    · rintro σ H2 ⟨zs, v, u, rfl, h2, nz, nd, hl, hne, p2, b2⟩
      k_extra "r_N5"
      exact k l H2 zs n1 h2 nz nd hl hne p2 b2
end
end Bt
namespace Bt
open PySem PySem.Spec PyProof.Rows L2
/-! ### sum of a tuple of ints -/
theorem sum_tup {prog : Program} {w : World} {A : Around} {E : Value → Shared → Prop} {s : Shared} {l : Addr} {its : List Value} {ns : List Int} {Q : Value → Shared → Prop} (hh : A.handled = none) (hl : IsTup s.heap l its.toArray) (hi : IntsAre its ns)
    (h : ∀ h' tk t', (∀ b o, s.heap.get? b = some o → h'.get? b = some o) → Q (.int ns.sum t') { s with heap := h', toks := tk }) : wpAny (model prog w) A (call (.builtin "sum") [.ref l]) Q E s := by
  obtain ⟨xs, e⟩ := hi.allInts.items
  have hn : numsOf (intItems xs).toList = ns := by rw [← e]; exact hi.numsOf
  rw [nums_intItems] at hn
  rw [e] at hl
  have hlt : l < s.heap.objs.size := by obtain ⟨_, e, _⟩ := hl; exact Heap.lt_size e
  refine call_sum_walkG (iter_tuple hl ?_)
  refine ⟨_, _, _, _, _, _, numAt xs, rfl, Walks.tuple (A := A.in1) hh _ l (Nat.ne_of_lt hlt) (intItems xs), ⟨⟨_, Heap.get?_push_size _ rfl, rfl, rfl⟩, ?_⟩, fun b hb => ?_, (fun _ _ => intItems_at), fun h' tk t' hk => ?_⟩
  · obtain ⟨o, ho, hc, n, hd⟩ := hl
    exact ⟨o, Heap.get?_push_of_some _ ho, hc, n, hd⟩
  · show b < (s.heap.push _).objs.size
    rw [Heap.size_push]
    rcases List.mem_cons.mp hb with rfl | hb
    · exact Nat.lt_succ_self _
    · rw [List.mem_singleton.mp hb]
      exact Nat.lt_succ_of_lt hlt
  · have := h h' tk t' fun b o e => hk b o (fun hm => by
      rw [List.mem_singleton.mp hm] at e
      exact absurd (Heap.lt_size e) (Nat.lt_irrefl _)) (Heap.get?_push_of_some _ e)
    rw [preSum_eq, List.take_of_length_le (by simp [intItems]), hn]
    exact this
def rSumT (K : PySem.W.Frag) : List V → Hp → VK → Prop := fun vs H Q => ∃ (a : Addr) (ns : List Int), vs = [V.ref a] ∧ SqT K H a (ns.map V.int) ∧ Q (.int ns.sum) H
theorem cr_sumT {X : Cx} (hc : X.calm = true) : CallR X (.builtin "sum") (rSumT X.K) := by
  intro pins s σ H vs us Q I r h
  obtain ⟨a, ns, rfl, hs, q⟩ := h
  obtain ⟨its, rv, hl, _⟩ := I.tuple hs
  rw [Vals.ref1 r]
  exact sum_tup (I.ok.hd hc) hl rv.ints fun h' tk t' hk => ⟨.int _, H, I.kept hk, ⟨_, rfl⟩, q⟩
theorem q_sumT {K : PySem.W.Frag} {H : Hp} {Q : VK} {a : Addr} {ns : List Int} (h : SqT K H a (ns.map V.int)) (q : Q (.int ns.sum) H) : rSumT K [.ref a] H Q := ⟨a, ns, rfl, h, q⟩
def rSumL (K : PySem.W.Frag) : List V → Hp → VK → Prop := fun vs H Q => ∃ (a : Addr) (ns : List Int), vs = [V.ref a] ∧ SqL K H a (ns.map V.int) ∧ Q (.int ns.sum) H
theorem cr_sumL {X : Cx} (hc : X.calm = true) : CallR X (.builtin "sum") (rSumL X.K) := cr_sum hc
theorem q_sumL {K : PySem.W.Frag} {H : Hp} {Q : VK} {a : Addr} {ns : List Int} (h : SqL K H a (ns.map V.int)) (q : Q (.int ns.sum) H) : rSumL K [.ref a] H Q := ⟨a, ns, rfl, h, q⟩
def rTupL (K : PySem.W.Frag) : List V → Hp → VK → Prop := fun xs H Q => ∃ p ys, xs = [.ref p] ∧ ((SqL K H p ys ∧ ∀ l, H l = none → Q (.ref l) (upd H l (.tup ys))) ∨ (SqT K H p ys ∧ Q (.ref p) H))
theorem call_tupL {X : Cx} : CallR X (.type "tuple") (rTupL X.K) := call_tuple_of
theorem q_tupL {K : PySem.W.Frag} {H : Hp} {Q : VK} {p : Addr} {ys : List V} (h : SqL K H p ys) (q : ∀ l H', H l = none → Same H H' → H' l = some (.tup ys) → Q (.ref l) H') : rTupL K [.ref p] H Q := ⟨p, ys, rfl, .inl ⟨h, fun l n => q l _ n (Same.new n) upd_same⟩⟩
end Bt
namespace Bt
open PySem PySem.Spec PyProof.Rows L2
theorem words7_ : True := by
  k_with "s_O5" => first
    | ((with_reducible refine' s_var ?hv ?_); (case hv => exact rfl))
    | with_reducible first
      | refine' s_c ?_ | refine' s_op ?_ | refine' s_asg ?_ | refine' s_gname ?_ | refine' s_seq ?_ | refine' s_next ?_ | refine' s_ret ?_ | refine' s_ifS ?_ | refine' s_drop ?_ | refine' s_retN ?_
      | refine' s_test ?_ | refine' s_B ?_ | refine' q_test ?_ | refine' s_int ?_ | refine' s_cons ?_ | refine' s_nil ?_ | refine' s_call ?_ | refine' s_CB ?_ | refine' s_andT ?_ | refine' s_orT ?_ | refine' s_notT ?_
      | refine' s_andV ?_ | refine' s_orV ?_ | refine' s_notV ?_ | refine' s_ifV ?_ | refine' s_chain ?_ | refine' s_sl ?_ | refine' s_noPart ?_ | refine' s_part ?_ | refine' s_gsub ?_ | refine' s_BM ?_ | refine' s_tup ?_ | refine' s_lst ?_
      | refine' q_add ?_ | refine' q_sub ?_ | refine' q_lt ?_ | refine' q_le ?_ | refine' q_gt ?_ | refine' q_ge ?_ | refine' s_ifT ?_ | refine' s_ifF ?_ | refine' s_yes ?_ | refine' s_prop ?_ | refine' s_iStr ?_ | refine' s_M0 ?_ | refine' s_make ?_ | refine' s_makeS ?_ | refine' s_prop ?_ | refine' s_raise1 ?_ | refine' s_for ?_ | refine' s_rng1 ?_ | refine' s_par ?_ | refine' s_gcons ?_ | refine' s_gnil ?_ | refine' s_iList ?_ | refine' s_iEnum ?_
      | (refine' q_mod ?hm ?_; (case hm => first | omega | decide)) | (refine' q_fdiv ?hm ?hn ?_; (case hm => first | omega | decide); (case hn => first | omega | decide))
      | (refine' q_mulR ?hm ?_; (case hm => first | omega | decide)) | (refine' q_mulL ?hm ?_; (case hm => first | omega | decide))
    | dsimp only
  k_with "r_O5" => repeat (k_extra "s_O5")
  trivial
/-! ### keys -/
def rkOf (l : Str) (c : Nat) : Nat := (Builtin.Str.occurrences l ⟨#[c]⟩ 0 l.length 1).headD 0
def rIdx : V → List V → Hp → VK → Prop := fun x xs H Q => ∃ a b i rest, x = .str a ∧ xs = [.str b] ∧ Builtin.Str.occurrences a b 0 a.length 1 = i :: rest ∧ Q (.int (i : Nat)) H
theorem mt_idx {X : Cx} : MtR X "str.index" rIdx := mt_sindex
theorem q_idx {H : Hp} {Q : VK} {l : Str} {c : Nat} (h : c ∈ l.cps.toList) (q : Q (.int (rkOf l c)) H) : rIdx (.str l) [.str ⟨#[c]⟩] H Q := by
  have f := PySem.StrLaws.found_one l c
  rw [decide_eq_true h] at f
  unfold rkOf at q
  cases e : Builtin.Str.occurrences l ⟨#[c]⟩ 0 l.length 1 with
  | nil => rw [e] at f; cases f
  | cons i rest =>
    rw [e] at q
    exact ⟨l, _, i, rest, rfl, rfl, e, q⟩
def rks (l z : Str) : List Int := z.cps.toList.map fun c => (rkOf l c : Int)
theorem take_rks (l z : Str) : (rks l z).take z.cps.size = rks l z := List.take_of_length_le (by unfold rks; rw [List.length_map, Array.length_toList]; exact Nat.le_refl _)
structure TxtK (K : PySem.W.Frag) (mg : Str → Option Value) : Prop where
  d_key_in : Df K mg "key_in" s_key_in ["form", "name"]
  d__law_key : Df K mg "_law_key" s__law_key ["_law_form_here", "_law_name_here"]
section
variable {P : Program} {w : World} {K : PySem.W.Frag} {mg : Str → Option Value} {base : Heap}
def spKey (C : Addr) : Sp := fun vs H Q _ => ∃ a z l c, vs = [.ref a, .str z] ∧ FormAt C H a l c ∧ Letters l ∧ 1 ≤ c ∧ Nm z ∧
  ∀ t r H', H t = none → Same H H' → H' r = some (.tup ((rks l z).map V.int)) → H' t = some (.tup [.int ((rks l z).sum % c), .ref r]) → Q (.ref t) H'
theorem ok_key_in {C : Addr} (T : Txt K mg) (L : TxtL K mg) (FC : FormC K mg C) (TK : TxtK K mg) : Cal P w K mg base 3 "key_in" (spKey C) := by
  refine TK.d_key_in.cal sc_key_in (fun vs H Q E h => ?_) (fun f cdv A outer s H vs Q E hr h => ?_)
  · obtain ⟨a, z, l, c, rfl, _⟩ := h
    rfl
  · obtain ⟨a, z, l, c, rfl, ha, ll, c1, nz, k⟩ := h
    refine ⟨_, (pss_cons (ps_set (i := 2) sc_key_in.nd rfl (.inl rfl) (pe_callTy call_tupL (by rfl) T.n_tuple (by decide +kernel) (pa_cons (pe_lc (own := [("letter", 3)]) (g := gName 3) (tt := tYes) (te := tBM K "str" rIdx (tProp C (getSp C "_letters") [] E0 (tVar 0)) (tCons (tVar 3) tNil)) rfl sc_key_in.nd (pi_str (pv 1)) (blkOk_by (own := [("letter", 3)]) (N := ["form", "name", "ranks", "letter"]) (sc := defScope s_key_in) (by decide +kernel)) (fun _ _ _ _ _ => pg_name (i := 3) sc_key_in.nd rfl (Or.inl rfl)) (fun _ _ _ _ _ => pts_nil) (fun s1 H1 C1 cl1 fp1 => by exact pe_bm PySem.F.plainAttrs_str PySem.F.slot_str_index PySem.F.type_str_index mt_idx (pe_letters FC hr (by decide) (pv 0)) (pa_cons (pv 3) pa_nil))) pa_nil)))
      (pss_one (ps_ret (pe_tup (pa_cons (pe_op op_modU (pe_callB (cr_sumT rfl) (by rfl) L.n_sum (by decide +kernel) (pa_cons (pv 2) pa_nil)) (pe_chains FC hr (by decide) (pv 0))) (pa_cons (pv 2) pa_nil)))))), ?_⟩
    k_extra "r_O5"
    refine s_lc ?_
    k_extra "r_O5"
    refine ⟨z, rfl, fun D nD => lc_str (z := z) (fun i H' => Same H H' ∧ H' D = some (.lst (((rks l z).take i).map V.int))) ⟨Same.new nD, upd_same⟩ ?_ ?_⟩
    · rintro j d H' hj ⟨S', hD⟩
      k_extra "r_O5"
      refine ⟨rfl, ?_⟩
      k_extra "r_O5"
      refine q_letters (ha.mono S') ⟨rfl, ?_⟩
      k_extra "r_O5"
      have hd : d ∈ l.cps.toList := ll.mem_iff.mpr (nz.2.2 d (List.mem_of_getElem? hj))
      have hk : (rks l z)[j]? = some (rkOf l d : Int) := by unfold rks; rw [List.getElem?_map, hj]; rfl
      refine q_idx hd ⟨_, hD, ?_, same_mut S' nD, ?_⟩
      · rw [List.length_map, List.length_take]
        exact szlt (by have := (List.getElem?_eq_some_iff.mp hj).1; rw [← len_cps] at this; have := nz.2.1; omega)
      · rw [upd_same, take_map_more hk]
    · rintro H2 ⟨S2, h2⟩
      rw [take_rks] at h2
      k_extra "r_O5"
      refine q_tupL (SqL.of h2) fun r H3 n3 S3 h3 => ?_
      k_extra "r_O5"
      refine q_sumT (SqT.of h3) ?_
      k_extra "r_O5"
      refine q_chains (ha.mono (S2.trans S3)) ?_
      k_extra "r_O5"
      refine q_newT (by show 2 ≤ sizeLine; decide) fun t H4 n4 S4 h4 => ?_
      exact k t r H4 ((S2.trans S3).free n4) ((S2.trans S3).trans S4) (S4 _ _ h3) h4
def spLKey : Sp := fun vs H Q _ => ∃ a z l c, vs = [.ref a, .str z] ∧ H a = some (.tup [.str l, .int c]) ∧ Letters l ∧ 1 ≤ c ∧ Nm z ∧
  ∀ t r H', H t = none → Same H H' → H' r = some (.lst ((rks l z).map V.int)) → H' t = some (.tup [.int ((rks l z).sum % c), .ref r]) → Q (.ref t) H'
theorem ok__law_key (L : TxtL K mg) (TK : TxtK K mg) : Cal P w K mg base 1 "_law_key" spLKey := by
  refine TK.d__law_key.cal sc__law_key (fun vs H Q E h => ?_) (fun f cdv A outer s H vs Q E hr h => ?_)
  · obtain ⟨a, z, l, c, rfl, _⟩ := h
    rfl
  · obtain ⟨a, z, l, c, rfl, ha, ll, c1, nz, k⟩ := h
    refine ⟨_, (pss_cons (ps_setLc (i := 2) (own := [("_law_letter", 3)]) (g := gName 3) (tt := tYes) (te := tBM K "str" rIdx (tOp (rIx K) (tVar 0) (tC (.int 0))) (tCons (tVar 3) tNil)) rfl sc__law_key.nd rfl rfl (sw_true rfl rfl rfl (by decide +kernel)) (pi_str (pv 1)) (blkOk_by (own := [("_law_letter", 3)]) (N := ["_law_form_here", "_law_name_here", "_law_ranks", "_law_letter"]) (sc := defScope s__law_key) (by decide +kernel)) (fun _ _ _ _ _ => pg_name (i := 3) sc__law_key.nd rfl (Or.inl rfl)) (fun _ _ _ _ _ => pts_nil) (fun _ _ _ _ _ => by exact (pe_bm PySem.F.plainAttrs_str PySem.F.slot_str_index PySem.F.type_str_index mt_idx (pe_ix ix_seq (pv 0) pe_int (fun _ _ => rfl)) (pa_cons (pv 3) pa_nil))))
      (pss_one (ps_ret (pe_tup (pa_cons (pe_op op_modU (pe_callB (cr_sumL rfl) (by rfl) L.n_sum (by decide +kernel) (pa_cons (pv 2) pa_nil)) (pe_ix ix_seq (pv 0) pe_int (fun _ _ => rfl))) (pa_cons (pv 2) pa_nil)))))), ?_⟩
    k_extra "r_O5"
    refine s_lc ?_
    k_extra "r_O5"
    refine ⟨z, rfl, fun D nD => lc_str (z := z) (fun i H' => Same H H' ∧ H' D = some (.lst (((rks l z).take i).map V.int))) ⟨Same.new nD, upd_same⟩ ?_ ?_⟩
    · rintro j d H' hj ⟨S', hD⟩
      k_extra "r_O5"
      refine ⟨rfl, ?_⟩
      k_extra "r_O5"
      refine q_ixT (SqT.of (S' _ _ ha)) (at_of (j := 0) rfl rfl) ⟨rfl, ?_⟩
      k_extra "r_O5"
      have hd : d ∈ l.cps.toList := ll.mem_iff.mpr (nz.2.2 d (List.mem_of_getElem? hj))
      have hk : (rks l z)[j]? = some (rkOf l d : Int) := by unfold rks; rw [List.getElem?_map, hj]; rfl
      refine q_idx hd ⟨_, hD, ?_, same_mut S' nD, ?_⟩
      · rw [List.length_map, List.length_take]
        exact szlt (by have := (List.getElem?_eq_some_iff.mp hj).1; rw [← len_cps] at this; have := nz.2.1; omega)
      · rw [upd_same, take_map_more hk]
    · rintro H2 ⟨S2, h2⟩
      rw [take_rks] at h2
      k_extra "r_O5"
      refine q_sumL (SqL.of h2) ?_
      k_extra "r_O5"
      refine q_ixT (SqT.of (S2 _ _ ha)) (at_of (j := 1) rfl rfl) ?_
      k_extra "r_O5"
      refine q_newT (by show 2 ≤ sizeLine; decide) fun t H4 n4 S4 h4 => ?_
      exact k t D H4 (S2.free n4) (S2.trans S4) (S4 _ _ h2) h4
end
end Bt
namespace Bt
open PySem PySem.Spec PyProof.Rows L2
theorem words8_ : True := by
  k_with "s_S5" => first
    | ((with_reducible refine' s_var ?hv ?_); (case hv => exact rfl))
    | with_reducible first
      | refine' s_c ?_ | refine' s_op ?_ | refine' s_asg ?_ | refine' s_gname ?_ | refine' s_seq ?_ | refine' s_next ?_ | refine' s_ret ?_ | refine' s_ifS ?_ | refine' s_drop ?_ | refine' s_retN ?_
      | refine' s_test ?_ | refine' s_B ?_ | refine' q_test ?_ | refine' s_int ?_ | refine' s_cons ?_ | refine' s_nil ?_ | refine' s_call ?_ | refine' s_CB ?_ | refine' s_andT ?_ | refine' s_orT ?_ | refine' s_notT ?_
      | refine' s_andV ?_ | refine' s_orV ?_ | refine' s_notV ?_ | refine' s_ifV ?_ | refine' s_chain ?_ | refine' s_sl ?_ | refine' s_noPart ?_ | refine' s_part ?_ | refine' s_gsub ?_ | refine' s_BM ?_ | refine' s_tup ?_ | refine' s_lst ?_
      | refine' q_add ?_ | refine' q_sub ?_ | refine' q_lt ?_ | refine' q_le ?_ | refine' q_gt ?_ | refine' q_ge ?_ | refine' s_ifT ?_ | refine' s_ifF ?_ | refine' s_yes ?_ | refine' s_prop ?_ | refine' s_iList ?_ | refine' s_iStr ?_ | refine' s_M0 ?_ | refine' s_make ?_ | refine' s_makeS ?_ | refine' s_prop ?_ | refine' s_raise1 ?_ | refine' s_for ?_ | refine' s_rng1 ?_ | refine' s_par ?_ | refine' s_gcons ?_ | refine' s_gnil ?_ | refine' s_iList ?_ | refine' s_iEnum ?_
      | (refine' q_mod ?hm ?_; (case hm => first | omega | decide)) | (refine' q_fdiv ?hm ?hn ?_; (case hm => first | omega | decide); (case hn => first | omega | decide))
      | (refine' q_mulR ?hm ?_; (case hm => first | omega | decide)) | (refine' q_mulL ?hm ?_; (case hm => first | omega | decide))
    | dsimp only
  k_with "r_S5" => repeat (k_extra "s_S5")
  trivial
/-! ### lists of names -/
open Classical in
noncomputable def nmB (x : V) : Bool := decide (NmV x)
theorem nmB_t {x : V} (h : NmV x) : nmB x = true := by unfold nmB; simp [h]
theorem nmB_f {x : V} (h : ¬ NmV x) : nmB x = false := by unfold nmB; simp [h]
def NameArg (K : PySem.W.Frag) (H : Hp) (y : V) : Prop := ∃ T, Pl K H y T ∧ ∀ z, y = .str z → z.length < 64
theorem NameArg.mono {K : PySem.W.Frag} {H H' : Hp} {y : V} (S : Same H H') (h : NameArg K H y) : NameArg K H' y := let ⟨T, a, b⟩ := h; ⟨T, a.mono S, b⟩
structure TxtS (K : PySem.W.Frag) (mg : Str → Option Value) : Prop where
  n_list : mg "list" = none
  d_is_name_list : Df K mg "is_name_list" s_is_name_list ["value"]
section
variable {P : Program} {w : World} {K : PySem.W.Frag} {mg : Str → Option Value} {base : Heap}
def spNameList (K : PySem.W.Frag) : Sp := fun vs H Q _ => ∃ x T, vs = [x] ∧ Pl K H x T ∧ ((T ≠ "list" ∧ Q (.bl false) H) ∨ (T = "list" ∧ ∃ a xs, x = .ref a ∧ H a = some (.lst xs) ∧ xs.length ≤ 100 ∧ (∀ y ∈ xs, NameArg K H y) ∧ ∀ H', Same H H' → Q (.bl (xs.all nmB)) H'))
theorem ok_is_name_list (T : Txt K mg) (N : TxtN K mg) (TS : TxtS K mg) : Cal P w K mg base 2 "is_name_list" (spNameList K) := by
  refine TS.d_is_name_list.cal sc_is_name_list (fun vs H Q E h => ?_) (fun f cdv A outer s H vs Q E hr h => ?_)
  · obtain ⟨x, ty, rfl, _⟩ := h
    rfl
  · obtain ⟨x, ty, rfl, hx, k⟩ := h
    refine ⟨_, (pss_one (ps_ret (pe_and (pe_callB call_isi (by rfl) T.n_isinstance (by decide +kernel) (pa_cons (pv 0) (pa_cons (pe_bltn (v := .ty "list") (by rfl) TS.n_list (by decide +kernel) rfl) pa_nil))) (pe_one (pe_callB (call_allB rfl) (by rfl) N.n_all (by decide +kernel) (pa_cons (pe_lc (own := [("item", 1)]) (g := gName 1) (tt := tYes) (te := tCall (spName K) [] E0 (tCons (tVar 1) tNil)) rfl sc_is_name_list.nd (pi_list (pv 0)) (blkOk_by (own := [("item", 1)]) (N := ["value", "item"]) (sc := defScope s_is_name_list) (by decide +kernel)) (fun _ _ _ _ _ => pg_name (i := 1) sc_is_name_list.nd rfl (Or.inl rfl)) (fun _ _ _ _ _ => pts_nil) (fun _ _ _ _ _ => by exact (pe_c (ok_is_name T N) hr (by decide) rfl (pa_cons (pv 1) pa_nil)))) pa_nil)))))), ?_⟩
    k_extra "r_S5"
    refine q_isi hx .lst ?_
    rcases k with ⟨hn, k⟩ | ⟨e, a, xs, rfl, ha, hl, hy, k⟩
    · have e2 : subKd ty "list" = false := by
        cases hx.2 <;> first | rfl | exact absurd rfl hn
      rw [e2]
      k_extra "r_S5"
      exact k
    · subst e
      k_extra "r_S5"
      refine s_if1 rfl ?_
      k_extra "r_S5"
      refine s_lc ?_
      k_extra "r_S5"
      refine ⟨a, rfl, ⟨xs, SqL.of ha⟩, fun D nD => lc_list (K := K) (a := a) (xs := xs) (fun i H' => Same H H' ∧ H' D = some (.lst (((xs.take i).map nmB).map V.bl))) ⟨Same.new nD, upd_same⟩ (fun i H' _ h => SqL.of (h.1 _ _ ha)) ?_ ?_⟩
      · rintro j y H' hj ⟨S', hD⟩
        k_extra "r_S5"
        refine ⟨rfl, ?_⟩
        k_extra "r_S5"
        obtain ⟨ty, hp, h64⟩ := (hy y (List.mem_of_getElem? hj)).mono S'
        have hlen : (((xs.take j).map nmB).map V.bl).length < sizeLine := by
          rw [List.length_map, List.length_map, List.length_take]
          exact szlt (by omega)
        have htk : (((xs.take j).map nmB).map V.bl) ++ [V.bl (nmB y)] = ((xs.take (j + 1)).map nmB).map V.bl := by
          rw [take_map_more hj, List.map_append]
          rfl
        refine ⟨y, ty, rfl, hp, h64, fun hn H2 S2 => ?_, fun hn H2 S2 => ?_⟩
        · exact ⟨_, S2 _ _ hD, hlen, same_mut (S'.trans S2) nD, by rw [upd_same, ← htk, nmB_f hn]⟩
        · exact ⟨_, S2 _ _ hD, hlen, same_mut (S'.trans S2) nD, by rw [upd_same, ← htk, nmB_t hn]⟩
      · rintro H2 ⟨S2, h2⟩
        rw [List.take_length] at h2
        k_extra "r_S5"
        refine q_allB (SqL.of h2) ?_
        rw [List.all_map]
        exact k H2 S2
end
end Bt
namespace Bt
open PySem PySem.Spec PyProof.Rows L2
/-! ### o(e, ..), o an instance with an own __call__ that may raise; what is raised is wished for at the caller's slots -/
section
variable {X : Cx} {CX : CXT} {k : Nat} {C g : Addr} {fd : FuncData} {ps : List Str} {sp : Sp} {E : L2.St → XK} {pos : Pos} {fe e : Expr} {es : List Expr} {tf : TE} {t : TA}
def tCallOS (C : Addr) (sp : Sp) (E : L2.St → XK) (tf : TE) (t : TA) : TE := fun σ H Q => tf σ H fun y H1 => ∃ a, y = V.ref a ∧ t σ H1 fun vs H2 => (∃ dx fs, H2 a = some (.ins C dx fs)) ∧ sp (V.ref a :: vs) H2 Q (E σ)
theorem run_callOS {pins : List (Addr × Obj)} {σ : L2.St} {H : Hp} {s : Shared} {Q : VK} {a : Addr} {us : List Value} {vs : List V} (c : StX.CallO X.K C g) (F : FnOk X.prog X.w X.K X.mg X.base CX k g fd ps sp) (hr : Room k X.A) (hb : Binds X.K fd ps [])
    (hx : PassesAt CX X σ (E σ)) (I : Inv X pins σ H s) (hi : ∃ dx fs, H a = some (.ins C dx fs)) (r : Vals vs us) (h : sp (V.ref a :: vs) H Q (E σ)) : wpAny (model X.prog X.w) X.A (call (.ref a) us) (EP X pins σ Q) X.xe s := by
  obtain ⟨ox, od, J, hd⟩ := StX.insC_at I (.inr hi)
  have r2 : Vals (V.ref a :: vs) (Value.ref a :: us) := .cons rfl r
  have hl : ((Value.ref a :: us) ++ []).length = ps.length := by rw [List.append_nil, ← r2.length]; exact F.len _ _ _ _ h
  have hb' := hb s (Value.ref a :: us) I.kIn hl
  rw [List.append_nil] at hb'
  refine wpAny_call (PySem.W.kco_code I.kIn J hd c.at_ c.fn c.fi (codeAny_mono (F.run X.A X.stack s H ⟨Value.ref a :: us, []⟩ (Value.ref a :: us) (V.ref a :: vs) Q (E σ) hr I.env0 hb' r2 h) fun r s' hq => ?_))
  cases r with
  | error e => exact hx pins H s e s' I hq
  | ok fl =>
    cases fl with
    | ret u => exact I.after hq
    | next => exact False.elim hq
    | brk => exact False.elim hq
    | cont => exact False.elim hq
theorem pe_callOS (hf : PE X fe tf) (c : StX.CallO X.K C g) (F : FnOk X.prog X.w X.K X.mg X.base CX k g fd ps sp) (hr : Room k X.A) (hb : Binds X.K fd ps []) (hx : ∀ σ, PassesAt CX X σ (E σ)) (ha : PA X (e :: es) t)
    (ht : eval (.Call fe (e :: es) [] pos) X.env = (do callWith pos (← eval fe X.env) [] (backTo pos (starEach (e :: es) X.env)) (backToKw pos (keywordEach [] X.env))) := by rfl)
    (he : starEach (e :: es) X.env = (false, eval e X.env) :: starEach es X.env := by rfl) (hpl : (backTo pos (starEach es X.env)).any (·.1) = false := by rfl) : PE X (.Call fe (e :: es) [] pos) (tCallOS C sp E tf t) := by
  refine ⟨fun pins s σ H Q I h => ?_⟩
  refine Call_ (thn (hf.run pins s σ H _ I h) fun u s1 ⟨y, H1, I1, ry, a, ey, q⟩ => ?_) ht
  subst ey
  obtain rfl : u = Value.ref a := ry
  refine StX.callO_with (thn (ha.run pos pins s1 σ H1 _ I1 q) fun us s2 ⟨vs, H2, I2, r, hi, q2⟩ => ?_) he hpl
  obtain ⟨ox, od, J, hd⟩ := StX.insC_at I2 (.inr hi)
  exact ⟨⟨C, ox, od, J, hd⟩, run_callOS c F hr hb (hx σ) I2 hi r q2⟩
theorem s_callOS {σ : L2.St} {H : Hp} {Q : VK} (h : tf σ H fun y H1 => ∃ a, y = V.ref a ∧ t σ H1 fun vs H2 => (∃ dx fs, H2 a = some (.ins C dx fs)) ∧ sp (V.ref a :: vs) H2 Q (E σ)) : tCallOS C sp E tf t σ H Q := h
end
end Bt
namespace Bt
open PySem PySem.Spec PyProof.Rows L2
theorem words10_ : True := by
  k_with "s_V5" => first
    | ((with_reducible refine' s_var ?hv ?_); (case hv => exact rfl))
    | with_reducible first
      | refine' s_c ?_ | refine' s_op ?_ | refine' s_asg ?_ | refine' s_gname ?_ | refine' s_seq ?_ | refine' s_next ?_ | refine' s_ret ?_ | refine' s_ifS ?_ | refine' s_drop ?_ | refine' s_retN ?_
      | refine' s_test ?_ | refine' s_B ?_ | refine' q_test ?_ | refine' s_int ?_ | refine' s_cons ?_ | refine' s_nil ?_ | refine' s_call ?_ | refine' s_CB ?_ | refine' s_andT ?_ | refine' s_orT ?_ | refine' s_notT ?_
      | refine' s_andV ?_ | refine' s_orV ?_ | refine' s_notV ?_ | refine' s_ifV ?_ | refine' s_chain ?_ | refine' s_sl ?_ | refine' s_noPart ?_ | refine' s_part ?_ | refine' s_gsub ?_ | refine' s_BM ?_ | refine' s_tup ?_ | refine' s_lst ?_
      | refine' q_add ?_ | refine' q_sub ?_ | refine' q_lt ?_ | refine' q_le ?_ | refine' q_gt ?_ | refine' q_ge ?_ | refine' s_ifT ?_ | refine' s_ifF ?_ | refine' s_yes ?_ | refine' s_prop ?_ | refine' s_iList ?_ | refine' s_callOS ?_ | refine' s_iStr ?_ | refine' s_M0 ?_ | refine' s_make ?_ | refine' s_makeS ?_ | refine' s_prop ?_ | refine' s_raise1 ?_ | refine' s_for ?_ | refine' s_rng1 ?_ | refine' s_par ?_ | refine' s_gcons ?_ | refine' s_gnil ?_ | refine' s_iList ?_ | refine' s_iEnum ?_
      | (refine' q_mod ?hm ?_; (case hm => first | omega | decide)) | (refine' q_fdiv ?hm ?hn ?_; (case hm => first | omega | decide); (case hn => first | omega | decide))
      | (refine' q_mulR ?hm ?_; (case hm => first | omega | decide)) | (refine' q_mulL ?hm ?_; (case hm => first | omega | decide))
    | dsimp only
  k_with "r_V5" => repeat (k_extra "s_V5")
  trivial
section
variable {P : Program} {w : World} {K : PySem.W.Frag} {mg : Str → Option Value} {base : Heap}
theorem dp_ints {K : PySem.W.Frag} {H : Hp} : ∀ ns : List Int, DpAll K H (ns.map V.int) (ns.map PyData.int)
  | [] => .nil
  | n :: ns => .cons (.int n) (dp_ints ns)
theorem dp_lst_ints {K : PySem.W.Frag} {H : Hp} {p : Addr} {ns : List Int} (h : H p = some (.lst (ns.map V.int))) : Dp K H (.ref p) (.list (ns.map PyData.int)) := .lst (SqL.of h) (dp_ints ns)
theorem canLay_ints : ∀ ns : List Int, PyData.canLayAll0 (ns.map PyData.int) = true
  | [] => by simp [PyData.canLayAll0]
  | n :: ns => by simp [PyData.canLayAll0, PyData.canLay0, canLay_ints ns]
theorem depth_ints : ∀ ns : List Int, PyData.depthAll (ns.map PyData.int) = 0
  | [] => by simp [PyData.depthAll]
  | n :: ns => by simp [PyData.depthAll, PyData.depth, depth_ints ns]
end
end Bt
namespace Bt
open PySem PySem.Spec PyProof.Rows L2
theorem words11_ : True := by
  k_with "s_W5" => first
    | ((with_reducible refine' s_var ?hv ?_); (case hv => exact rfl))
    | with_reducible first
      | refine' s_c ?_ | refine' s_op ?_ | refine' s_asg ?_ | refine' s_gname ?_ | refine' s_seq ?_ | refine' s_next ?_ | refine' s_ret ?_ | refine' s_ifS ?_ | refine' s_drop ?_ | refine' s_retN ?_
      | refine' s_test ?_ | refine' s_B ?_ | refine' q_test ?_ | refine' s_int ?_ | refine' s_cons ?_ | refine' s_nil ?_ | refine' s_call ?_ | refine' s_CB ?_ | refine' s_andT ?_ | refine' s_orT ?_ | refine' s_notT ?_
      | refine' s_andV ?_ | refine' s_orV ?_ | refine' s_notV ?_ | refine' s_ifV ?_ | refine' s_chain ?_ | refine' s_sl ?_ | refine' s_noPart ?_ | refine' s_part ?_ | refine' s_gsub ?_ | refine' s_BM ?_ | refine' s_tup ?_ | refine' s_lst ?_
      | refine' q_add ?_ | refine' q_sub ?_ | refine' q_lt ?_ | refine' q_le ?_ | refine' q_gt ?_ | refine' q_ge ?_ | refine' s_ifT ?_ | refine' s_ifF ?_ | refine' s_yes ?_ | refine' s_prop ?_ | refine' s_iList ?_ | refine' s_callOS ?_ | refine' s_iStr ?_ | refine' s_M0 ?_ | refine' s_make ?_ | refine' s_makeS ?_ | refine' s_prop ?_ | refine' s_raise1 ?_ | refine' s_for ?_ | refine' s_rng1 ?_ | refine' s_par ?_ | refine' s_gcons ?_ | refine' s_gnil ?_ | refine' s_iList ?_ | refine' s_iEnum ?_
      | (refine' q_mod ?hm ?_; (case hm => first | omega | decide)) | (refine' q_fdiv ?hm ?hn ?_; (case hm => first | omega | decide); (case hn => first | omega | decide))
      | (refine' q_mulR ?hm ?_; (case hm => first | omega | decide)) | (refine' q_mulL ?hm ?_; (case hm => first | omega | decide))
    | dsimp only
  k_with "r_W5" => repeat (k_extra "s_W5")
  trivial
/-! ### the key of a name is right -/
theorem shaped_ints (ns : List Int) : SeqAt.shaped (.list (ns.map PyData.int)) = true := by
  unfold SeqAt.shaped
  rw [Bool.and_eq_true]
  refine ⟨?_, ?_⟩
  · simp only [PyData.canLay0]; exact canLay_ints ns
  · simp only [PyData.depth, depth_ints]; decide
theorem s_iTup {K : PySem.W.Frag} {te : TE} {σ : L2.St} {H : Hp} {R : It → Hp → Prop} (h : te σ H fun x H1 => ∃ a, x = .ref a ∧ (∃ xs, SqT K H1 a xs) ∧ R (Itt K a) H1) : iTup K te σ H R := h
def rListOf (K : PySem.W.Frag) : List V → Hp → VK → Prop := fun xs H Q => ∃ p ys, xs = [.ref p] ∧ (SqL K H p ys ∨ SqT K H p ys) ∧ ∀ l, H l = none → Q (.ref l) (upd H l (.lst ys))
theorem call_listOf {X : Cx} : CallR X (.type "list") (rListOf X.K) := call_list_of
theorem q_listT {K : PySem.W.Frag} {H : Hp} {Q : VK} {p : Addr} {ys : List V} (h : SqT K H p ys) (q : ∀ l H', H l = none → Same H H' → H' l = some (.lst ys) → Q (.ref l) H') : rListOf K [.ref p] H Q := ⟨p, ys, rfl, .inr h, fun l n => q l _ n (Same.new n) upd_same⟩
theorem q_listL {K : PySem.W.Frag} {H : Hp} {Q : VK} {p : Addr} {ys : List V} (h : SqL K H p ys) (q : ∀ l H', H l = none → Same H H' → H' l = some (.lst ys) → Q (.ref l) H') : rListOf K [.ref p] H Q := ⟨p, ys, rfl, .inl h, fun l n => q l _ n (Same.new n) upd_same⟩
def rLenQ (K : PySem.W.Frag) : List V → Hp → VK → Prop := fun xs H Q => ∃ p ys, xs = [.ref p] ∧ (SqL K H p ys ∨ SqT K H p ys) ∧ Q (.int ys.length) H
theorem call_lenQ {X : Cx} : CallR X (.builtin "len") (rLenQ X.K) := call_len_seq
theorem q_lenT {K : PySem.W.Frag} {H : Hp} {Q : VK} {p : Addr} {ys : List V} (h : SqT K H p ys) (q : Q (.int ys.length) H) : rLenQ K [.ref p] H Q := ⟨p, ys, rfl, .inr h, q⟩
end Bt
namespace Bt
open PySem PySem.Spec PyProof.Rows L2 LamX NdefX
/-! ### a lambda as a value -/
structure LF where
  qual : Str
  params : Arguments
  body : Expr
  scope : Scope
  cl : List (Str × Addr)
  c : Addr
abbrev LF.fd (F : LF) (pm ctv : Value) : FuncData := PySem.W.kla_fn "<lambda>" F.qual F.params F.body F.scope F.cl pm (.ref F.c) ctv
def FnL (f : Addr) (F : LF) : HO := .ext fun h => ∃ (od : Option Addr) (sl : Array (Option Value)) (pm ctv : Value), h.get? f = some (⟨.type "function", od, .func (F.fd pm ctv), sl⟩ : Obj)
theorem fnL_at {P : Program} {w : World} {H : Hp} {h : Heap} {f : Addr} {F : LF} (hok : HOk P w H h) (e : H f = some (FnL f F)) : ∃ (od : Option Addr) (sl : Array (Option Value)) (pm ctv : Value), h.get? f = some (⟨.type "function", od, .func (F.fd pm ctv), sl⟩ : Obj) := by
  obtain ⟨z, _, _⟩ := hok f _ e
  exact z
section
variable {X : Cx} {pins : List (Addr × Obj)} {σ : L2.St} {H : Hp} {s : Shared}
theorem inv_lf {F : LF} {o : Obj} {t' : Nat} {pm ctv : Value} {h : Heap} (I : Inv X pins σ H { s with heap := h, toks := t' }) (ho : o = { cls := .type "function", data := .func (F.fd pm ctv) }) :
    Inv X pins σ (upd H h.objs.size (FnL h.objs.size F)) { s with heap := h.push o, toks := t' } := by
  subst ho
  refine I.laid (t' := t') (a := h.objs.size) (fun b u e => Heap.get?_push_of_some _ e) (Nat.le_refl _) ?_
  have e : (h.push ({ cls := .type "function", data := .func (F.fd pm ctv) } : Obj)).get? h.objs.size = some ({ cls := .type "function", data := .func (F.fd pm ctv) } : Obj) := Heap.get?_push_size _ rfl
  exact ⟨⟨_, _, pm, ctv, e⟩, ⟨_, e⟩, fun h1 h2 ⟨od, sl, p, t, z⟩ st => ⟨od, sl, p, t, st _ z⟩⟩
/-- the heap with one more row in the table at P: the code object c' of the place pos -/
def putT (H : Hp) (P c' : Addr) (ps : Array Value) (pos : Pos) (q : Str) : Hp := upd (upd H P (.tbl (ps ++ #[rawInt pos.line, rawInt pos.col, .ref c']))) c' (CodeO c' q)
section
variable {P c' : Addr} {ps : Array Value} {pos : Pos} {q : Str}
theorem putT_code : putT H P c' ps pos q c' = some (CodeO c' q) := upd_same
theorem putT_tab (hP : H P = some (.tbl ps)) (nC : H c' = none) : putT H P c' ps pos q P = some (.tbl (ps ++ #[rawInt pos.line, rawInt pos.col, .ref c'])) := (upd_ne (ne_of_none hP nC)).trans upd_same
theorem putT_ne {b : Addr} (h1 : b ≠ P) (h2 : b ≠ c') : putT H P c' ps pos q b = H b := (upd_ne h2).trans (upd_ne h1)
theorem putT_old (hP : H P = some (.tbl ps)) (nC : H c' = none) : ExtN H (putT H P c' ps pos q) := fun b o e n =>
  (putT_ne (fun z => by subst z; exact n ps (Option.some.inj (e.symm.trans hP))) (ne_of_none e nC)).trans e
theorem putT_none {b : Addr} (e : putT H P c' ps pos q b = none) : H b = none := upd_none (upd_none e)
theorem putT_tabs {T : List NTab} {nm : Nat → Nat → Str} (hT : TabsN T H) (hP : H P = some (.tbl ps)) (nC : H c' = none) (ok : TriplesOk ps.toList) (own : ∀ (p' : Pos) (cv : Value), codeAmong p' ps.toList = some cv → ∃ d, cv = .ref d ∧ H d = some (CodeO d (nm p'.line p'.col)))
    (hq : nm pos.line pos.col = q) (hu : ∀ p ∈ T, p.1 = P → p.2 = nm) : TabsN T (putT H P c' ps pos q) := by
  have lift : ∀ {d : Addr} {r : Str}, H d = some (CodeO d r) → putT H P c' ps pos q d = some (CodeO d r) := fun e => putT_old hP nC _ _ e codeO_ne
  rintro ⟨R, mm⟩ hp
  by_cases hR : R = P
  · subst hR
    obtain rfl : mm = nm := hu _ hp rfl
    refine ⟨_, putT_tab hP nC, ?_⟩
    rw [show (ps ++ #[rawInt pos.line, rawInt pos.col, Value.ref c']).toList = ps.toList ++ [rawInt pos.line, rawInt pos.col, .ref c'] by simp]
    refine ⟨TriplesOk_snoc _ _ _ _ ok, fun p' cv hcv => (among_app2 _ ok hcv).elim (fun old => ?_) (fun new => ?_)⟩
    · obtain ⟨d, ed, hd⟩ := own p' cv old
      exact ⟨d, ed, lift hd⟩
    · obtain ⟨ec, el, ek⟩ := new
      exact ⟨c', ec, by rw [putT_code, ← hq, el, ek]⟩
  · obtain ⟨qs, t1, t2, t3⟩ := hT _ hp
    refine ⟨qs, (putT_ne hR (ne_of_none t1 nC)).trans t1, t2, fun p' cv hcv => ?_⟩
    obtain ⟨d, ed, hd⟩ := t3 p' cv hcv
    exact ⟨d, ed, lift hd⟩
end
/-- what the maker of a lambda goes on with -/
def LamK (T : List NTab) (H : Hp) (mk : Addr → LF) (f c' : Addr) (H1 : Hp) : Prop :=
  ExtN H H1 ∧ (∀ b, H1 b = none → H b = none) ∧ TabsN T H1 ∧ H f = none ∧ H1 f = some (FnL f (mk c')) ∧ H1 c' = some (CodeO c' (mk c').qual)
theorem lamK_of {T : List NTab} {H H0 : Hp} {mk : Addr → LF} {f c' : Addr} (old : ExtN H H0) (bk : ∀ b, H0 b = none → H b = none) (ht : TabsN T H0) (hc : H0 c' = some (CodeO c' (mk c').qual)) (nf : H0 f = none) : LamK T H mk f c' (upd H0 f (FnL f (mk c'))) := by
  have st : ∀ {b : Addr} {o : HO}, H0 b = some o → upd H0 f (FnL f (mk c')) b = some o := fun e => (upd_ne (ne_of_none e nf)).trans e
  exact ⟨fun b o e n => st (old b o e n), fun b e => bk b (upd_none e), ht.ext fun _ _ e => st e, bk f nf, upd_same, st hc⟩
theorem lam_makeN {T : List NTab} {nm : Nat → Nat → Str} {c P : Addr} {params : Arguments} {body : Expr} {scope : Scope} {pos : Pos} {mk : Addr → LF} {E : Value → Shared → Prop} {Q : Value → Shared → Prop} (I : Inv X pins σ H s) (TB : TabB X.base X.mg c P) (hcode : X.env.code = .ref c)
    (hm : (P, nm) ∈ T) (hu : ∀ p ∈ T, p.1 = P → p.2 = nm) (hT : TabsN T H) (hdef : defaultsOf params X.env = ([], [])) (hfree : ∀ y ∈ scope.names, y.2 = .free → ∃ c, X.env.cells.lookup y.1 = some c)
    (hmk : ∀ d, mk d = ⟨X.env.qual ++ "<lambda>", params, body, scope, cloFrom X.env.cells scope.names [], d⟩) (hn : nm pos.line pos.col = X.env.qual ++ "<lambda>")
    (go : ∀ (f c' : Addr) (H1 : Hp) (s' : Shared), Inv X pins σ H1 s' → LamK T H mk f c' H1 → Q (.ref f) s') :
    wpAny (model X.prog X.w) X.A (eval (.Lambda params body scope pos) X.env) Q E s := by
  have tab := hT _ hm
  obtain ⟨ps, hP, ok, own⟩ := (tab : TabN H P nm)
  have gP := I.hok P _ hP
  have code := TB.code.keeps I.bk
  have glob := I.mod.glob.keeps I.bk
  have bm := TB.bm.keeps I.bk
  have qual : ∀ d, (mk d).qual = X.env.qual ++ "<lambda>" := fun d => by rw [hmk]
  refine PySem.W.kla_eval hdef ?_
  rcases hc : codeAmong pos ps.toList with _ | cv
  · refine PySem.W.kla_makeFunction (closure_ok hfree) I.ok.glob glob hcode code gP ok hc TB.gP bm ?_
    intro c' ctv g tk keep up lt rec_ row
    obtain ⟨d0, oc, vs, t, e0, l1, l2, l3⟩ := rec_
    cases e0
    have nC : H c' = none := I.hok.fresh up
    have J : Inv X pins σ (putT H P c' ps pos (X.env.qual ++ "<lambda>")) { s with heap := g, toks := tk } := inv_table I hP (fun b o n e => keep b o n e) row up ⟨oc, vs, t, l1, l2, l3⟩
    have nf := J.hok.fresh (Nat.le_refl g.objs.size)
    refine go _ c' _ _ (inv_lf (F := mk c') J (by rw [hmk])) (lamK_of (putT_old hP nC) (fun _ e => putT_none e) (putT_tabs hT hP nC ok own hn hu) ?_ nf)
    rw [qual]
    exact putT_code
  · obtain ⟨d, rfl, hd⟩ := own pos cv hc
    refine PySem.W.kla_makeFunctionHit (closure_ok hfree) I.ok.glob glob hcode code gP ok hc bm ?_
    intro ctv g tk keep _
    have J : Inv X pins σ H { s with heap := g, toks := tk } := I.kept keep
    refine go _ d _ _ (inv_lf (F := mk d) J (by rw [hmk])) (lamK_of (fun _ _ e _ => e) (fun _ e => e) hT ?_ (J.hok.fresh (Nat.le_refl g.objs.size)))
    rw [qual, ← hn]
    exact hd
end
def tLamV (T : List NTab) (mk : Addr → LF) : TE := fun σ H Q => TabsN T H ∧ ∀ (f c' : Addr) (H1 : Hp), LamK T H mk f c' H1 → Q (.ref f) H1
theorem pe_lambda {X : Cx} {T : List NTab} {nm : Nat → Nat → Str} {c P : Addr} {params : Arguments} {body : Expr} {scope : Scope} {pos : Pos} (TB : TabB X.base X.mg c P) (hcode : X.env.code = .ref c) (hm : (P, nm) ∈ T) (hn : nm pos.line pos.col = X.env.qual ++ "<lambda>") (hu : ∀ p ∈ T, p.1 = P → p.2 = nm)
    (hfree : ∀ y ∈ scope.names, y.2 = .free → X.env.scope.names.lookup y.1 = some .cell ∨ X.env.scope.names.lookup y.1 = some .free) (hdef : defaultsOf params X.env = ([], []) := by rfl) :
    PE X (.Lambda params body scope pos) (tLamV T fun d => ⟨X.env.qual ++ "<lambda>", params, body, scope, cloFrom X.env.cells scope.names [], d⟩) := by
  refine ⟨fun pins s σ H Q I h => ?_⟩
  obtain ⟨hT, go⟩ := h
  exact lam_makeN I TB hcode hm hu hT hdef (fun y hy e => (hfree y hy e).elim (fun z => I.ok.has _ (.inl z)) fun z => I.ok.has _ (.inr z)) (fun _ => rfl) hn fun f c' H1 s' J k => ⟨.ref f, H1, J, rfl, go f c' H1 k⟩
end Bt
namespace Bt
open PySem PySem.Spec PyProof.Rows L2 LamX NdefX
/-! ### a lambda's run -/
abbrev LF.nf (F : LF) : NF := ⟨"<lambda>", F.qual, F.params, [], F.scope, F.cl, F.c⟩
theorem lam_run {CX : CXT} {P : Program} {w : World} {K : PySem.W.Frag} {mg : Str → Option Value} {base : Heap} {N ps fr : List Str} {F : LF} {f : Addr} {k : Nat} {A : Around} {outer : List Env} {s : Shared} {H : Hp} {us : List Value} {vs : List V} {ws : List (Option V)} {Q : VK} {E : XK} {t : TE}
    (S : NScope N ps fr F.scope) (hb : ∀ (pm ctv : Value) (xs : List Value), xs.length = ps.length → bindArgs (F.fd pm ctv) ⟨xs, []⟩ = pure (ps.zip xs)) (hl : vs.length = ps.length) (hr : Room (k + 1) A) (e0 : Env0 P w K mg base A outer s H)
    (hf : H f = some (FnL f F)) (hc : H F.c = some (CodeO F.c F.qual)) (C : CellsAt F.cl fr ws s.heap H) (r : Vals vs us)
    (body : PE (ncx CX P w K mg base N F.nf f A outer s H E) F.body t) (q : t (startF N vs ws) H Q) : codeAny (model P w) A (.call (.ref f) ⟨us, []⟩) (CR CX outer P w H s Q E) s := by
  have lim := e0.mod.nolimit.keeps fun b o e => (e0.bs b o e).1
  obtain ⟨_, _, pm, ctv, at_⟩ := fnL_at e0.hok hf
  refine PySem.W.kla_callFunE hr.depth at_ rfl S.co S.gen rfl (codeO_at e0.hok hc) ?_
  rw [hb pm ctv us (r.length.symm.trans hl)]
  refine wpAny_pure (wpAny_newFunctionEnv S.nocell (fun y hy => S.par y.1 (List.of_mem_zip hy).1) (fun g hns hsb => ⟨lim.fresh _ hsb, ?_⟩) S.kind)
  have old : ∀ b o, s.heap.get? b = some o → g.get? b = some o := fun b o e => hsb.extBut b o (Nat.ne_of_lt (Heap.lt_size e)) (Heap.get?_push_of_some _ e)
  have J := inv_startN (CX := CX) (F := F.nf) (f := f) (E := E) (tk := s.toks + (ps.zip us).length) S hr.hd e0 hl r C hns old
  refine PySem.W.kla_codeExpr (wpAny_mono (body.run [] _ _ H Q J q) (fun v s' z => ?_) fun _ _ z => z)
  obtain ⟨x, H', J', rv, qv⟩ := z
  exact ⟨x, H', J'.os, J'.bare, J'.base, J'.hok, rv, qv⟩
end Bt
namespace Bt
open PySem PySem.Spec PyProof.Rows L2 LamX NdefX
open FbM (Rec rec_new)
open PySem.W (EachIs AllAlike Sortable KeyedOut KeepsBut dataLe dataKind sortVals copyHeap)
/-! ### sorted(xs, key=f), f an own def or lambda: the turns, the state carried by the frame's invariant -/
section
variable {X : Cx} {pins : List (Addr × Obj)} {σ : L2.St} {H : Hp} {s : Shared} {a kS : Addr} {e1 : Nat} {bs : List Str} {k : Str → PyData} {q : Addr}
/-- the state behind the keys ds -/
structure KeySt (X : Cx) (pins : List (Addr × Obj)) (σ : L2.St) (H : Hp) (a kS : Addr) (e1 : Nat) (ds : List PyData) (s : Shared) : Prop where
  ex : ∃ (Hn : Hp) (kA : Array Value) (e : Nat), Inv X pins σ Hn s ∧ Same H Hn ∧ Hn a = none ∧ Hn kS = none ∧ s.heap.get? a = some (seqObj "list" #[] e1) ∧ s.heap.get? kS = some (seqObj "list" kA e) ∧
    EachIs (fun v d => ∃ y, RelV y v ∧ Dp X.K Hn y d) kA.toList ds
/-- one key: from any state of the frame, the heap grown -/
def KeyRun (X : Cx) (pins : List (Addr × Obj)) (σ : L2.St) (H : Hp) (q : Addr) (bs : List Str) (k : Str → PyData) : Prop :=
  ∀ (b : Str) (u : Value), b ∈ bs → RelV (.str b) u → ∀ (s' : Shared) (Hn : Hp), Inv X pins σ Hn s' → Same H Hn →
    codeAny (model X.prog X.w) X.A.in1.in1 (.call (.ref q) ⟨[u], []⟩) (CR CX0 X.stack X.prog X.w Hn s' (fun y H2 => Same Hn H2 ∧ Dp X.K H2 y (k b)) E0) s'
theorem same_none {H H' : Hp} {b : Addr} (S : Same H H') (h : H' b = none) : H b = none := by
  cases e : H b with
  | none => rfl
  | some o =>
    rw [S b o e] at h
    cases h
theorem key_loop {P : PySem.Fin → Shared → Prop} {E : Value → Shared → Prop} (ra : Rec X pins a) (rk : Rec X pins kS) (hka : kS ≠ a) {us : List Value} (hv : Vals (bs.map V.str) us) (hz : us.length ≤ 1000) (turn : KeyRun X pins σ H q bs k)
    (st : KeySt X pins σ H a kS e1 [] s) (done : ∀ s' Hn kA e, Inv X pins σ Hn s' → Same H Hn → Hn a = none → Hn kS = none → s'.heap.get? a = some (seqObj "list" #[] e1) → s'.heap.get? kS = some (seqObj "list" kA e) →
      EachIs (fun v d => ∃ y, RelV y v ∧ Dp X.K Hn y d) kA.toList (bs.map k) → wpAny (model X.prog X.w) X.A.in1.in1 (ksk_end a false us.toArray e1 (.ref kS) kA) P E s') :
    wpAny (model X.prog X.w) X.A.in1.in1 (ksk_rest a (.ref q) false us.toArray e1 (.ref kS)) P E s := by
  have hlen : us.length = bs.length := by rw [← hv.length, List.length_map]
  unfold ksk_rest
  refine wpAny_bind (wpAny_rule ?_)
  first
    | rw [List.forIn_toArray]
    | rw [← Array.forIn_toList]
  refine wpAny_bind (ksk_fold (fun i s' => KeySt X pins σ H a kS e1 ((bs.map k).take i) s') us 0 s (by rw [List.take_zero]; exact st) ?turns ?last)
  case turns =>
    intro j u s' hu S
    simp only [Nat.zero_add] at S ⊢
    have hj : j < bs.length := by
      have := (List.getElem?_eq_some_iff.mp hu).1
      omega
    have hb : bs[j]? = some bs[j] := List.getElem?_eq_getElem hj
    have hx : (bs.map V.str)[j]? = some (V.str bs[j]) := by rw [List.getElem?_map, hb]; rfl
    obtain ⟨u', hu', ru⟩ := hv.get hx
    have e : u' = u := Option.some.inj (hu'.symm.trans hu)
    subst e
    obtain ⟨Hn, kA, e, I, sm, na, nk, ga, gk, ks⟩ := S
    have hkz : kA.size ≤ 1000 := by
      have h1 := ks.length
      rw [Array.length_toList, List.length_take] at h1
      omega
    refine wpAny_bind (wpAny_attempt (wpAny_call (codeAny_mono (turn _ _ (List.mem_of_getElem? hb) ru s' Hn I sm) fun rr s2 hrr => ?_)))
    cases rr with
    | error er => exact False.elim hrr
    | ok fl =>
      cases fl with
      | next => exact False.elim hrr
      | brk => exact False.elim hrr
      | cont => exact False.elim hrr
      | ret v =>
        obtain ⟨y, H2, os, bare, un, hok, ry, sm2, dy⟩ := (show CE X.stack X.prog X.w Hn s' _ v s2 from hrr)
        have I2 : Inv X pins σ H2 s2 := I.call' os un hok bare (fun b z => absurd z List.not_mem_nil)
        have ga2 := un.keep _ _ ga na ra.fr List.not_mem_nil
        have gk2 := un.keep _ _ gk nk rk.fr List.not_mem_nil
        have na2 : H2 a = none := un.free _ _ ga na List.not_mem_nil
        have nk2 : H2 kS = none := un.free _ _ gk nk List.not_mem_nil
        have sb := Heap.SameBut.update s2.heap kS (Obj.mapSeq (·.push v))
        obtain ⟨c2, hc2⟩ : ∃ c2, (s2.heap.update kS (Obj.mapSeq (·.push v))).get? kS = some (seqObj "list" (kA.push v) c2) := ⟨_, get?_update_seq gk2 (·.push v)⟩
        refine wpAny_bind (listUpdate_at gk2 rfl ?_ (sz (by omega)) (by rw [Array.size_push]; exact Nat.le_succ_of_le (szlt (by omega))))
        have I3 : Inv X pins σ H2 { s2 with heap := s2.heap.update kS (Obj.mapSeq (·.push v)) } := rk.turn (t' := s2.toks) I2 nk2 fun c o hc e => sb.extBut c o hc e
        refine wpAny_pure ⟨rfl, H2, kA.push v, c2, I3, fun b o z => sm2 _ _ (sm _ _ z), na2, nk2, (sb.2 a hka.symm).trans ga2, hc2, ?_⟩
        have ek : (bs.map k).take (j + 1) = (bs.map k).take j ++ [k bs[j]] := by
          rw [List.take_add_one, List.getElem?_map, hb]
          simp
        have ea : (kA.push v).toList = kA.toList ++ [v] := by simp
        rw [ea, ek]
        exact PySem.W.each_snoc ⟨y, ry, dy⟩ (ks.mono fun v d z => by
          obtain ⟨y', r', d'⟩ := z
          exact ⟨y', r', Dp.mono sm2 d'⟩)
  case last =>
    intro s' S
    obtain ⟨Hn, kA, e, I, sm, na, nk, ga, gk, ks⟩ := S
    have e3 : (bs.map k).take (0 + us.length) = bs.map k := List.take_of_length_le (by rw [List.length_map]; omega)
    rw [e3] at ks
    refine wpAny_bind (listItems_at gk rfl ?_)
    exact done s' Hn kA e I sm na nk ga gk ks
/-- the whole sort: the new list stands at D -/
theorem key_sorted {P : PySem.Fin → Shared → Prop} {E : Value → Shared → Prop} (ra : Rec X pins a) (rk : Rec X pins kS) (hka : kS ≠ a) {us : List Value} (hv : Vals (bs.map V.str) us) (hz : us.length ≤ 1000) (hal : AllAlike (bs.map k)) (hsk : Sortable (bs.map k)) (hu : ∀ b, b ∈ bs → X.A.in1.in1.units + (k b).depth < cLine) (turn : KeyRun X pins σ H q bs k)
    (st : KeySt X pins σ H a kS e1 [] s) (done : ∀ s' Hn, Inv X pins σ (upd Hn a (.lst ((bs.mergeSort (dataLe false k)).map V.str))) s' → Same H Hn → Hn a = none → P (.done (.ret .none)) s') :
    wpAny (model X.prog X.w) X.A.in1.in1 (ksk_rest a (.ref q) false us.toArray e1 (.ref kS)) P E s := by
  have hlen : us.length = bs.length := by rw [← hv.length, List.length_map]
  refine key_loop ra rk hka hv hz turn st fun s' Hn kA e I sm na nk ga gk ks => ?_
  have hsz : kA.size = us.length := by
    have h1 := ks.length
    rw [Array.length_toList, List.length_map] at h1
    omega
  have rd : EachIs (fun v d => ∃ as, Reads s'.heap v d as) kA.toList (bs.map k) := ks.mono fun v d z => by
    obtain ⟨y, r, dp⟩ := z
    exact Dp.reads I d y v dp r
  obtain ⟨G, g1, g2⟩ := restrict s'.heap fun b => decide (b ≠ kS) && decide (b ≠ a)
  obtain ⟨G0, f1, f2⟩ := restrict s'.heap fun b => decide (b ≠ kS)
  have gk0 : G.get? kS = none := g2 kS (by simp)
  have ga0 : G.get? a = none := g2 a (by simp)
  have gs : ∀ b o, b ≠ kS → b ≠ a → s'.heap.get? b = some o → G.get? b = some o := fun b o h1 h2 z => (g1 b (by simp [h1, h2])).trans z
  have gb : ∀ b o, G.get? b = some o → s'.heap.get? b = some o := fun b o z => by
    have h1 : b ≠ kS := fun q => by rw [q, gk0] at z; cases z
    have h2 : b ≠ a := fun q => by rw [q, ga0] at z; cases z
    exact (g1 b (by simp [h1, h2])).symm.trans z
  have fs : ∀ b o, b ≠ kS → s'.heap.get? b = some o → G0.get? b = some o := fun b o h1 z => (f1 b (by simp [h1])).trans z
  have fb : ∀ b o, G0.get? b = some o → b ≠ kS ∧ s'.heap.get? b = some o := fun b o z => by
    have h1 : b ≠ kS := fun q => by rw [q, f2 kS (by simp)] at z; cases z
    exact ⟨h1, (f1 b (by simp [h1])).symm.trans z⟩
  have I0 : Inv X pins σ Hn { s' with heap := G0 } := rk.turn (t' := s'.toks) I nk fs
  have I1 : Inv X pins σ Hn { s' with heap := G } := ra.turn (s := { s' with heap := G0 }) (h' := G) (t' := s'.toks) I0 na fun c o hc z => gs c o (fb c o z).1 hc (fb c o z).2
  have kp : KeepsBut a G s'.heap := fun b o _ z => gb b o z
  have eo : EachIs (fun v b => RelV (V.str b) v) us bs := by
    have key : ∀ {l : List Str} {vs : List Value}, Vals (l.map V.str) vs → EachIs (fun v b => RelV (V.str b) v) vs l := fun {l} => by
      induction l with
      | nil => intro vs r; cases r; exact .nil
      | cons x l ih => intro vs r; cases r with | cons h1 h2 => exact .cons h1 (ih h2)
    exact key hv
  have ou : EachIs (fun v b => RelV (V.str b) v) (sortVals (dataKind s'.heap (bs.map k)) false kA.toList us) (bs.mergeSort (dataLe false k)) := PySem.W.keyedOut_each k ⟨s'.heap, kA.toList, hal, rfl, rd⟩ eo
  refine PySem.W.keyH_end (κ := dataKind s'.heap (bs.map k)) (h₁ := G) (vs := us) kp gk0 gk ga hka (PySem.W.SortsAt.data (s := s') rd hal hsk fun d hd => ?_) hsz (sz (by omega)) fun h' tk c k3 n3 => ?_
  · obtain ⟨b, hb, rfl⟩ := List.mem_map.mp hd
    exact hu b hb
  · have J := Inv.laidN (t' := tk) (h' := h') (o := .lst ((bs.mergeSort (dataLe false k)).map V.str)) I1 (fun b u z => k3 b u (fun q => by rw [q] at z; exact nomatch (ga0.symm.trans z)) z) ga0 na ?_
    · exact done _ Hn J sm na
    · refine ⟨?_, _, c, ?_, n3⟩
      · rw [List.length_map, List.length_mergeSort]
        exact sz (by omega)
      · have key : ∀ {l : List Str} {vs : List Value}, EachIs (fun v b => RelV (V.str b) v) vs l → Vals (l.map V.str) vs := fun {l} => by
          induction l with
          | nil => intro vs r; cases r; exact .nil
          | cons x l ih => intro vs r; cases r with | cons h1 h2 => exact .cons h1 (ih h2)
        exact key ou
theorem sorted_key_inv {l : Addr} {Q : Value → Shared → Prop} {E : Value → Shared → Prop} (I : Inv X pins σ H s) (hl : SqL X.K H l (bs.map V.str)) (hz : bs.length ≤ 1000) (hal : AllAlike (bs.map k)) (hsk : Sortable (bs.map k)) (hu : ∀ b, b ∈ bs → X.A.in1.in1.units + (k b).depth < cLine) (turn : KeyRun X pins σ H q bs k)
    (go : ∀ D s' Hn, Inv X pins σ (upd Hn D (.lst ((bs.mergeSort (dataLe false k)).map V.str))) s' → Same H Hn → Hn D = none → Q (.ref D) s') :
    wpAny (model X.prog X.w) X.A (call (.builtin "sorted") [.ref l] [(Str.ofString "key", .ref q)]) Q E s := by
  obtain ⟨us, hv, pl, _⟩ := I.list hl
  have hlen : us.length = bs.length := by rw [← hv.length, List.length_map]
  refine PySem.W.sorted_of_sort pl.isList (sz (by omega)) (ksk_s1 _ _) (fun _ => ksk_l1 _ _) fun E' => ?_
  rw [ksk_t1]
  have ho := PySem.W.copyHeap_at s.heap us
  have old : ∀ b o, s.heap.get? b = some o → b ≠ s.heap.objs.size + 1 ∧ (copyHeap s.heap us).get? b = some o := fun b o e => ⟨Nat.ne_of_lt (Nat.lt_succ_of_lt (Heap.lt_size e)), PySem.W.copyHeap_old e⟩
  have la : s.heap.objs.size + 1 < (copyHeap s.heap us).objs.size := Heap.lt_size ho
  obtain ⟨e1, ho1⟩ : ∃ e1, ((copyHeap s.heap us).update (s.heap.objs.size + 1) (Obj.mapSeq fun _ => (#[] : Array Value))).get? (s.heap.objs.size + 1) = some (seqObj "list" #[] e1) := ⟨_, get?_update_seq ho fun _ => #[]⟩
  unfold ksk_tree
  refine wpAny_bind (listItems_at ho rfl ?_)
  refine wpAny_bind (listUpdate_at ho rfl ?_ (by rw [List.size_toArray]; exact sz (by omega)) (Nat.zero_le _))
  refine wpAny_bind (seqEpoch_at ho1 rfl ?_)
  refine wpAny_bind (wpAny_newTuple ?_ (by show us.length ≤ _; exact sz (by omega)))
  refine wpAny_bind (wpAny_newList ?_ (Nat.zero_le _))
  refine wpAny_holding ?_
  generalize hg : ((copyHeap s.heap us).update (s.heap.objs.size + 1) (Obj.mapSeq fun _ => (#[] : Array Value))).push (seqObj "tuple" us.toArray 0) = g
  have keep : ∀ b o, b ≠ s.heap.objs.size + 1 → (copyHeap s.heap us).get? b = some o → (g.push (seqObj "list" #[] 0)).get? b = some o := fun b o hb e => by
    rw [← hg]
    exact Heap.get?_push_of_some _ (Heap.get?_push_of_some _ ((Heap.get?_update_other _ _ (Ne.symm hb)).trans e))
  have ga : (g.push (seqObj "list" #[] 0)).get? (s.heap.objs.size + 1) = some (seqObj "list" #[] e1) := by
    rw [← hg]
    exact Heap.get?_push_of_some _ (Heap.get?_push_of_some _ ho1)
  have lg : (copyHeap s.heap us).objs.size ≤ g.objs.size := by
    rw [← hg, size_push', Heap.size_update]
    exact Nat.le_succ _
  have I1 : Inv X pins σ H { s with heap := g.push (seqObj "list" #[] 0) } := I.kept (t' := s.toks) fun b o e => keep b o (old b o e).1 (old b o e).2
  have na : H (s.heap.objs.size + 1) = none := I.hok.fresh (Nat.le_succ _)
  have nk : H g.objs.size = none := I.hok.fresh (Nat.le_trans (Nat.le_of_lt (Nat.lt_of_succ_lt la)) lg)
  refine key_sorted (a := s.heap.objs.size + 1) (kS := g.objs.size) (rec_new I (Nat.le_succ _)) (rec_new I (Nat.le_trans (Nat.le_of_lt (Nat.lt_of_succ_lt la)) lg)) (Nat.ne_of_gt (Nat.lt_of_lt_of_le la lg)) hv (by omega) hal hsk hu turn
    ⟨H, #[], 0, I1, fun _ _ e => e, na, nk, ga, Heap.get?_push_size _ rfl, .nil⟩ fun s' Hn J sm n => ⟨rfl, go _ s' Hn J sm n⟩
end
end Bt
namespace Bt
open PySem PySem.Spec PyProof.Rows L2 LamX NdefX
open PySem.W (AllAlike Sortable dataLe)
/-! ### the rule: sorted(xs, key=lambda x: ..) -/
/-- what the sort asks and gives: xs a list of texts, the keys by k -/
def rSK (K : PySem.W.Frag) (run : Hp → Str → VK → Prop) (x : V) (H : Hp) (Q : VK) : Prop := ∃ (l : Addr) (bs : List Str) (k : Str → PyData), x = .ref l ∧ SqL K H l (bs.map V.str) ∧ bs.length ≤ 1000 ∧ AllAlike (bs.map k) ∧ Sortable (bs.map k) ∧ (∀ b ∈ bs, (k b).depth ≤ 8) ∧
  (∀ b ∈ bs, ∀ Hn, Same H Hn → run Hn b fun y H3 => Same Hn H3 ∧ Dp K H3 y (k b)) ∧
  ∀ D Hn H3, Same H Hn → Hn D = none → Same Hn H3 → H3 D = some (.lst ((bs.mergeSort (dataLe false k)).map V.str)) → Q (.ref D) H3
def tSK (K : PySem.W.Frag) (T : List NTab) (mk : Addr → LF) (N' : List Str) (js : List Nat) (tb : TE) (ta : TA) : TE := fun σ H Q => ta σ H fun xs H1 => ∃ x, xs = [x] ∧ TabsN T H1 ∧ ∀ f c' H2, LamK T H1 mk f c' H2 → rSK K (fun Hn b R => tb (startF N' [.str b] (js.map (slotAt σ))) Hn R) x H2 Q
section
variable {X : Cx} {T : List NTab} {nm : Nat → Nat → Str} {c P : Addr} {params : Arguments} {body e : Expr} {scope : Scope} {p pos lpos kpos : Pos} {tb : TE} {ta : TA} {N' fr : List Str} {x : Str} {js : List Nat} {j : Nat}
theorem pe_sortKey (TB : TabB X.base X.mg c P) (hcode : X.env.code = .ref c) (hm : (P, nm) ∈ T) (hn : nm lpos.line lpos.col = X.env.qual ++ "<lambda>") (hu : ∀ p ∈ T, p.1 = P → p.2 = nm)
    (hfree : ∀ y ∈ scope.names, y.2 = .free → X.env.scope.names.lookup y.1 = some .cell ∨ X.env.scope.names.lookup y.1 = some .free) (S : NScope N' [x] fr scope) (hfr : ∀ y ∈ fr, (y, NameKind.free) ∈ scope.names) (hjs : js.map (fun j => X.N[j]?) = fr.map some)
    (hr : Room (j + 3) X.A) (hg : Gl X "sorted") (hs : X.mg "sorted" = none) (ha : PA X (e :: []) ta)
    (hbody : ∀ (d f : Addr) (s' : Shared) (Hn : Hp), Room j (X.A.in1.in1.deeper (envF (LF.nf ⟨X.env.qual ++ "<lambda>", params, body, scope, cloFrom X.env.cells scope.names [], d⟩) f s'.heap.objs.size)) →
      PE (ncx CX0 X.prog X.w X.K X.mg X.base N' (LF.nf ⟨X.env.qual ++ "<lambda>", params, body, scope, cloFrom X.env.cells scope.names [], d⟩) f X.A.in1.in1 X.stack s' Hn E0) body tb)
    (hb : ∀ (d : Addr) (pm ctv v : Value), bindArgs (LF.fd ⟨X.env.qual ++ "<lambda>", params, body, scope, cloFrom X.env.cells scope.names [], d⟩ pm ctv) ⟨[v], []⟩ = pure [(x, v)])
    (hdef : defaultsOf params X.env = ([], []) := by rfl) (h1 : backTo pos (starEach (e :: []) X.env) = (false, eval e X.env) :: backTo pos (starEach [] X.env) := by rfl) (h2 : (backTo pos (starEach (e :: []) X.env)).any (·.1) = false := by rfl)
    (h3 : (backToKw pos (keywordEach [⟨some "key", .Lambda params body scope lpos, kpos⟩] X.env)).all (·.1.isSome) = true := by rfl) (h4 : (backToKw pos (keywordEach [⟨some "key", .Lambda params body scope lpos, kpos⟩] X.env)).any (·.1.isNone) = false := by rfl)
    (h5 : (backToKw pos (keywordEach [⟨some "key", .Lambda params body scope lpos, kpos⟩] X.env)).filterMap (·.1) = [Str.ofString "key"] := by rfl) :
    PE X (.Call (.Name "sorted" p) [e] [⟨some "key", .Lambda params body scope lpos, kpos⟩] pos) (tSK X.K T (fun d => ⟨X.env.qual ++ "<lambda>", params, body, scope, cloFrom X.env.cells scope.names [], d⟩) N' js tb ta) := by
  have lam := pe_lambda (T := T) (params := params) (body := body) (pos := lpos) TB hcode hm hn hu hfree hdef
  refine ⟨fun pins s σ H Q I h => ?_⟩
  refine wpAny_Call_Name_kw (ld_blt I hg hs (by decide +kernel : bootBuiltins "sorted" = some (.builtin "sorted")) ?_ (by decide) (by decide))
  refine PyProof.Rows.callWith_kw (thn (ha.run pos pins s σ H _ I h) fun us s1 z1 => ?_) h1 h2 h3 h4
  obtain ⟨vs, H1, I1, r1, y, ey, tab, go⟩ := z1
  refine thn ((pk_cons lam pk_nil).run pos pins s1 σ H1 (fun zs H2 => ∃ f c', zs = [.ref f] ∧ LamK T H1 _ f c' H2) I1 ⟨tab, fun f c' H2 L => s_nil ⟨f, c', rfl, L⟩⟩) fun ws s2 z2 => ?_
  obtain ⟨zs, H2, I2, r2, f, c', ez, L⟩ := z2
  subst ey ez
  rw [h5]
  obtain ⟨l, bs, k, rfl, hl, hz, hal, hsk, hd, runs, fin⟩ := go f c' H2 L
  cases r1 with
  | @cons _ u _ ur ra rr =>
    cases rr
    cases r2 with
    | @cons _ w _ wr rf rw' =>
      cases rw'
      obtain rfl : u = Value.ref l := ra
      obtain rfl : w = Value.ref f := rf
      have ri : Room (j + 1) X.A.in1.in1 := (Room.in1 (k := j + 2) hr).in1
      refine sorted_key_inv I2 hl hz hal hsk (fun b hb => ?_) (fun b u hb' ru s' Hn J sm => ?_) fun D s' Hn J sm n => ⟨.ref D, _, J, rfl, fin D Hn _ sm n (Same.new n) upd_same⟩
      · have := hd b hb
        have := ri.units
        omega
      · have e0 := J.env0
        have e1 : Env0 X.prog X.w X.K X.mg X.base X.A.in1.in1 X.stack s' Hn := ⟨e0.1, e0.mod, e0.bs, e0.bsz, e0.funs, e0.frf, e0.hok, e0.bare⟩
        have Lf := L.2.2.2.2.1
        have Lc := L.2.2.2.2.2
        exact lam_run (us := [u]) (vs := [.str b]) S (fun pm ctv xs hx => by
          match xs, hx with
          | [v], _ => exact hb c' pm ctv v) rfl ri e1 (sm _ _ Lf) (sm _ _ Lc) (cells_of J (Caps.made J.ok hfree hfr hjs)) (.cons ru .nil) (hbody c' f s' Hn (ri.deeper _)) (runs b hb' Hn sm)
end
end Bt
namespace Bt
open PySem PySem.Spec PyProof.Rows L2 LamX NdefX
open PySem.W (AllAlike Sortable dataLe dataLt alike)
/-! ### heaps that grow but for the tables of code objects -/
theorem ext_lst {H H' : Hp} {a : Addr} {xs : List V} (S : ExtN H H') (h : H a = some (.lst xs)) : H' a = some (.lst xs) := S _ _ h fun _ z => nomatch z
theorem ext_tup {H H' : Hp} {a : Addr} {xs : List V} (S : ExtN H H') (h : H a = some (.tup xs)) : H' a = some (.tup xs) := S _ _ h fun _ z => nomatch z
theorem ext_ins {H H' : Hp} {a C dx : Addr} {fs : List (Str × V)} (S : ExtN H H') (h : H a = some (.ins C dx fs)) : H' a = some (.ins C dx fs) := S _ _ h fun _ z => nomatch z
theorem ext_xd {H H' : Hp} {a : Addr} {fs : List (Str × V)} (S : ExtN H H') (h : H a = some (.xd fs)) : H' a = some (.xd fs) := S _ _ h fun _ z => nomatch z
theorem ext_same {H H' : Hp} (S : Same H H') : ExtN H H' := ExtN.of S
theorem SqT_monoN {K : PySem.W.Frag} {H H' : Hp} {a : Addr} {xs : List V} (e : ExtN H H') (h : SqT K H a xs) : SqT K H' a xs := by
  rcases h with (h | ⟨o, h⟩) | h
  · exact .inl (.inl (ext_tup e h))
  · exact .inl (.inr ⟨o, e _ _ h fun _ z => nomatch z⟩)
  · exact .inr h
theorem SqL_monoN {K : PySem.W.Frag} {H H' : Hp} {a : Addr} {xs : List V} (e : ExtN H H') (h : SqL K H a xs) : SqL K H' a xs := by
  rcases h with (h | ⟨o, h⟩) | h
  · exact .inl (.inl (ext_lst e h))
  · exact .inl (.inr ⟨o, e _ _ h fun _ z => nomatch z⟩)
  · exact .inr h
mutual
theorem Dp.monoN {K : PySem.W.Frag} {H H' : Hp} (S : ExtN H H') : ∀ {v : V} {d : PyData}, Dp K H v d → Dp K H' v d
  | _, _, .non => .non
  | _, _, .bl b => .bl b
  | _, _, .int i => .int i
  | _, _, .str x => .str x
  | _, _, .lst h r => .lst (SqL_monoN S h) (DpAll.monoN S r)
  | _, _, .tup h r => .tup (SqT_monoN S h) (DpAll.monoN S r)
theorem DpAll.monoN {K : PySem.W.Frag} {H H' : Hp} (S : ExtN H H') : ∀ {vs : List V} {ds : List PyData}, DpAll K H vs ds → DpAll K H' vs ds
  | _, _, .nil => .nil
  | _, _, .cons h r => .cons (Dp.monoN S h) (DpAll.monoN S r)
end
theorem TyX.monoN {K : PySem.W.Frag} {H H' : Hp} {x : V} {t : Value} (S : ExtN H H') (h : TyX K H x t) : TyX K H' x t := by
  cases h with
  | base b =>
    cases b with
    | non => exact .base .non
    | bl z => exact .base (.bl z)
    | int z => exact .base (.int z)
    | str z => exact .base (.str z)
    | flt z => exact .base (.flt z)
    | lst e => exact .base (.lst (ext_lst S e))
    | frz e => exact .base (.frz (S _ _ e fun _ z => nomatch z))
    | tup e => exact .base (.tup (ext_tup S e))
    | dK e => exact .base (.dK (S _ _ e fun _ z => nomatch z))
    | dT e => exact .base (.dT (S _ _ e fun _ z => nomatch z))
    | ins e cl ha hn htk hm => exact .base (.ins (ext_ins S e) cl ha hn htk hm)
  | byt b => exact .byt b
  | set e => exact .set (S _ _ e fun _ z => nomatch z)
  | kList e c => exact .kList e c
  | kTuple e c => exact .kTuple e c
  | kDict e c => exact .kDict e c
  | fTuple e => exact .fTuple (S _ _ e fun _ z => nomatch z)
  | fDict e => exact .fDict (S _ _ e fun _ z => nomatch z)
theorem Pl.monoN {K : PySem.W.Frag} {H H' : Hp} {x : V} {T : String} (S : ExtN H H') (h : Pl K H x T) : Pl K H' x T := ⟨TyX.monoN S h.1, h.2⟩
/-- a list's object is written: the tables stay -/
theorem TabsN.but {T : List NTab} {H H' : Hp} {p : Addr} {xs : List V} (t : TabsN T H) (hp : H p = some (.lst xs)) (B : But p H H') : TabsN T H' := by
  rintro ⟨P, nm⟩ hm
  obtain ⟨ps, h1, h2, h3⟩ := t _ hm
  have ne : ∀ {b : Addr} {o : HO}, H b = some o → o ≠ .lst xs → b ≠ p := fun e n z => by
    rw [z, hp] at e
    exact n (Option.some.inj e).symm
  refine ⟨ps, B _ _ (ne h1 fun z => nomatch z) h1, h2, fun pos cv hc => ?_⟩
  obtain ⟨c, e1, e2⟩ := h3 pos cv hc
  exact ⟨c, e1, B _ _ (ne e2 fun z => by
    have z' : HO.ext _ = HO.lst xs := z
    cases z') e2⟩
/-! ### a def whose code object is known -/
structure FunC (K : PySem.W.Frag) (x qual : Str) (st : Stmt) (f : Addr) (fd : FuncData) (c : Addr) : Prop where
  ex : ∃ (oc : Value) (od : Option Addr) (kV doc pm : Value) (an : Option Addr) (ct : Value) (osl : Array (Option Value)),
    fd = PySem.W.fnOf x qual (defArgs st) (defBody st) (defScope st) .none kV doc pm an (.ref c) ct ∧ K.lookup f = some ⟨oc, od, .func fd, osl⟩ ∧ PySem.W.codeIn K (.ref c) qual = true
  kp : PySem.W.keepIn K (.ref f) = true
section
variable {P : Program} {w : World} {K : PySem.W.Frag} {mg : Str → Option Value} {base : Heap} {x qual : Str} {st : Stmt} {f c : Addr} {fd : FuncData} {N ps : List Str} {k : Nat} {sp : Sp}
theorem FunC.fn (F : FunC K x qual st f fd c) : Fun K x qual st f fd := by
  obtain ⟨oc, od, kV, doc, pm, an, ct, osl, rfl, lk, hc⟩ := F.ex
  exact ⟨⟨oc, od, kV, doc, pm, an, .ref c, ct, osl, rfl, lk, hc⟩, F.kp⟩
theorem FunC.ok (F : FunC K x qual st f fd c) (S : FnScope N ps (defScope st)) (len : ∀ vs H Q E, sp vs H Q E → vs.length = ps.length)
    (hbody : ∀ (A : Around) (outer : List Env) (s : Shared) (H : Hp) (vs : List V) (Q : VK) (E : XK), Room k (A.deeper (envOfC qual (defScope st) s.heap.objs.size f (.ref c))) → sp vs H Q E →
      ∃ t, PSs (cxOf CX0 P w K mg base N qual (defScope st) f (.ref c) A outer s H E).nox (defBody st) t ∧ t { nx := fun _ H' => Q .non H', rt := Q } (start N vs) H) : FnOk P w K mg base CX0 (k + 1) f fd ps sp := by
  obtain ⟨oc, od, kV, doc, pm, an, ct, osl, rfl, lk, hc⟩ := F.ex
  refine fn_of lk hc S len fun A outer s H vs Q E hr hs => ?_
  obtain ⟨t, h, q⟩ := hbody A outer s H vs Q E hr hs
  exact ⟨t, h.nox, q⟩
theorem FunC.okX (F : FunC K x qual st f fd c) (S : FnScope N ps (defScope st)) (len : ∀ vs H Q E, sp vs H Q E → vs.length = ps.length)
    (hbody : ∀ (A : Around) (outer : List Env) (s : Shared) (H : Hp) (vs : List V) (Q : VK) (E : XK), Room k (A.deeper (envOfC qual (defScope st) s.heap.objs.size f (.ref c))) → sp vs H Q E →
      ∃ t, PSs (cxOf (L2.CX P w) P w K mg base N qual (defScope st) f (.ref c) A outer s H E) (defBody st) t ∧ t { nx := fun _ H' => Q .non H', rt := Q } (start N vs) H) : FnOk P w K mg base (L2.CX P w) (k + 1) f fd ps sp := by
  obtain ⟨oc, od, kV, doc, pm, an, ct, osl, rfl, lk, hc⟩ := F.ex
  exact fn_of lk hc S len hbody
end
/-! ### keys of two kinds that sort alike -/
def kTup (g : Str → Int) (r : Str → List Int) (z : Str) : PyData := .tuple [.int (g z), .tuple ((r z).map .int)]
def kLst (g : Str → Int) (r : Str → List Int) (z : Str) : PyData := .tuple [.int (g z), .list ((r z).map .int)]
section
variable {g : Str → Int} {r : Str → List Int} {bs : List Str}
theorem alike_tup (xs ys : List Int) : alike (.tuple (xs.map .int)) (.tuple (ys.map .int)) = true := by simp [alike, PySem.W.alike_ints]
theorem alike_lst (xs ys : List Int) : alike (.list (xs.map .int)) (.list (ys.map .int)) = true := by simp [alike, PySem.W.alike_ints]
theorem kTup_alike : AllAlike (bs.map (kTup g r)) := AllAlike.of fun b b' => by
  show alike (.tuple [.int (g b), .tuple ((r b).map .int)]) (.tuple [.int (g b'), .tuple ((r b').map .int)]) = true
  rw [alike, PySem.W.alikeAll, PySem.W.alikeAll, alike_tup]
  simp [alike, PySem.W.alikeAll]
theorem kLst_alike : AllAlike (bs.map (kLst g r)) := AllAlike.of fun b b' => by
  show alike (.tuple [.int (g b), .list ((r b).map .int)]) (.tuple [.int (g b'), .list ((r b').map .int)]) = true
  rw [alike, PySem.W.alikeAll, PySem.W.alikeAll, alike_lst]
  simp [alike, PySem.W.alikeAll]
theorem kTup_sort : Sortable (bs.map (kTup g r)) := Sortable.tuples fun b => ⟨_, _, rfl⟩
theorem kLst_sort : Sortable (bs.map (kLst g r)) := Sortable.tuples fun b => ⟨_, _, rfl⟩
theorem kTup_depth (z : Str) : (kTup g r z).depth ≤ 8 := by
  show PyData.depth (.tuple [.int (g z), .tuple ((r z).map .int)]) ≤ 8
  simp only [PyData.depth, PyData.depthAll, PySem.W.depth_ints]
  decide
theorem kLst_depth (z : Str) : (kLst g r z).depth ≤ 8 := by
  show PyData.depth (.tuple [.int (g z), .list ((r z).map .int)]) ≤ 8
  simp only [PyData.depth, PyData.depthAll, PySem.W.depth_ints]
  decide
theorem key_lt (z z' : Str) : dataLt (kTup g r z) (kTup g r z') = dataLt (kLst g r z) (kLst g r z') := by
  unfold kTup kLst
  rw [PySem.W.dataLt_pair (by simp [alike]) (alike_tup _ _), PySem.W.dataLt_pair (by simp [alike]) (alike_lst _ _)]
  have e1 : PyData.eqv (.tuple ((r z).map .int)) (.tuple ((r z').map .int)) = PyData.eqv (.list ((r z).map .int)) (.list ((r z').map .int)) := by simp [PyData.eqv]
  have e2 : dataLt (.tuple ((r z).map .int)) (.tuple ((r z').map .int)) = dataLt (.list ((r z).map .int)) (.list ((r z').map .int)) := by rw [PySem.W.dataLt_tuple, PySem.W.dataLt_list]
  rw [e1, e2]
theorem key_le : dataLe false (kTup g r) = dataLe false (kLst g r) := by
  rw [PySem.W.dataLe_eq, PySem.W.dataLe_eq]
  funext a b
  show (!dataLt (kTup g r b) (kTup g r a)) = (!dataLt (kLst g r b) (kLst g r a))
  rw [key_lt]
end
end Bt
namespace Bt
open PySem PySem.Spec PyProof.Rows L2
/-! ### o.m(e, ..), m may raise: what is raised is wished for at the caller's slots -/
section
variable {X : Cx} {CX : CXT} {k : Nat} {C g : Addr} {fd : FuncData} {ps : List Str} {sp : Sp} {E : L2.St → XK} {pos apos : Pos} {o e : Expr} {es : List Expr} {to : TE} {t : TA} {m : Str}
def tMethE (C : Addr) (m : Str) (sp : Sp) (E : L2.St → XK) (to : TE) (t : TA) : TE := fun σ H Q => to σ H fun y H1 => ∃ a dx fs, y = V.ref a ∧ H1 a = some (.ins C dx fs) ∧ fs.lookup m = none ∧ t σ H1 fun vs H2 => sp (V.ref a :: vs) H2 Q (E σ)
theorem pe_methE {pl : Sem Bool} (ho : PE X o to) (c : Cls X.K C) (hm : Meth X.K C m g) (F : FnOk X.prog X.w X.K X.mg X.base CX k g fd ps sp) (hr : Room k X.A) (hb : Binds X.K fd ps []) (hx : ∀ σ, PassesAt CX X σ (E σ)) (ha : PA X (e :: es) t)
    (ht : eval (.Call (.Attribute o m apos) (e :: es) [] pos) X.env = (do
      let y ← eval o X.env
      standAt apos.atName
      let (f, first) ← holding [y] (getMethod y m pl)
      callWith pos f first (backTo pos (starEach (e :: es) X.env)) (backToKw pos (keywordEach [] X.env))) := by rfl)
    (hst : starEach (e :: es) X.env = (false, eval e X.env) :: starEach es X.env := by rfl) (hpl : (backTo pos (starEach es X.env)).any (·.1) = false := by rfl) :
    PE X (.Call (.Attribute o m apos) (e :: es) [] pos) (tMethE C m sp E to t) := by
  refine ⟨fun pins s σ H Q I h => ?_⟩
  refine PySem.W.methodCall_KW (pl := pl) (thn (ho.run pins s σ H _ I h) fun u s1 z => ?_) ht
  obtain ⟨y, H1, I1, ry, a, dx, fs, ey, ea, l, q⟩ := z
  subst ey
  obtain rfl : u = Value.ref a := ry
  refine getmeth_ok I1 ea c hm l (PySem.W.callWith_K (first := [.ref a]) (h₀ := X.base) I.ok.mod.kin hm.kp (thn (ha.run pos pins s1 σ H1 _ I1 q) fun us s2 z2 => ?_) hst hpl)
  obtain ⟨vs, H2, I2, r, q2⟩ := z2
  refine ⟨I2.kIn, ?_⟩
  exact run_fnSD (us := .ref a :: us) (vs := .ref a :: vs) (dvs := []) F hr hb .nil (hx σ) I2 (.cons rfl r) (by rw [List.append_nil]; exact q2)
theorem s_methE {σ : L2.St} {H : Hp} {Q : VK} (h : to σ H fun y H1 => ∃ a dx fs, y = V.ref a ∧ H1 a = some (.ins C dx fs) ∧ fs.lookup m = none ∧ t σ H1 fun vs H2 => sp (V.ref a :: vs) H2 Q (E σ)) : tMethE C m sp E to t σ H Q := h
end
end Bt
namespace Bt
open PySem PySem.Spec PyProof.Rows L2
open PySem.W (dataLt alike)
/-! ### a < b of data that are alike -/
def rLtD (K : PySem.W.Frag) : R2 := fun x y H Q => ∃ d e, Dp K H x d ∧ Dp K H y e ∧ alike d e = true ∧ d ≠ .none ∧ d.depth ≤ 60 ∧ Q (.bl (dataLt d e)) H
theorem op_ltD {X : Cx} (hu : X.A.units + 64 < cLine) : OpR X (compareOp .Lt) (rLtD X.K) := by
  intro pins s σ H x y v u Q I rx ry h
  obtain ⟨d, e, dx, dy, al, nn, dp, q⟩ := h
  obtain ⟨as, r1⟩ := Dp.reads I d x v dx rx
  obtain ⟨bs, r2⟩ := Dp.reads I e y u dy ry
  show wpAny (model X.prog X.w) X.A (richCompare .Lt v u) (EP X pins σ Q) X.xe s
  exact PySem.W.rcLt_alike d e X.A s v u as bs r1 r2 al nn (by omega) X.prog X.w _ _ ⟨.bl _, H, I, rfl, q⟩
theorem q_ltD {K : PySem.W.Frag} {x y : V} {H : Hp} {Q : VK} {d e : PyData} (dx : Dp K H x d) (dy : Dp K H y e) (al : alike d e = true) (nn : d ≠ .none) (dp : d.depth ≤ 60) (q : Q (.bl (dataLt d e)) H) : rLtD K x y H Q := ⟨d, e, dx, dy, al, nn, dp, q⟩
end Bt
namespace Bt
open PySem PySem.Spec PyProof.Rows L2 LamX NdefX
open PySem.W (dataLe)
theorem words21_ : True := by
  k_with "s_Y5" => first
    | ((with_reducible refine' s_var ?hv ?_); (case hv => exact rfl))
    | with_reducible first
      | refine' s_c ?_ | refine' s_op ?_ | refine' s_asg ?_ | refine' s_gname ?_ | refine' s_seq ?_ | refine' s_next ?_ | refine' s_ret ?_ | refine' s_ifS ?_ | refine' s_drop ?_ | refine' s_retN ?_
      | refine' s_test ?_ | refine' s_B ?_ | refine' q_test ?_ | refine' s_int ?_ | refine' s_cons ?_ | refine' s_nil ?_ | refine' s_call ?_ | refine' s_CB ?_ | refine' s_andT ?_ | refine' s_orT ?_ | refine' s_notT ?_
      | refine' s_andV ?_ | refine' s_orV ?_ | refine' s_notV ?_ | refine' s_ifV ?_ | refine' s_chain ?_ | refine' s_sl ?_ | refine' s_noPart ?_ | refine' s_part ?_ | refine' s_gsub ?_ | refine' s_BM ?_ | refine' s_tup ?_ | refine' s_lst ?_
      | refine' q_add ?_ | refine' q_sub ?_ | refine' q_lt ?_ | refine' q_le ?_ | refine' q_gt ?_ | refine' q_ge ?_ | refine' s_ifT ?_ | refine' s_ifF ?_ | refine' s_yes ?_ | refine' s_prop ?_ | refine' s_iList ?_ | refine' s_callOS ?_ | refine' s_iStr ?_ | refine' s_M0 ?_ | refine' s_make ?_ | refine' s_makeS ?_ | refine' s_prop ?_ | refine' s_raise1 ?_ | refine' s_for ?_ | refine' s_rng1 ?_ | refine' s_par ?_ | refine' s_gcons ?_ | refine' s_gnil ?_ | refine' s_iList ?_ | refine' s_iEnum ?_
      | (refine' q_mod ?hm ?_; (case hm => first | omega | decide)) | (refine' q_fdiv ?hm ?hn ?_; (case hm => first | omega | decide); (case hn => first | omega | decide))
      | (refine' q_mulR ?hm ?_; (case hm => first | omega | decide)) | (refine' q_mulL ?hm ?_; (case hm => first | omega | decide))
    | dsimp only
  k_with "r_Y5" => repeat (k_extra "s_Y5")
  trivial
/-! ### the sorted names -/
abbrev qL : Str := "_law_ordered.<locals>.<lambda>"
structure Tb1 (base : Heap) (mg : Str → Option Value) (T : List NTab) (cL PL : Addr) : Prop where
  bL : TabB base mg cL PL
  mL : (PL, fun _ _ => qL) ∈ T
  uL : ∀ p ∈ T, p.1 = PL → p.2 = fun _ _ => qL
abbrev gK (l : Str) (c : Int) (z : Str) : Int := (rks l z).sum % c
def srt (l : Str) (c : Int) (bs : List Str) : List Str := bs.mergeSort (dataLe false (kLst (gK l c) (rks l)))
structure TxtY (K : PySem.W.Frag) (mg : Str → Option Value) (cL : Addr) : Prop where
  n_sorted' : True
  d__law_ordered : ∃ (f : Addr) (fd : FuncData), FunC K "_law_ordered" "_law_ordered" s__law_ordered f fd cL ∧ mg "_law_ordered" = some (.ref f) ∧ Binds K fd ["_law_form_here", "_law_names_here"] []
section
variable {P : Program} {w : World} {K : PySem.W.Frag} {mg : Str → Option Value} {base : Heap} {T : List NTab} {cL PL C : Addr}
def spLOrd (K : PySem.W.Frag) (T : List NTab) : Sp := fun vs H Q _ => ∃ a p l c bs, vs = [.ref a, .ref p] ∧ H a = some (.tup [.str l, .int c]) ∧ Letters l ∧ 1 ≤ c ∧ SqL K H p (bs.map V.str) ∧ bs.length ≤ 1000 ∧ (∀ b ∈ bs, Nm b) ∧ TabsN T H ∧
  ∀ D H', H D = none → ExtN H H' → TabsN T H' → H' D = some (.lst ((srt l c bs).map V.str)) → Q (.ref D) H'
theorem ok__law_ordered (X0 : Txt K mg) (L : TxtL K mg) (TK : TxtK K mg) (Y : TxtY K mg cL) (B : Tb1 base mg T cL PL) : Cal P w K mg base 5 "_law_ordered" (spLOrd K T) := by
  obtain ⟨f, fd, F, g, b⟩ := Y.d__law_ordered
  refine ⟨f, fd, _, F.ok (k := 4) sc__law_ordered (fun vs H Q E h => ?_) (fun A outer s H vs Q E hr h => ?_), g, F.kp, b⟩
  · obtain ⟨a, p, l, c, bs, rfl, _⟩ := h
    rfl
  · obtain ⟨a, p, l, c, bs, rfl, ha, ll, c1, hp, hz, hn, ht, k⟩ := h
    refine ⟨_, (pss_one (ps_ret (pe_sortKey (j := 1) (T := T) (N' := ["_law_name_here", "_law_form_here"]) (fr := ["_law_form_here"]) (js := [0]) B.bL rfl B.mL rfl B.uL (ndef_free (sc := defScope s__law_ordered) (fr := ["_law_form_here"]) (by decide +kernel)) (nscope_by (by decide +kernel)) (ndef_fr (sc := defScope s__law_ordered) (by decide +kernel)) rfl hr rfl X0.n_sorted (pa_cons (pv 1) pa_nil)
      (fun d f s' Hn hr2 => by exact pe_c (ok__law_key L TK) hr2 (by decide) rfl (pa_cons (pv 1) (pa_cons (pv 0) pa_nil))) (fun _ _ _ _ => rfl)))), ?_⟩
    k_extra "r_Y5"
    refine ⟨.ref p, rfl, .ref p, rfl, ht, fun f1 c' H2 lk => ?_⟩
    obtain ⟨x2, b2, t2, n2, f2, c2⟩ := lk
    refine ⟨p, bs, kLst (gK l c) (rks l), rfl, SqL_monoN x2 hp, hz, kLst_alike, kLst_sort, fun z _ => kLst_depth z, fun z hb Hn S3 => ?_, fun D Hn H3 S3 nD S4 h4 => ?_⟩
    · k_extra "r_Y5"
      refine ⟨a, z, l, c, rfl, S3 _ _ (ext_tup x2 ha), ll, c1, hn z hb, fun t r H4 nt S4 h1 h2 => ⟨S4, ?_⟩⟩
      exact .tup (SqT.of h2) (.cons (.int _) (.cons (dp_lst_ints h1) .nil))
    · exact k D H3 (b2 _ (same_none S3 nD)) (x2.trans (ext_same (S3.trans S4))) (t2.ext fun _ _ e => (S3.trans S4) _ _ e) h4
/-- the names in a list, where all are names -/
theorem all_names : ∀ {xs : List V}, xs.all nmB = true → ∃ bs : List Str, xs = bs.map V.str ∧ ∀ b ∈ bs, Nm b
  | [], _ => ⟨[], rfl, fun _ h => absurd h List.not_mem_nil⟩
  | x :: xs, h => by
    rw [List.all_cons, Bool.and_eq_true] at h
    obtain ⟨bs, e, hb⟩ := all_names h.2
    have hx : NmV x := by
      refine Classical.byContradiction fun n => ?_
      rw [nmB_f n] at h
      exact nomatch h.1
    obtain ⟨z, ez, nz⟩ := hx
    subst ez e
    exact ⟨z :: bs, rfl, fun b m => by
      rcases List.mem_cons.mp m with rfl | m
      · exact nz
      · exact hb b m⟩
end
end Bt
namespace Bt
open PySem PySem.Spec PyProof.Rows L2 LamX NdefX
theorem words22_ : True := by
  k_with "s_I5" => first
    | ((with_reducible refine' s_var ?hv ?_); (case hv => exact rfl))
    | with_reducible first
      | refine' s_c ?_ | refine' s_op ?_ | refine' s_asg ?_ | refine' s_gname ?_ | refine' s_seq ?_ | refine' s_next ?_ | refine' s_ret ?_ | refine' s_ifS ?_ | refine' s_drop ?_ | refine' s_retN ?_
      | refine' s_test ?_ | refine' s_B ?_ | refine' q_test ?_ | refine' s_int ?_ | refine' s_cons ?_ | refine' s_nil ?_ | refine' s_call ?_ | refine' s_CB ?_ | refine' s_andT ?_ | refine' s_orT ?_ | refine' s_notT ?_
      | refine' s_andV ?_ | refine' s_orV ?_ | refine' s_notV ?_ | refine' s_ifV ?_ | refine' s_chain ?_ | refine' s_sl ?_ | refine' s_noPart ?_ | refine' s_part ?_ | refine' s_gsub ?_ | refine' s_BM ?_ | refine' s_tup ?_ | refine' s_lst ?_
      | refine' q_add ?_ | refine' q_sub ?_ | refine' q_lt ?_ | refine' q_le ?_ | refine' q_gt ?_ | refine' q_ge ?_ | refine' s_ifT ?_ | refine' s_ifF ?_ | refine' s_yes ?_ | refine' s_prop ?_ | refine' s_iList ?_ | refine' s_callOS ?_ | refine' s_iStr ?_ | refine' s_M0 ?_ | refine' s_make ?_ | refine' s_makeS ?_ | refine' s_ownL ?_ | refine' s_ownR ?_ | refine' s_callSD ?_ | refine' s_fld ?_ | refine' s_prop ?_ | refine' s_raise1 ?_ | refine' s_for ?_ | refine' s_rng1 ?_ | refine' s_par ?_ | refine' s_gcons ?_ | refine' s_gnil ?_ | refine' s_iList ?_ | refine' s_iEnum ?_
      | (refine' q_mod ?hm ?_; (case hm => first | omega | decide)) | (refine' q_fdiv ?hm ?hn ?_; (case hm => first | omega | decide); (case hn => first | omega | decide))
      | (refine' q_mulR ?hm ?_; (case hm => first | omega | decide)) | (refine' q_mulL ?hm ?_; (case hm => first | omega | decide))
    | dsimp only
  k_with "r_I5" => repeat (k_extra "s_I5")
  trivial
/-! ### places -/
def PlaceV (H : Hp) (x : V) : Prop := ∃ a u v, x = .ref a ∧ H a = some (.tup [u, v]) ∧ NmV u ∧ NmV v
structure TxtI (K : PySem.W.Frag) (mg : Str → Option Value) : Prop where
  d_is_place : Df K mg "is_place" s_is_place ["value"]
  d_check_place : Df K mg "check_place" s_check_place ["value"]
section
variable {P : Program} {w : World} {K : PySem.W.Frag} {mg : Str → Option Value} {base : Heap}
def spPlace (K : PySem.W.Frag) : Sp := fun vs H Q _ => ∃ x T, vs = [x] ∧ Pl K H x T ∧
  (T ≠ "tuple" → Q (.bl false) H) ∧
  (T = "tuple" → ∃ a xs, x = .ref a ∧ H a = some (.tup xs) ∧ (∀ y ∈ xs, NameArg K H y) ∧
    (¬ PlaceV H x → ∀ H', Same H H' → Q (.bl false) H') ∧ (PlaceV H x → ∀ H', Same H H' → Q (.bl true) H'))
theorem ok_is_place (T : Txt K mg) (N : TxtN K mg) (I : TxtI K mg) : Cal P w K mg base 2 "is_place" (spPlace K) := by
  refine I.d_is_place.cal sc_is_place (fun vs H Q E h => ?_) (fun f cdv A outer s H vs Q E hr h => ?_)
  · obtain ⟨x, T, rfl, _⟩ := h
    rfl
  · obtain ⟨x, ty, rfl, hx, kN, kY⟩ := h
    have hu := hr.units
    refine ⟨_, (pss_one (ps_ret (pe_and (pe_callB call_isi (by rfl) T.n_isinstance (by decide +kernel) (pa_cons (pv 0) (pa_cons (pe_bltn (v := .ty "tuple") (by rfl) T.n_tuple (by decide +kernel) rfl) pa_nil))) (pe_and (pe_cmpR (op_eqU hu) (pe_callB call_lenQ (by rfl) N.n_len (by decide +kernel) (pa_cons (pv 0) pa_nil)) pe_int (by rfl)) (pe_and (pe_c (ok_is_name T N) hr (by decide) rfl (pa_cons (pe_ix ix_seq (pv 0) pe_int (fun _ _ => rfl)) pa_nil)) (pe_one (pe_c (ok_is_name T N) hr (by decide) rfl (pa_cons (pe_ix ix_seq (pv 0) pe_int (fun _ _ => rfl)) pa_nil)))))))), ?_⟩
    k_extra "r_I5"
    refine q_isi hx .tup ?_
    by_cases e : ty = "tuple"
    · obtain ⟨a, xs, rfl, ha, hn, kF, kT⟩ := kY e
      clear kN kY
      subst e
      k_extra "r_I5"
      refine s_if1 rfl ?_
      k_extra "r_I5"
      refine q_lenT (SqT.of ha) ?_
      k_extra "r_I5"
      refine q_eq rfl ?_
      by_cases hl : xs.length = 2
      · obtain ⟨u, v, rfl⟩ : ∃ u v, xs = [u, v] := by
          match xs, hl with
          | [u, v], _ => exact ⟨u, v, rfl⟩
        k_extra "r_I5"
        refine s_if1 (decide_eq_true rfl) ?_
        obtain ⟨tu, pu, zu⟩ := hn u (by simp)
        obtain ⟨tv, qv, zv⟩ := hn v (by simp)
        k_extra "r_I5"
        refine q_ixT (SqT.of ha) (at_of (j := 0) rfl rfl) ?_
        k_extra "r_I5"
        refine ⟨u, tu, rfl, pu, zu, fun nu H1 S1 => ?_, fun nu H1 S1 => ?_⟩
        · k_extra "r_I5"
          exact kF (fun ⟨_, _, _, e, h, hu, _⟩ => by injection e with e; subst e; rw [ha] at h; cases h; exact nu hu) _ S1
        · k_extra "r_I5"
          refine q_ixT (SqT.of (S1 _ _ ha)) (at_of (j := 1) rfl rfl) ?_
          k_extra "r_I5"
          refine ⟨v, tv, rfl, qv.mono S1, zv, fun nv H2 S2 => ?_, fun nv H2 S2 => ?_⟩
          · exact kF (fun ⟨_, _, _, e, h, _, hv⟩ => by injection e with e; subst e; rw [ha] at h; cases h; exact nv hv) _ (S1.trans S2)
          · exact kT ⟨a, u, v, rfl, ha, nu, nv⟩ _ (S1.trans S2)
      · k_extra "r_I5"
        refine s_if0 (decide_eq_false fun z => ?_) ?_
        · have := V.int.inj z
          omega
        · k_extra "r_I5"
          exact kF (fun ⟨_, _, _, e, h, _⟩ => by injection e with e; subst e; rw [ha] at h; cases h; exact hl rfl) _ (Same.refl H)
    · have e2 : subKd ty "tuple" = false := by
        cases hx.2 <;> first | rfl | exact absurd rfl e
      rw [e2]
      k_extra "r_I5"
      exact kN e
/-- a value that is no place: InvalidPlace -/
def spCheckPlace (K : PySem.W.Frag) (CP : Addr) : Sp := fun vs H Q E => ∃ x T, vs = [x] ∧ Pl K H x T ∧
  (T = "tuple" → ∃ a xs, x = .ref a ∧ H a = some (.tup xs) ∧ (∀ y ∈ xs, NameArg K H y)) ∧
  (PlaceV H x → T = "tuple" ∧ ∀ H', Same H H' → Q .non H') ∧
  (¬ PlaceV H x → ∀ H' d, Same H H' → H d = none → H' d = some (.xd [("value", x)]) → E (.ref CP) (some d) H')
theorem ok_check_place {CP : Addr} (T : Txt K mg) (N : TxtN K mg) (I : TxtI K mg) (XP : ExcF K mg "InvalidPlace" "value" CP) : CalX P w K mg base 3 "check_place" (spCheckPlace K CP) := by
  refine I.d_check_place.calX sc_check_place (fun vs H Q E h => ?_) (fun f cdv A outer s H vs Q E hr h => ?_)
  · obtain ⟨x, T, rfl, _⟩ := h
    rfl
  · obtain ⟨x, ty, rfl, hx, ht, kY, kN⟩ := h
    refine ⟨_, (pss_one (ps_if (pt_not (pt_val (pe_c (ok_is_place T N I) hr (by decide) rfl (pa_cons (pv 0) pa_nil)))) (pss_one (ps_raise1 rfl XP hr (by decide) (takes_of rfl rfl rfl rfl) (pv 0))) pss_nil)), ?_⟩
    k_extra "r_I5"
    have bad : ∀ H1, Same H H1 → ¬ PlaceV H x → ∀ H3 d, Same H1 H3 → H1 d = none → H3 d = some (.xd [("value", x)]) → E (.ref CP) (some d) H3 := fun H1 S1 n H3 d S3 nd hd => kN n H3 d (S1.trans S3) (S1.free nd) hd
    refine ⟨x, ty, rfl, hx, fun e => ?_, fun e => ?_⟩
    · k_extra "r_I5"
      refine s_if1 rfl ?_
      refine s_raise1 ?_
      k_extra "r_I5"
      have n : ¬ PlaceV H x := fun v => e (kY v).1
      exact fun d H3 nd S3 hd => bad H (Same.refl H) n H3 d S3 nd hd
    · obtain ⟨a, xs, ex, ha, hn⟩ := ht e
      refine ⟨a, xs, ex, ha, hn, fun n H1 S1 => ?_, fun y H1 S1 => ?_⟩
      · k_extra "r_I5"
        refine s_if1 rfl ?_
        refine s_raise1 ?_
        k_extra "r_I5"
        exact fun d H3 nd S3 hd => bad H1 S1 n H3 d S3 nd hd
      · k_extra "r_I5"
        refine s_if0 rfl ?_
        k_extra "r_I5"
        exact (kY y).2 H1 S1
end
end Bt
namespace Bt
open PySem PySem.Spec PyProof.Rows L2 LamX NdefX
theorem words23_ : True := by
  k_with "s_B5" => first
    | ((with_reducible refine' s_var ?hv ?_); (case hv => exact rfl))
    | with_reducible first
      | refine' s_c ?_ | refine' s_op ?_ | refine' s_asg ?_ | refine' s_gname ?_ | refine' s_seq ?_ | refine' s_next ?_ | refine' s_ret ?_ | refine' s_ifS ?_ | refine' s_drop ?_ | refine' s_retN ?_
      | refine' s_test ?_ | refine' s_B ?_ | refine' q_test ?_ | refine' s_int ?_ | refine' s_cons ?_ | refine' s_nil ?_ | refine' s_call ?_ | refine' s_CB ?_ | refine' s_andT ?_ | refine' s_orT ?_ | refine' s_notT ?_
      | refine' s_andV ?_ | refine' s_orV ?_ | refine' s_notV ?_ | refine' s_ifV ?_ | refine' s_chain ?_ | refine' s_sl ?_ | refine' s_noPart ?_ | refine' s_part ?_ | refine' s_gsub ?_ | refine' s_BM ?_ | refine' s_tup ?_ | refine' s_lst ?_
      | refine' q_add ?_ | refine' q_sub ?_ | refine' q_lt ?_ | refine' q_le ?_ | refine' q_gt ?_ | refine' q_ge ?_ | refine' s_ifT ?_ | refine' s_ifF ?_ | refine' s_yes ?_ | refine' s_prop ?_ | refine' s_iList ?_ | refine' s_callOS ?_ | refine' s_iStr ?_ | refine' s_M0 ?_ | refine' s_make ?_ | refine' s_makeS ?_ | refine' s_ownL ?_ | refine' s_ownR ?_ | refine' s_callSD ?_ | refine' s_fld ?_ | refine' s_prop ?_ | refine' s_raise1 ?_ | refine' s_for ?_ | refine' s_rng1 ?_ | refine' s_par ?_ | refine' s_gcons ?_ | refine' s_gnil ?_ | refine' s_iList ?_ | refine' s_iEnum ?_
      | (refine' q_mod ?hm ?_; (case hm => first | omega | decide)) | (refine' q_fdiv ?hm ?hn ?_; (case hm => first | omega | decide); (case hn => first | omega | decide))
      | (refine' q_mulR ?hm ?_; (case hm => first | omega | decide)) | (refine' q_mulL ?hm ?_; (case hm => first | omega | decide))
    | dsimp only
  k_with "r_B5" => repeat (k_extra "s_B5")
  trivial
/-! ### worlds -/
def PlAt (H : Hp) (x : V) (q : Str × Str) : Prop := ∃ a, x = .ref a ∧ H a = some (.tup [.str q.1, .str q.2])
inductive Pls (H : Hp) : List V → List (Str × Str) → Prop where
  | nil : Pls H [] []
  | cons {x : V} {q : Str × Str} {xs : List V} {ps : List (Str × Str)} : PlAt H x q → Pls H xs ps → Pls H (x :: xs) (q :: ps)
theorem PlAt.mono {H H' : Hp} {x : V} {q : Str × Str} (S : Same H H') : PlAt H x q → PlAt H' x q := fun ⟨a, e, h⟩ => ⟨a, e, S _ _ h⟩
theorem PlAt.but {H H' : Hp} {x : V} {q : Str × Str} {l : Addr} {zs : List V} (hl : H l = some (.lst zs)) (B : But l H H') : PlAt H x q → PlAt H' x q :=
  fun ⟨a, e, h⟩ => ⟨a, e, B _ _ (fun z => by rw [z, hl] at h; cases h) h⟩
theorem Pls.mono {H H' : Hp} {xs : List V} {ps : List (Str × Str)} (S : Same H H') (h : Pls H xs ps) : Pls H' xs ps := by
  induction h with
  | nil => exact .nil
  | cons h _ ih => exact .cons (h.mono S) ih
theorem Pls.but {H H' : Hp} {xs : List V} {ps : List (Str × Str)} {l : Addr} {zs : List V} (hl : H l = some (.lst zs)) (B : But l H H') (h : Pls H xs ps) : Pls H' xs ps := by
  induction h with
  | nil => exact .nil
  | cons h _ ih => exact .cons (h.but hl B) ih
theorem Pls.snoc {H : Hp} {xs : List V} {ps : List (Str × Str)} {x : V} {q : Str × Str} (h : Pls H xs ps) (hx : PlAt H x q) : Pls H (xs ++ [x]) (ps ++ [q]) := by
  induction h with
  | nil => exact .cons hx .nil
  | cons h _ ih => exact .cons h ih
theorem Pls.len {H : Hp} {xs : List V} {ps : List (Str × Str)} (h : Pls H xs ps) : xs.length = ps.length := by
  induction h with
  | nil => rfl
  | cons _ _ ih => simp [ih]
def worldOf (fs ns : List Str) : List (Str × Str) := fs.flatMap fun f => ns.map fun n => (f, n)
theorem worldOf_len : ∀ fs ns : List Str, (worldOf fs ns).length = fs.length * ns.length
  | [], ns => by simp [worldOf]
  | f :: fs, ns => by
    have := worldOf_len fs ns
    unfold worldOf at this ⊢
    rw [List.flatMap_cons, List.length_append, List.length_map, this, List.length_cons, Nat.succ_mul, Nat.add_comm]
theorem worldOf_snoc (fs ns : List Str) (f : Str) : worldOf (fs ++ [f]) ns = worldOf fs ns ++ ns.map fun n => (f, n) := by
  unfold worldOf
  rw [List.flatMap_append]
  simp
def NmL (zs : List Str) : Prop := (∀ z ∈ zs, Nm z) ∧ zs.Nodup ∧ zs ≠ []
structure TxtB (K : PySem.W.Frag) (mg : Str → Option Value) : Prop where
  d__law_world : Df K mg "_law_world" s__law_world ["_law_purse_here"]
section
variable {P : Program} {w : World} {K : PySem.W.Frag} {mg : Str → Option Value} {base : Heap}
def spWorld : Sp := fun vs H Q _ => ∃ p, vs = [.ref p] ∧ Purse H p ∧ ∀ l H' xs fs ns, H l = none → H' l = some (.lst xs) → Pls H' xs (worldOf fs ns) → NmL fs → NmL ns → fs.length ≤ 3 → ns.length ≤ 6 → Purse H' p → But p H H' → Q (.ref l) H'
theorem ok__law_world (L : TxtL K mg) (N : TxtN K mg) (B : TxtB K mg) : Cal P w K mg base 4 "_law_world" spWorld := by
  refine B.d__law_world.cal sc__law_world (fun vs H Q E h => ?_) (fun f cdv A outer s H vs Q E hr h => ?_)
  · obtain ⟨p, rfl, _⟩ := h
    rfl
  · obtain ⟨p, rfl, hp, k⟩ := h
    refine ⟨_, (pss_cons (ps_set (i := 1) sc__law_world.nd rfl (.inl rfl) (pe_c (ok__law_names L N) hr (by decide) rfl (pa_cons (pv 0) (pa_cons (pe_op op_addU pe_int (pe_c (ok__law_draw L) hr (by decide) rfl (pa_cons (pv 0) (pa_cons pe_int pa_nil)))) pa_nil))))
      (pss_cons (ps_set (i := 2) sc__law_world.nd rfl (.inl rfl) (pe_c (ok__law_names L N) hr (by decide) rfl (pa_cons (pv 0) (pa_cons (pe_op op_addU pe_int (pe_c (ok__law_draw L) hr (by decide) rfl (pa_cons (pv 0) (pa_cons pe_int pa_nil)))) pa_nil))))
      (pss_cons (ps_set (i := 3) sc__law_world.nd rfl (.inl rfl) (pe_lst pa_nil))
      (pss_cons (ps_for PassesOwn.never rfl (pi_list (pv 1)) (pg_name (i := 4) sc__law_world.nd rfl (.inl rfl))
        (pss_one (ps_for PassesOwn.never rfl (pi_list (pv 2)) (pg_name (i := 5) sc__law_world.nd rfl (.inl rfl))
            (pss_one (ps_expr (pe_bm PySem.F.plainAttrs_list PySem.F.slot_list_append PySem.F.type_list_append mt_append (pv 3) (pa_cons (pe_tup (pa_cons (pv 4) (pa_cons (pv 5) pa_nil))) pa_nil)))))))
      (pss_one (ps_ret (pv 3))))))), ?_⟩
    k_extra "r_B5"
    refine ⟨p, 3, rfl, hp, by decide, by decide, fun m1 H1 m10 m11 p1 b1 => ?_⟩
    k_extra "r_B5"
    obtain ⟨m1, rfl⟩ := Int.eq_ofNat_of_zero_le m10
    refine ⟨p, 1 + m1, (by push_cast; rfl), p1, by omega, fun lf H2 fs nf hf zf df hfl hfe p2 b2 => ?_⟩
    k_extra "r_B5"
    refine ⟨p, 6, rfl, p2, by decide, by decide, fun m2 H3 m20 m21 p3 b3 => ?_⟩
    k_extra "r_B5"
    obtain ⟨m2, rfl⟩ := Int.eq_ofNat_of_zero_le m20
    refine ⟨p, 1 + m2, (by push_cast; rfl), p3, by omega, fun ln H4 ns nn hn zn dn hnl hne p4 b4 => ?_⟩
    k_extra "r_B5"
    refine q_newL (by show 0 ≤ sizeLine; decide) fun lp H5 n5 S5 h5 => ?_
    k_extra "r_B5"
    have hlfp : lf ≠ p := by
      obtain ⟨_, _, _, e, _⟩ := p1
      exact fun z => by rw [z, e] at nf; cases nf
    have hlnp : ln ≠ p := by
      obtain ⟨_, _, _, e, _⟩ := p3
      exact fun z => by rw [z, e] at nn; cases nn
    have hlpp : lp ≠ p := by
      obtain ⟨_, _, _, e, _⟩ := p4
      exact fun z => by rw [z, e] at n5; cases n5
    have B4 : But p H H4 := b1.trans (b2.trans (b3.trans b4))
    have nH : H lp = none := B4.free hlpp n5
    have hf4 : H4 lf = some (.lst (fs.map V.str)) := b4 _ _ hlfp (b3 _ _ hlfp hf)
    have hpf : lf ≠ lp := fun z => by rw [z, n5] at hf4; cases hf4
    have hpn : ln ≠ lp := fun z => by rw [z, n5] at hn; cases hn
    have sz1 : ∀ i, (worldOf (fs.take i) ns).length ≤ 18 := fun i => by
      rw [worldOf_len, List.length_take]
      have a1 : min i fs.length ≤ 3 := by omega
      have a2 : ns.length ≤ 6 := by omega
      exact Nat.le_trans (Nat.mul_le_mul a1 a2) (by decide)
    refine ⟨lf, rfl, ⟨_, SqL.of (S5 _ _ hf4)⟩, q_forL (K := K) (a := lf) (xs := fs.map V.str) (fun i σ H' => ∃ v u xs, σ = [some (.ref p), some (.ref lf), some (.ref ln), some (.ref lp), v, u] ∧ H' lp = some (.lst xs) ∧ Pls H' xs (worldOf (fs.take i) ns) ∧ H' lf = some (.lst (fs.map V.str)) ∧ H' ln = some (.lst (ns.map V.str)) ∧ Purse H' p ∧ But p H H')
      ⟨none, none, [], rfl, h5, .nil, S5 _ _ hf4, S5 _ _ hn, p4.mono S5, B4.trans (But.of S5)⟩ (fun i σ H' _ ⟨_, _, _, _, _, _, h, _⟩ => SqL.of h) ?_ ?_⟩
    · rintro i x σ H6 hx ⟨v, u, xs, rfl, h6, P6, f6, n6, p6, B6⟩
      rw [List.getElem?_map] at hx
      obtain ⟨f1, ef, rfl⟩ := Option.map_eq_some_iff.mp hx
      k_extra "r_B5"
      refine ⟨ln, rfl, ⟨_, SqL.of n6⟩, q_forL (K := K) (a := ln) (xs := ns.map V.str) (fun j σ H' => ∃ u xs, σ = [some (.ref p), some (.ref lf), some (.ref ln), some (.ref lp), some (.str f1), u] ∧ H' lp = some (.lst xs) ∧ Pls H' xs (worldOf (fs.take i) ns ++ (ns.take j).map fun n => (f1, n)) ∧ H' lf = some (.lst (fs.map V.str)) ∧ H' ln = some (.lst (ns.map V.str)) ∧ Purse H' p ∧ But p H H')
        ⟨u, xs, rfl, h6, (by rw [List.take_zero, List.map_nil, List.append_nil]; exact P6), f6, n6, p6, B6⟩ (fun i σ H' _ ⟨_, _, _, _, _, _, h, _⟩ => SqL.of h) ?_ ?_⟩
      · rintro j y σ H7 hy ⟨u, xs, rfl, h7, P7, f7, n7, p7, B7⟩
        rw [List.getElem?_map] at hy
        obtain ⟨n1, en, rfl⟩ := Option.map_eq_some_iff.mp hy
        k_extra "r_B5"
        refine ⟨.inl ⟨rfl, _, SqL.of h7⟩, ?_⟩
        k_extra "r_B5"
        refine q_newT (by show 2 ≤ sizeLine; decide) fun t H8 n8 S8 h8 => ?_
        k_extra "r_B5"
        refine q_append (S8 _ _ h7) ?_ fun H9 b9 h9 => ?_
        · rw [P7.len, List.length_append, List.length_map, List.length_take]
          have := sz1 i
          exact szlt (by omega)
        k_extra "r_B5"
        have tl : t ≠ lp := fun z => by rw [z, h7] at n8; cases n8
        refine ⟨_, _, rfl, h9, ?_, b9 _ _ hpf (S8 _ _ f7), b9 _ _ hpn (S8 _ _ n7), ?_, ?_⟩
        · rw [take_map_more en, ← List.append_assoc]
          exact ((P7.mono S8).but (S8 _ _ h7) b9).snoc ⟨t, rfl, b9 _ _ tl h8⟩
        · obtain ⟨a, b, c, e, h⟩ := p7
          exact ⟨a, b, c, b9 _ _ hlpp.symm (S8 _ _ e), h⟩
        · exact fun b o hb e => b9 b o (fun z => by rw [z] at e; rw [e] at nH; cases nH) (S8 _ _ (B7 b o hb e))
      · rintro σ H7 ⟨u, xs, rfl, h7, P7, f7, n7, p7, B7⟩
        k_extra "r_B5"
        rw [List.length_map, List.take_length] at P7
        refine ⟨_, _, _, rfl, h7, ?_, f7, n7, p7, B7⟩
        rw [List.take_add_one, ef]
        exact (worldOf_snoc (fs.take i) ns f1) ▸ P7
    · rintro σ H6 ⟨v, u, xs, rfl, h6, P6, f6, n6, p6, B6⟩
      k_extra "r_B5"
      rw [List.length_map, List.take_length] at P6
      exact k lp H6 xs fs ns nH h6 P6 ⟨zf, df, hfe (by omega)⟩ ⟨zn, dn, hne (by omega)⟩ (by omega) (by omega) p6 B6
end
end Bt
namespace Bt
open PySem PySem.Spec PyProof.Rows L2
open PySem.W (dataLe alike AllAlike Sortable EachIs)
/-! ### sorted(xs) of data that are alike, any length -/
/-- the items beside what they read as -/
abbrev Prs : Type := List (V × PyData)
abbrev prLe : V × PyData → V × PyData → Bool := dataLe false (fun z : V × PyData => z.2)
def rSortD (K : PySem.W.Frag) : List V → Hp → VK → Prop := fun vs H Q => ∃ (a : Addr) (zs : Prs), vs = [V.ref a] ∧ SqL K H a (zs.map (·.1)) ∧ (∀ z ∈ zs, Dp K H z.1 z.2 ∧ z.2.depth ≤ 60) ∧ AllAlike (zs.map (·.2)) ∧ Sortable (zs.map (·.2)) ∧
  ∀ p, H p = none → Q (.ref p) (upd H p (.lst ((zs.mergeSort prLe).map (·.1))))
theorem each_vals : ∀ {zs : Prs} {us : List Value}, Vals (zs.map (·.1)) us → EachIs (fun u z => RelV z.1 u) us zs
  | [], us, h => by
    cases h
    exact .nil
  | z :: zs, us, h => by
    cases h with
    | cons h r => exact .cons h (each_vals r)
theorem vals_each : ∀ {zs : Prs} {us : List Value}, EachIs (fun u z => RelV z.1 u) us zs → Vals (zs.map (·.1)) us
  | [], _, h => by
    cases h
    exact .nil
  | z :: zs, _, h => by
    cases h with
    | cons h r => exact .cons h (vals_each r)
theorem each_reads {X : Cx} {pins : List (Addr × Obj)} {σ : L2.St} {H : Hp} {s : Shared} (I : Inv X pins σ H s) : ∀ {zs : Prs} {us : List Value}, Vals (zs.map (·.1)) us → (∀ z ∈ zs, Dp X.K H z.1 z.2) → EachIs (fun u z => ∃ as, Reads s.heap u z.2 as) us zs
  | [], us, h, _ => by
    cases h
    exact .nil
  | z :: zs, us, h, d => by
    cases h with
    | cons h r => exact .cons (Dp.reads I z.2 z.1 _ (d z List.mem_cons_self) h) (each_reads I r fun y hy => d y (List.mem_cons_of_mem _ hy))
theorem cr_sortD {X : Cx} (hu : X.A.units + 64 < cLine) : CallR X (.builtin "sorted") (rSortD X.K) := by
  intro pins s σ H vs us Q I r h
  obtain ⟨a, zs, rfl, hs, hd, al, sk, q⟩ := h
  obtain ⟨its, rv, hl, hz⟩ := I.list hs
  rw [Vals.ref1 r]
  rw [List.length_map] at hz
  refine PySem.W.sorted_data (enc := fun z : V × PyData => z.2) hl.isList (each_vals rv) (each_reads I rv fun z hz => (hd z hz).1) al sk hz (fun b hb => by have := (hd b hb).2; omega) fun out h1 h2 => ?_
  obtain ⟨ep, he'⟩ := PyProof.Rows.sortedAll_at s.heap its (List.toArray out)
  have hlen : ((zs.mergeSort prLe).map (·.1)).length ≤ sizeLine := by rw [List.length_map, List.length_mergeSort]; exact hz
  exact ⟨.ref _, upd H (s.heap.objs.size + 1) (.lst ((zs.mergeSort prLe).map (·.1))), I.laid (t' := s.toks) (fun _ _ => PyProof.Rows.sortedAll_old) (Nat.le_succ _) ⟨hlen, out, ep, vals_each h2, he'⟩, rfl, q _ (I.hok.fresh (Nat.le_succ _))⟩
theorem q_sortD {K : PySem.W.Frag} {H : Hp} {Q : VK} {a : Addr} (zs : Prs) (h : SqL K H a (zs.map (·.1))) (hd : ∀ z ∈ zs, Dp K H z.1 z.2 ∧ z.2.depth ≤ 60) (al : AllAlike (zs.map (·.2))) (sk : Sortable (zs.map (·.2)))
    (q : ∀ p H', H p = none → Same H H' → H' p = some (.lst ((zs.mergeSort prLe).map (·.1))) → Q (.ref p) H') : rSortD K [.ref a] H Q := ⟨a, zs, rfl, h, hd, al, sk, fun p n => q p _ n (Same.new n) upd_same⟩
end Bt
namespace Bt
open PySem PySem.Spec PyProof.Rows L2 LamX NdefX
open PySem.W (dataLt alike)
theorem words24_ : True := by
  k_with "s_R5" => first
    | ((with_reducible refine' s_var ?hv ?_); (case hv => exact rfl))
    | with_reducible first
      | refine' s_c ?_ | refine' s_op ?_ | refine' s_asg ?_ | refine' s_gname ?_ | refine' s_seq ?_ | refine' s_next ?_ | refine' s_ret ?_ | refine' s_ifS ?_ | refine' s_drop ?_ | refine' s_retN ?_
      | refine' s_test ?_ | refine' s_B ?_ | refine' q_test ?_ | refine' s_int ?_ | refine' s_cons ?_ | refine' s_nil ?_ | refine' s_call ?_ | refine' s_CB ?_ | refine' s_andT ?_ | refine' s_orT ?_ | refine' s_notT ?_
      | refine' s_andV ?_ | refine' s_orV ?_ | refine' s_notV ?_ | refine' s_ifV ?_ | refine' s_chain ?_ | refine' s_sl ?_ | refine' s_noPart ?_ | refine' s_part ?_ | refine' s_gsub ?_ | refine' s_BM ?_ | refine' s_tup ?_ | refine' s_lst ?_
      | refine' q_add ?_ | refine' q_sub ?_ | refine' q_lt ?_ | refine' q_le ?_ | refine' q_gt ?_ | refine' q_ge ?_ | refine' s_ifT ?_ | refine' s_ifF ?_ | refine' s_yes ?_ | refine' s_prop ?_ | refine' s_iList ?_ | refine' s_callOS ?_ | refine' s_iStr ?_ | refine' s_M0 ?_ | refine' s_make ?_ | refine' s_makeS ?_ | refine' s_ownL ?_ | refine' s_ownR ?_ | refine' s_callSD ?_ | refine' s_fld ?_ | refine' s_prop ?_ | refine' s_raise1 ?_ | refine' s_for ?_ | refine' s_rng1 ?_ | refine' s_par ?_ | refine' s_gcons ?_ | refine' s_gnil ?_ | refine' s_iList ?_ | refine' s_iEnum ?_
      | (refine' q_mod ?hm ?_; (case hm => first | omega | decide)) | (refine' q_fdiv ?hm ?hn ?_; (case hm => first | omega | decide); (case hn => first | omega | decide))
      | (refine' q_mulR ?hm ?_; (case hm => first | omega | decide)) | (refine' q_mulL ?hm ?_; (case hm => first | omega | decide))
    | dsimp only
  k_with "r_R5" => repeat (k_extra "s_R5")
  trivial
/-! ### keys that rise -/
def rIsN : R2 := fun x y H Q => y = .non ∧ Q (.bl (decide (x = .non))) H
theorem op_isNon {X : Cx} : OpR X (compareOp .Is) rIsN := op_isN
theorem q_isNon {H : Hp} {Q : VK} {x : V} (q : Q (.bl (decide (x = .non))) H) : rIsN x .non H Q := ⟨rfl, q⟩
theorem s_iZip {K : PySem.W.Frag} {ta : TA} {σ : L2.St} {H : Hp} {R : It → Hp → Prop} (h : ta σ H fun vs H1 => ∃ a b xs ys, vs = [.ref a, .ref b] ∧ SqL K H1 a xs ∧ SqL K H1 b ys ∧ R (Itz K a b) H1) : iZip K ta σ H R := h
abbrev kT (l : Str) (c : Int) (z : Str) : PyData := kTup (gK l c) (rks l) z
/-- each before the next one -/
def riseB (l : Str) (c : Int) (row : List Str) : Bool := (row.zip (row.drop 1)).all fun q => dataLt (kT l c q.1) (kT l c q.2)
def rowOf : Option Str → List Str → List Str
  | none, bs => bs
  | some z, bs => z :: bs
def mkV : Option Str → V
  | none => .non
  | some z => .str z
inductive All2 {α : Type} (R : V → α → Prop) : List V → List α → Prop where
  | nil : All2 R [] []
  | cons {x : V} {q : α} {xs : List V} {ps : List α} : R x q → All2 R xs ps → All2 R (x :: xs) (q :: ps)
theorem All2.imp {α : Type} {R S : V → α → Prop} (f : ∀ x q, R x q → S x q) {xs : List V} {ps : List α} (h : All2 R xs ps) : All2 S xs ps := by
  induction h with
  | nil => exact .nil
  | cons h _ ih => exact .cons (f _ _ h) ih
theorem All2.snoc {α : Type} {R : V → α → Prop} {xs : List V} {ps : List α} {x : V} {q : α} (h : All2 R xs ps) (hx : R x q) : All2 R (xs ++ [x]) (ps ++ [q]) := by
  induction h with
  | nil => exact .cons hx .nil
  | cons h _ ih => exact .cons h ih
theorem All2.len {α : Type} {R : V → α → Prop} {xs : List V} {ps : List α} (h : All2 R xs ps) : xs.length = ps.length := by
  induction h with
  | nil => rfl
  | cons _ _ ih => simp [ih]
theorem All2.get {α : Type} {R : V → α → Prop} {xs : List V} {ps : List α} (h : All2 R xs ps) : ∀ {i : Nat} {x : V}, xs[i]? = some x → ∃ q, ps[i]? = some q ∧ R x q := by
  induction h with
  | nil => intro i x e; simp at e
  | cons h _ ih =>
    intro i x e
    cases i with
    | zero => exact ⟨_, rfl, by simp at e; exact e ▸ h⟩
    | succ i => exact ih (by simpa using e)
/-- a key as the heap holds it -/
def KyAt (l : Str) (c : Int) (H : Hp) (x : V) (z : Str) : Prop := ∃ t r, x = .ref t ∧ H t = some (.tup [.int (gK l c z), .ref r]) ∧ H r = some (.tup ((rks l z).map V.int))
theorem KyAt.but {l : Str} {c : Int} {H H' : Hp} {x : V} {z : Str} {d : Addr} {zs : List V} (hd : H d = some (.lst zs)) (B : But d H H') : KyAt l c H x z → KyAt l c H' x z :=
  fun ⟨t, r, e, h1, h2⟩ => ⟨t, r, e, B _ _ (fun z => by rw [z, hd] at h1; cases h1) h1, B _ _ (fun z => by rw [z, hd] at h2; cases h2) h2⟩
theorem KyAt.mono {l : Str} {c : Int} {H H' : Hp} {x : V} {z : Str} (S : Same H H') : KyAt l c H x z → KyAt l c H' x z := fun ⟨t, r, e, h1, h2⟩ => ⟨t, r, e, S _ _ h1, S _ _ h2⟩
theorem KyAt.dp {K : PySem.W.Frag} {l : Str} {c : Int} {H : Hp} {x : V} {z : Str} : KyAt l c H x z → Dp K H x (kT l c z) := fun ⟨t, r, e, h1, h2⟩ => by
  subst e
  exact .tup (SqT.of h1) (.cons (.int _) (.cons (.tup (SqT.of h2) (dp_ints _)) .nil))
theorem pairs_get {zs : List Str} {i : Nat} {u v : Str} (h1 : zs[i]? = some u) (h2 : (zs.drop 1)[i]? = some v) : (zs.zip (zs.drop 1))[i]? = some (u, v) := by
  rw [List.getElem?_zip_eq_some]
  exact ⟨h1, h2⟩
structure TxtR (K : PySem.W.Frag) (mg : Str → Option Value) : Prop where
  n_zip : mg "zip" = none
  d__rise : Df K mg "_rise" s__rise ["form", "mark", "names"]
section
variable {P : Program} {w : World} {K : PySem.W.Frag} {mg : Str → Option Value} {base : Heap}
def spRise (C : Addr) : Sp := fun vs H Q _ => ∃ a m q l c bs, vs = [.ref a, mkV m, .ref q] ∧ FormAt C H a l c ∧ Letters l ∧ 1 ≤ c ∧ (∀ z, m = some z → Nm z) ∧ H q = some (.lst (bs.map V.str)) ∧ bs.length ≤ 100 ∧ (∀ z ∈ bs, Nm z) ∧
  ∀ H', Same H H' → Q (.bl (riseB l c (rowOf m bs))) H'
theorem ok__rise {C : Addr} (T : Txt K mg) (L : TxtL K mg) (N : TxtN K mg) (FC : FormC K mg C) (TK : TxtK K mg) (R : TxtR K mg) : Cal P w K mg base 5 "_rise" (spRise C) := by
  refine R.d__rise.cal sc__rise (fun vs H Q E h => ?_) (fun f cdv A outer s H vs Q E hr h => ?_)
  · obtain ⟨a, m, q, l, c, bs, rfl, _⟩ := h
    rfl
  · obtain ⟨a, m, q, l, c, bs, rfl, ha, ll, c1, nm, hq, hz, nb, k⟩ := h
    have hu := hr.units
    refine ⟨_, (C8.pss_cut (ps_set (i := 3) sc__rise.nd rfl (.inl rfl) (pe_ifExp (pt_cmpR op_isNon (pv 1) pe_non (by rfl)) (pv 2) (pe_op op_addU (pe_lst (pa_cons (pv 1) pa_nil)) (pv 2))))
      (pss_cons (ps_setLc (i := 4) (own := [("name", 5)]) (g := gName 5) (tt := tYes) (te := tCall (spKey C) [] E0 (tCons (tVar 0) (tCons (tVar 5) tNil))) rfl sc__rise.nd rfl rfl (sw_true rfl rfl rfl (by decide +kernel)) (pi_list (pv 3)) (blkOk_by (own := [("name", 5)]) (N := ["form", "mark", "names", "row", "keys", "name", "low", "high"]) (sc := defScope s__rise) (by decide +kernel)) (fun _ _ _ _ _ => pg_name (i := 5) sc__rise.nd rfl (Or.inl rfl)) (fun _ _ _ _ _ => pts_nil) (fun s1 H1 C1 cl1 fp1 => by exact (pe_c (ok_key_in T L FC TK) hr (by decide) rfl (pa_cons (pv 0) (pa_cons (pv 5) pa_nil)))))
      (pss_one (ps_ret (pe_callB (call_allB rfl) (by rfl) N.n_all (by decide +kernel) (pa_cons (pe_lc (own := [("low", 6), ("high", 7)]) (g := gTup K 2 (gCons (gName 6) (gCons (gName 7) gNil))) (tt := tYes) (te := tOp (rLtD K) (tVar 6) (tVar 7)) rfl sc__rise.nd (pi_zip rfl R.n_zip (pa_cons (pv 4) (pa_cons (pe_slice sl_list (pv 4) (po_some pe_int) po_none) pa_nil))) (blkOk_by (own := [("low", 6), ("high", 7)]) (N := ["form", "mark", "names", "row", "keys", "name", "low", "high"]) (sc := defScope s__rise) (by decide +kernel)) (fun _ _ _ _ _ => pg_tup rfl (pgs_cons (pg_name (i := 6) sc__rise.nd rfl (Or.inl rfl)) (pgs_cons (pg_name (i := 7) sc__rise.nd rfl (Or.inl rfl)) pgs_nil))) (fun _ _ _ _ _ => pts_nil) (fun s1 H1 C1 cl1 fp1 => by exact (pe_cmpR (op_ltD hu) (pv 6) (pv 7) (by rfl)))) pa_nil)))))), ?_⟩
    refine ⟨fun σ H1 => ∃ r, σ = [some (.ref a), some (mkV m), some (.ref q), some (.ref r), none, none, none, none] ∧ Same H H1 ∧ H1 r = some (.lst ((rowOf m bs).map V.str)), ?_, ?_⟩
    · k_extra "r_R5"
      refine q_isNon ?_
      cases m with
      | none =>
        refine q_test (s_ifD (fun _ => ?_) (fun e => absurd rfl e))
        k_extra "r_R5"
        exact ⟨q, rfl, Same.refl H, hq⟩
      | some z =>
        refine q_test (s_ifD (fun e => nomatch (e : V.str z = V.non)) (fun _ => ?_))
        k_extra "r_R5"
        refine q_newL (by show 1 ≤ sizeLine; decide) fun l0 H1 n1 S1 h1 => ?_
        k_extra "r_R5"
        refine q_cat h1 (S1 _ _ hq) (by rw [List.length_map]; exact Bt.sz (by simp; omega)) fun r H2 n2 S2 h2 => ?_
        exact ⟨r, rfl, S1.trans S2, h2⟩
    · rintro σ H1 ⟨r, rfl, S1, h1⟩
      have nr : ∀ z ∈ rowOf m bs, Nm z := by
        cases m with
        | none => exact nb
        | some z => exact fun y hy => (List.mem_cons.mp hy).elim (fun e => e ▸ nm z rfl) (nb y)
      have lr : (rowOf m bs).length ≤ 101 := by
        cases m with
        | none => exact Nat.le_succ_of_le hz
        | some z => exact Nat.succ_le_succ hz
      k_extra "r_R5"
      refine s_lc ?_
      k_extra "r_R5"
      refine ⟨r, rfl, ⟨_, SqL.of h1⟩, fun D nD => lc_list (K := K) (a := r) (xs := (rowOf m bs).map V.str) (fun i H' => Same H1 H' ∧ ∃ ks, H' D = some (.lst ks) ∧ All2 (KyAt l c H') ks ((rowOf m bs).take i)) ⟨Same.new nD, [], upd_same, .nil⟩ (fun i H' _ h => SqL.of (h.1 _ _ h1)) ?_ ?_⟩
      · rintro j y H' hj ⟨S', ks, hD, dk⟩
        rw [List.getElem?_map] at hj
        obtain ⟨z, ez, rfl⟩ := Option.map_eq_some_iff.mp hj
        k_extra "r_R5"
        refine ⟨rfl, ?_⟩
        k_extra "r_R5"
        refine ⟨a, z, l, c, rfl, ha.mono (S1.trans S'), ll, c1, nr z (List.mem_of_getElem? ez), fun t r2 H4 nt S4 g1 g2 => ⟨ks, S4 _ _ hD, ?_, same_mut (S'.trans S4) nD, ks ++ [.ref t], upd_same, ?_⟩⟩
        · rw [dk.len, List.length_take]
          exact szlt (by omega)
        · rw [List.take_add_one, ez]
          have b : But D H4 (upd H4 D (.lst (ks ++ [.ref t]))) := But.upd
          exact (dk.imp fun _ _ h => (h.mono S4).but (S4 _ _ hD) b).snoc (KyAt.but (S4 _ _ hD) b ⟨t, r2, rfl, g2, g1⟩)
      · rintro H2 ⟨S2, ks, h2, dk⟩
        rw [List.length_map, List.take_length] at dk
        k_extra "r_R5"
        refine s_lc ?_
        refine s_iZip ?_
        k_extra "r_R5"
        refine q_slL (SqL.of h2) fun p H3 n3 S3 h3 => ?_
        k_extra "r_R5"
        have ec : cutV ks (some 1) none = ks.drop 1 := by
          unfold cutV
          rw [show (some (1 : Int)) = some ((1 : Nat) : Int) from rfl, HT.sIx_nat, HT.sIx_none]
          cases ks with
          | nil => rfl
          | cons x xs =>
            rw [Nat.min_eq_left (by simp)]
            simp
        rw [ec] at h3
        refine ⟨D, p, ks, ks.drop 1, rfl, SqL.of (S3 _ _ h2), SqL.of h3, fun D2 nD2 => lc_it (walk_zip rfl) (fun i H' => Same H3 H' ∧ H' D2 = some (.lst (((((rowOf m bs).zip ((rowOf m bs).drop 1)).take i).map fun q => dataLt (kT l c q.1) (kT l c q.2)).map V.bl))) ⟨Same.new nD2, upd_same⟩ (fun i H' _ h => ⟨SqL.of (h.1 _ _ (S3 _ _ h2)), SqL.of (h.1 _ _ h3)⟩) ?_ ?_⟩
        · rintro i x H4 H5 hi ⟨S4, h4⟩ ⟨tq, x1, x2, rfl, ntq, rfl, e1, e2⟩
          have S5 : Same H4 (upd H4 tq (.tup [x1, x2])) := Same.new ntq
          obtain ⟨u1, f1, y1⟩ := dk.get e1
          have e2' : (ks.drop 1)[i]? = some x2 := e2
          rw [List.getElem?_drop] at e2'
          obtain ⟨u2, f2, y2⟩ := dk.get e2'
          rw [← List.getElem?_drop] at f2
          have fp := pairs_get f1 f2
          k_extra "r_R5"
          refine q_gtup (SqT.of upd_same) rfl ?_
          k_extra "r_R5"
          refine ⟨rfl, ?_⟩
          k_extra "r_R5"
          have S25 := S3.trans (S4.trans S5)
          refine q_ltD (y1.mono S25).dp (y2.mono S25).dp (kTup_alike _ (List.mem_map.mpr ⟨u1, List.mem_of_getElem? f1, rfl⟩) _ (List.mem_map.mpr ⟨u2, List.mem_of_mem_drop (List.mem_of_getElem? f2), rfl⟩)) (fun e => nomatch e) (Nat.le_trans (kTup_depth _) (by decide)) ⟨_, S5 _ _ h4, ?_, same_mut (S4.trans S5) nD2, ?_⟩
          · rw [List.length_map, List.length_map, List.length_take, List.length_zip]
            exact szlt (by omega)
          · rw [upd_same, take_map_more (f := fun q : Str × Str => dataLt (kT l c q.1) (kT l c q.2)) fp, List.map_append]
            rfl
        · rintro H4 ⟨S4, h4⟩
          k_extra "r_R5"
          refine q_allB (SqL.of h4) ?_
          rw [List.take_of_length_le (by rw [List.length_zip, List.length_drop, List.length_drop, dk.len]; exact Nat.le_refl _), List.all_map]
          exact k H4 (S1.trans (S2.trans (S3.trans S4)))
end
end Bt
namespace Bt
open PySem PySem.Spec PyProof.Rows L2 LamX NdefX
open PySem.W (dataLt dataLe alike keyToksAll)
/-! ### keys in order -/
theorem eqvAll_ints : ∀ (xs ys : List Int), PyData.eqvAll (xs.map .int) (ys.map .int) = decide (xs = ys)
  | [], [] => by simp [PyData.eqvAll]
  | [], y :: ys => by simp [PyData.eqvAll]
  | x :: xs, [] => by simp [PyData.eqvAll]
  | x :: xs, y :: ys => by
    have ih := eqvAll_ints xs ys
    simp only [List.map_cons, PyData.eqvAll, PyData.eqv, ih]
    by_cases h1 : x = y <;> by_cases h2 : xs = ys <;> simp [h1, h2]
/-- a key as one row of numbers -/
abbrev kk (l : Str) (c : Int) (z : Str) : List Int := gK l c z :: rks l z
theorem lt_kL (l : Str) (c : Int) (y z : Str) : dataLt (kLst (gK l c) (rks l) y) (kLst (gK l c) (rks l) z) = decide (kk l c y < kk l c z) := by
  unfold kLst
  rw [PySem.W.dataLt_pair (by simp [alike]) (alike_lst _ _), PySem.W.dataLt_int, PySem.W.dataLt_list]
  have e1 : PyData.eqv (.list ((rks l y).map .int)) (.list ((rks l z).map .int)) = decide (rks l y = rks l z) := by
    rw [← eqvAll_ints]
    simp only [PyData.eqv]
  have e2 : PyProof.Rows.lexLt itemOrd (keyToksAll ((rks l y).map .int)) (keyToksAll ((rks l z).map .int)) = decide (rks l y < rks l z) := PySem.W.dataLt_ints _ _
  rw [e1, e2]
  simp only [PyData.eqv, beq_iff_eq, decide_eq_true_eq]
  by_cases h1 : gK l c y = gK l c z
  · rw [if_pos h1]
    by_cases h2 : rks l y = rks l z
    · rw [if_pos h2]
      simp [kk, h1, h2, List.cons_lt_cons_iff, List.lt_irrefl]
    · rw [if_neg h2]
      simp [kk, h1, List.cons_lt_cons_iff]
  · rw [if_neg h1]
    simp [kk, h1, List.cons_lt_cons_iff]
theorem lt_kT (l : Str) (c : Int) (y z : Str) : dataLt (kT l c y) (kT l c z) = decide (kk l c y < kk l c z) := (key_lt y z).trans (lt_kL l c y z)
theorem srt_eq (l : Str) (c : Int) (bs : List Str) : srt l c bs = bs.mergeSort fun y z => decide (kk l c y ≤ kk l c z) := by
  unfold srt
  congr 1
  funext y z
  show (!dataLt (kLst (gK l c) (rks l) z) (kLst (gK l c) (rks l) y)) = _
  rw [lt_kL]
  by_cases h : kk l c z < kk l c y
  · have h' : ¬ kk l c y ≤ kk l c z := fun q => List.not_lt.mpr q h
    simp [h, h']
  · have h' : kk l c y ≤ kk l c z := List.not_lt.mp h
    simp [h, h']
theorem subAt_one {l : Str} {c i : Nat} (h : Builtin.Str.subAt l ⟨#[c]⟩ i = true) : l.cps.toList[i]? = some c := by
  unfold Builtin.Str.subAt at h
  have e : l.cps.extract i (i + 1) = #[c] := eq_of_beq h
  have e2 := congrArg Array.toList e
  rw [Array.toList_extract] at e2
  have e3 : (l.cps.toList.extract i (i + 1))[0]? = some c := by rw [e2]; rfl
  rw [List.extract_eq_drop_take, List.getElem?_take, if_pos (by omega), List.getElem?_drop] at e3
  exact e3
theorem rkOf_get {l : Str} {c : Nat} (h : c ∈ l.cps.toList) : l.cps.toList[rkOf l c]? = some c := by
  have f := PySem.StrLaws.found_one l c
  rw [decide_eq_true h] at f
  unfold rkOf
  cases e : Builtin.Str.occurrences l ⟨#[c]⟩ 0 l.length 1 with
  | nil => rw [e] at f; cases f
  | cons i rest =>
    exact subAt_one (PySem.StrLaws.occ_spec l ⟨#[c]⟩ 0 l.length 1 i (by rw [e]; exact List.mem_cons_self)).2
theorem map_inj_in {α β : Type} {f : α → β} : ∀ {xs ys : List α}, (∀ a ∈ xs, ∀ b ∈ ys, f a = f b → a = b) → xs.map f = ys.map f → xs = ys
  | [], [], _, _ => rfl
  | [], _ :: _, _, h => nomatch h
  | _ :: _, [], _, h => nomatch h
  | x :: xs, y :: ys, i, h => by
    rw [List.map_cons, List.map_cons, List.cons.injEq] at h
    rw [i x List.mem_cons_self y List.mem_cons_self h.1, map_inj_in (fun a ha b hb => i a (List.mem_cons_of_mem _ ha) b (List.mem_cons_of_mem _ hb)) h.2]
theorem rks_inj {l y z : Str} (ll : Letters l) (ny : Nm y) (nz : Nm z) (h : rks l y = rks l z) : y = z := by
  have e : y.cps.toList = z.cps.toList := map_inj_in (fun a ha b hb e => by
    have g1 := rkOf_get (ll.mem_iff.mpr (ny.2.2 a ha))
    have g2 := rkOf_get (ll.mem_iff.mpr (nz.2.2 b hb))
    have e' : rkOf l a = rkOf l b := by exact_mod_cast e
    rw [e', g2] at g1
    exact (Option.some.inj g1).symm) h
  cases y
  cases z
  simp only at e
  rw [Array.ext' e]
theorem kk_inj {l y z : Str} {c : Int} (ll : Letters l) (ny : Nm y) (nz : Nm z) (h : kk l c y = kk l c z) : y = z := rks_inj ll ny nz (List.cons.inj h).2
theorem kk_pw {l : Str} {c : Int} {bs : List Str} (ll : Letters l) (nb : ∀ b ∈ bs, Nm b) (nd : bs.Nodup) : (srt l c bs).Pairwise fun y z => kk l c y < kk l c z := by
  have p1 : (srt l c bs).Pairwise fun y z => kk l c y ≤ kk l c z := by
    rw [srt_eq]
    exact (List.pairwise_mergeSort (le := fun y z => decide (kk l c y ≤ kk l c z)) (fun a b d h1 h2 => decide_eq_true (List.le_trans (of_decide_eq_true h1) (of_decide_eq_true h2)))
      (fun a b => by
        rcases List.le_total (kk l c a) (kk l c b) with h | h
        · simp [h]
        · simp [h]) bs).imp fun h => of_decide_eq_true h
  have p2 : (srt l c bs).Nodup := (List.mergeSort_perm bs _).nodup_iff.mpr nd
  have mem : ∀ z, z ∈ srt l c bs → Nm z := fun z hz => nb z ((List.mergeSort_perm bs _).mem_iff.mp hz)
  refine List.Pairwise.imp_of_mem ?_ (List.Pairwise.and p1 p2)
  intro a b ha hb h
  refine Classical.byContradiction fun n => ?_
  exact h.2 (kk_inj ll (mem a ha) (mem b hb) (List.le_antisymm h.1 (List.not_lt.mp n)))
theorem rise_pw {l : Str} {c : Int} : ∀ {row : List Str}, row.Pairwise (fun y z => kk l c y < kk l c z) → riseB l c row = true
  | [], _ => rfl
  | [x], _ => rfl
  | x :: y :: row, h => by
    have ih := rise_pw (List.Pairwise.of_cons h)
    unfold riseB at ih ⊢
    show (dataLt (kT l c x) (kT l c y) && _) = true
    rw [lt_kT, decide_eq_true (List.rel_of_pairwise_cons h List.mem_cons_self), Bool.true_and]
    exact ih
end Bt
namespace Bt
open PySem PySem.Spec PyProof.Rows L2
open PySem.W (dataLt alike)
/-! ### a <= b, a > b of data that are alike; v in o, v not in o by an own __contains__ -/
def rLeD (K : PySem.W.Frag) : R2 := fun x y H Q => ∃ d e, Dp K H x d ∧ Dp K H y e ∧ alike d e = true ∧ d ≠ .none ∧ d.depth ≤ 60 ∧ Q (.bl (!dataLt e d)) H
def rGtD (K : PySem.W.Frag) : R2 := fun x y H Q => ∃ d e, Dp K H x d ∧ Dp K H y e ∧ alike d e = true ∧ d ≠ .none ∧ d.depth ≤ 60 ∧ Q (.bl (dataLt e d)) H
theorem op_leD {X : Cx} (hu : X.A.units + 64 < cLine) : OpR X (compareOp .LtE) (rLeD X.K) := by
  intro pins s σ H x y v u Q I rx ry h
  obtain ⟨d, e, dx, dy, al, nn, dp, q⟩ := h
  obtain ⟨as, r1⟩ := Dp.reads I d x v dx rx
  obtain ⟨bs, r2⟩ := Dp.reads I e y u dy ry
  show wpAny (model X.prog X.w) X.A (richCompare .LtE v u) (EP X pins σ Q) X.xe s
  exact PySem.W.rcLe_alike d e X.A s v u as bs r1 r2 al nn (by omega) X.prog X.w _ _ ⟨.bl _, H, I, rfl, q⟩
theorem op_gtD {X : Cx} (hu : X.A.units + 64 < cLine) : OpR X (compareOp .Gt) (rGtD X.K) := by
  intro pins s σ H x y v u Q I rx ry h
  obtain ⟨d, e, dx, dy, al, nn, dp, q⟩ := h
  obtain ⟨as, r1⟩ := Dp.reads I d x v dx rx
  obtain ⟨bs, r2⟩ := Dp.reads I e y u dy ry
  show wpAny (model X.prog X.w) X.A (richCompare .Gt v u) (EP X pins σ Q) X.xe s
  exact PySem.W.rcGt_alike d e X.A s v u as bs r1 r2 al nn (by omega) X.prog X.w _ _ ⟨.bl _, H, I, rfl, q⟩
theorem q_leD {K : PySem.W.Frag} {x y : V} {H : Hp} {Q : VK} {d e : PyData} (dx : Dp K H x d) (dy : Dp K H y e) (al : alike d e = true) (nn : d ≠ .none) (dp : d.depth ≤ 60) (q : Q (.bl (!dataLt e d)) H) : rLeD K x y H Q := ⟨d, e, dx, dy, al, nn, dp, q⟩
theorem q_gtD {K : PySem.W.Frag} {x y : V} {H : Hp} {Q : VK} {d e : PyData} (dx : Dp K H x d) (dy : Dp K H y e) (al : alike d e = true) (nn : d ≠ .none) (dp : d.depth ≤ 60) (q : Q (.bl (dataLt e d)) H) : rGtD K x y H Q := ⟨d, e, dx, dy, al, nn, dp, q⟩
def rInOwn (K : PySem.W.Frag) (C : Addr) (neg : Bool) (sp : Sp) (E : XK) : R2 := fun x y H Q => ∃ a dx fs, y = .ref a ∧ H a = some (.ins C dx fs) ∧ sp [y, x] H (fun v H' => ∃ b, v = .bl b ∧ Q (.bl (if neg then !b else b)) H') E
theorem op_inOwn {X : Cx} {CX : CXT} {n : Nat} {C f : Addr} {fd : FuncData} {ps : List Str} {sp : Sp} {E : XK} (F : FnOk X.prog X.w X.K X.mg X.base CX n f fd ps sp) (hr : Room n X.A)
    (hs : PySem.W.findIn X.K (.ref C) "__contains__" = some (some (.ref f))) (hf : PySem.W.isFn X.K (.ref f) = true) (hb : Binds X.K fd ps []) (hx : Passes CX X E) : OpR X (compareOp .In) (rInOwn X.K C false sp E) := by
  intro pins s σ H x y v u Q I rx ry hq
  obtain ⟨a, dx, fs, rfl, ha, hsp⟩ := hq
  cases ry
  obtain ⟨mA, J, _⟩ := ins_get I.hok ha
  obtain ⟨od, J, _⟩ := J.look
  obtain ⟨m, hF⟩ := I.fr
  refine PySem.W.in_K hF I.ok.mod.kin J hs hf ?_
  have hl := F.len _ _ _ _ hsp
  have r2 : Vals [V.ref a, x] [Value.ref a, v] := .cons rfl (.cons rx .nil)
  refine wpAny_call (codeAny_mono (F.run X.A X.stack s H ⟨[.ref a, v], []⟩ [.ref a, v] [.ref a, x] _ E hr I.env0 (by
    have := hb s [.ref a, v] I.kIn (by simpa using hl)
    simpa using this) r2 hsp) fun r s' hq => ?_)
  cases r with
  | error e => exact hx pins σ H s e s' I hq
  | ok fl =>
    cases fl with
    | ret w =>
      obtain ⟨z, H', I', rz, b, ez, q⟩ := I.after hq
      subst ez
      cases rz
      exact wpAny_pure (a := b) ⟨.bl b, H', I', rfl, q⟩
    | next => exact False.elim hq
    | brk => exact False.elim hq
    | cont => exact False.elim hq
theorem op_notInOwn {X : Cx} {CX : CXT} {n : Nat} {C f : Addr} {fd : FuncData} {ps : List Str} {sp : Sp} {E : XK} (F : FnOk X.prog X.w X.K X.mg X.base CX n f fd ps sp) (hr : Room n X.A)
    (hs : PySem.W.findIn X.K (.ref C) "__contains__" = some (some (.ref f))) (hf : PySem.W.isFn X.K (.ref f) = true) (hb : Binds X.K fd ps []) (hx : Passes CX X E) : OpR X (compareOp .NotIn) (rInOwn X.K C true sp E) := by
  intro pins s σ H x y v u Q I rx ry hq
  obtain ⟨a, dx, fs, rfl, ha, hsp⟩ := hq
  cases ry
  obtain ⟨mA, J, _⟩ := ins_get I.hok ha
  obtain ⟨od, J, _⟩ := J.look
  obtain ⟨m, hF⟩ := I.fr
  refine PySem.W.notIn_K hF I.ok.mod.kin J hs hf ?_
  have hl := F.len _ _ _ _ hsp
  have r2 : Vals [V.ref a, x] [Value.ref a, v] := .cons rfl (.cons rx .nil)
  refine wpAny_call (codeAny_mono (F.run X.A X.stack s H ⟨[.ref a, v], []⟩ [.ref a, v] [.ref a, x] _ E hr I.env0 (by
    have := hb s [.ref a, v] I.kIn (by simpa using hl)
    simpa using this) r2 hsp) fun r s' hq => ?_)
  cases r with
  | error e => exact hx pins σ H s e s' I hq
  | ok fl =>
    cases fl with
    | ret w =>
      obtain ⟨z, H', I', rz, b, ez, q⟩ := I.after hq
      subst ez
      cases rz
      exact wpAny_pure (a := b) ⟨.bl (!b), H', I', rfl, q⟩
    | next => exact False.elim hq
    | brk => exact False.elim hq
    | cont => exact False.elim hq
end Bt
namespace Bt
open PySem PySem.Spec PyProof.Rows L2 LamX NdefX
open PySem.W (dataLt dataLe alike AllAlike Sortable)
theorem s_fld {K : PySem.W.Frag} {ta : TE} {f : Str} {σ : L2.St} {H : Hp} {Q : VK} (h : ta σ H fun x H1 => ∃ a C dx fs v, x = .ref a ∧ H1 a = some (.ins C dx fs) ∧ Cls K C ∧ NoAttr K C f ∧ fs.lookup f = some v ∧ Q v H1) : tFld K ta f σ H Q := h
theorem words27_ : True := by
  k_with "s_L5" => first
    | ((with_reducible refine' s_var ?hv ?_); (case hv => exact rfl))
    | with_reducible first
      | refine' s_c ?_ | refine' s_op ?_ | refine' s_asg ?_ | refine' s_gname ?_ | refine' s_seq ?_ | refine' s_next ?_ | refine' s_ret ?_ | refine' s_ifS ?_ | refine' s_drop ?_ | refine' s_retN ?_
      | refine' s_test ?_ | refine' s_B ?_ | refine' q_test ?_ | refine' s_int ?_ | refine' s_cons ?_ | refine' s_nil ?_ | refine' s_call ?_ | refine' s_CB ?_ | refine' s_andT ?_ | refine' s_orT ?_ | refine' s_notT ?_
      | refine' s_andV ?_ | refine' s_orV ?_ | refine' s_notV ?_ | refine' s_ifV ?_ | refine' s_chain ?_ | refine' s_sl ?_ | refine' s_noPart ?_ | refine' s_part ?_ | refine' s_gsub ?_ | refine' s_BM ?_ | refine' s_tup ?_ | refine' s_lst ?_
      | refine' q_add ?_ | refine' q_sub ?_ | refine' q_lt ?_ | refine' q_le ?_ | refine' q_gt ?_ | refine' q_ge ?_ | refine' s_ifT ?_ | refine' s_ifF ?_ | refine' s_yes ?_ | refine' s_prop ?_ | refine' s_iList ?_ | refine' s_callOS ?_ | refine' s_iStr ?_ | refine' s_M0 ?_ | refine' s_make ?_ | refine' s_makeS ?_ | refine' s_ownL ?_ | refine' s_ownR ?_ | refine' s_callSD ?_ | refine' s_fld ?_ | refine' s_prop ?_ | refine' s_raise1 ?_ | refine' s_for ?_ | refine' s_rng1 ?_ | refine' s_par ?_ | refine' s_gcons ?_ | refine' s_gnil ?_ | refine' s_iList ?_ | refine' s_iEnum ?_
      | (refine' q_mod ?hm ?_; (case hm => first | omega | decide)) | (refine' q_fdiv ?hm ?hn ?_; (case hm => first | omega | decide); (case hn => first | omega | decide))
      | (refine' q_mulR ?hm ?_; (case hm => first | omega | decide)) | (refine' q_mulL ?hm ?_; (case hm => first | omega | decide))
    | dsimp only
  k_with "r_L5" => repeat (k_extra "s_L5")
  trivial
theorem kT_alike (l : Str) (c : Int) (y v : Str) : alike (kT l c y) (kT l c v) = true := kTup_alike (g := gK l c) (r := rks l) (bs := [y, v]) _ (by simp) _ (by simp)
/-- what a piece says, apart from the heap -/
structure PcS (f l : Str) (c : Int) (m : Option Str) (bs : List Str) (e : Bool) : Prop where
  nf : Nm f
  ll : Letters l
  c1 : 1 ≤ c
  nm : ∀ z, m = some z → Nm z
  hz : bs.length ≤ 100
  nb : ∀ z ∈ bs, Nm z
def LkAt (H : Hp) (t : Addr) (f l : Str) (c : Int) (m : Option Str) (bs : List Str) (e : Bool) : Prop :=
  ∃ a n, H t = some (.tup [.str (Str.ofString "list"), .str f, .ref a, mkV m, .ref n, .bl e]) ∧ H a = some (.tup [.str l, .int c]) ∧ H n = some (.lst (bs.map V.str))
theorem LkAt.mono {H H' : Hp} {t : Addr} {f l : Str} {c : Int} {m : Option Str} {bs : List Str} {e : Bool} (S : Same H H') : LkAt H t f l c m bs e → LkAt H' t f l c m bs e :=
  fun ⟨a, n, h1, h2, h3⟩ => ⟨a, n, S _ _ h1, S _ _ h2, S _ _ h3⟩
def rIsNot : R2 := fun x y H Q => y = .non ∧ Q (.bl (!decide (x = .non))) H
theorem op_isNotNon {X : Cx} : OpR X (compareOp .IsNot) rIsNot := op_notN
theorem q_isNotNon {H : Hp} {Q : VK} {x : V} (q : Q (.bl (!decide (x = .non))) H) : rIsNot x .non H Q := ⟨rfl, q⟩
abbrev kL (l : Str) (c : Int) (z : Str) : PyData := kLst (gK l c) (rks l) z
theorem kL_alike (l : Str) (c : Int) (y v : Str) : alike (kL l c y) (kL l c v) = true := kLst_alike (g := gK l c) (r := rks l) (bs := [y, v]) _ (by simp) _ (by simp)
theorem kL_dp {K : PySem.W.Frag} {H : Hp} {t r : Addr} {l : Str} {c : Int} {z : Str} (h1 : H r = some (.lst ((rks l z).map V.int))) (h2 : H t = some (.tup [.int ((rks l z).sum % c), .ref r])) : Dp K H (.ref t) (kL l c z) :=
  .tup (SqT.of h2) (.cons (.int _) (.cons (dp_lst_ints h1) .nil))
def rMax2 : List V → Hp → VK → Prop := fun xs H Q => ∃ i j : Int, xs = [.int i, .int j] ∧ Q (.int (if j > i then j else i)) H
theorem call_mx {X : Cx} (hc : X.calm = true) : CallR X (.builtin "max") rMax2 := call_max2 hc
theorem q_mx {H : Hp} {Q : VK} {i j : Int} (q : Q (.int (if j > i then j else i)) H) : rMax2 [.int i, .int j] H Q := ⟨i, j, rfl, q⟩
theorem Pls.all2 {H : Hp} {xs : List V} {ps : List (Str × Str)} (h : Pls H xs ps) : All2 (PlAt H) xs ps := by
  induction h with
  | nil => exact .nil
  | cons h _ ih => exact .cons h ih
theorem q_lenL {K : PySem.W.Frag} {H : Hp} {Q : VK} {p : Addr} {ys : List V} (h : SqL K H p ys) (q : Q (.int ys.length) H) : rLenQ K [.ref p] H Q := ⟨p, ys, rfl, .inl h, q⟩
theorem words36_ : True := by
  k_with "s_L5" => first
    | ((with_reducible refine' s_var ?hv ?_); (case hv => exact rfl))
    | with_reducible first
      | refine' s_c ?_ | refine' s_op ?_ | refine' s_asg ?_ | refine' s_gname ?_ | refine' s_seq ?_ | refine' s_next ?_ | refine' s_ret ?_ | refine' s_ifS ?_ | refine' s_drop ?_ | refine' s_retN ?_
      | refine' s_test ?_ | refine' s_B ?_ | refine' q_test ?_ | refine' s_int ?_ | refine' s_cons ?_ | refine' s_nil ?_ | refine' s_call ?_ | refine' s_CB ?_ | refine' s_andT ?_ | refine' s_orT ?_ | refine' s_notT ?_
      | refine' s_andV ?_ | refine' s_orV ?_ | refine' s_notV ?_ | refine' s_ifV ?_ | refine' s_chain ?_ | refine' s_sl ?_ | refine' s_noPart ?_ | refine' s_part ?_ | refine' s_gsub ?_ | refine' s_BM ?_ | refine' s_tup ?_ | refine' s_lst ?_
      | refine' q_add ?_ | refine' q_sub ?_ | refine' q_lt ?_ | refine' q_le ?_ | refine' q_gt ?_ | refine' q_ge ?_ | refine' s_ifT ?_ | refine' s_ifF ?_ | refine' s_yes ?_ | refine' s_prop ?_ | refine' s_iList ?_ | refine' s_callOS ?_ | refine' s_iStr ?_ | refine' s_M0 ?_ | refine' s_make ?_ | refine' s_makeS ?_ | refine' s_ownL ?_ | refine' s_ownR ?_ | refine' s_callSD ?_ | refine' s_fld ?_ | refine' s_prop ?_ | refine' s_raise1 ?_ | refine' s_for ?_ | refine' s_rng1 ?_ | refine' s_par ?_ | refine' s_gcons ?_ | refine' s_gnil ?_ | refine' s_iList ?_ | refine' s_iEnum ?_
      | (refine' q_mod ?hm ?_; (case hm => first | omega | decide)) | (refine' q_fdiv ?hm ?hn ?_; (case hm => first | omega | decide); (case hn => first | omega | decide))
      | (refine' q_mulR ?hm ?_; (case hm => first | omega | decide)) | (refine' q_mulL ?hm ?_; (case hm => first | omega | decide))
    | dsimp only
  k_with "r_L5" => repeat (k_extra "s_L5")
  trivial
/-! ### _law_piece -/
def BuN (p : Addr) (H H' : Hp) : Prop := ∀ b o, b ≠ p → H b = some o → (∀ ps, o ≠ .tbl ps) → H' b = some o
theorem BuN.trans {p : Addr} {H H1 H2 : Hp} (a : BuN p H H1) (b : BuN p H1 H2) : BuN p H H2 := fun c o n h t => b c o n (a c o n h t) t
theorem BuN.but {p : Addr} {H H' : Hp} (b : But p H H') : BuN p H H' := fun c o n h _ => b c o n h
theorem BuN.ext {p : Addr} {H H' : Hp} (x : ExtN H H') : BuN p H H' := fun c o _ h t => x c o h t
theorem BuN.same {p : Addr} {H H' : Hp} (S : Same H H') : BuN p H H' := fun c o _ h _ => S c o h
theorem BuN.tup {p : Addr} {H H' : Hp} (B : BuN p H H') {a : Addr} {xs : List V} (n : a ≠ p) (h : H a = some (.tup xs)) : H' a = some (.tup xs) := B _ _ n h fun _ z => nomatch z
theorem BuN.lst {p : Addr} {H H' : Hp} (B : BuN p H H') {a : Addr} {xs : List V} (n : a ≠ p) (h : H a = some (.lst xs)) : H' a = some (.lst xs) := B _ _ n h fun _ z => nomatch z
theorem Purse.lst {H : Hp} {p : Addr} (h : Purse H p) : ∃ xs, H p = some (.lst xs) := let ⟨_, _, _, e, _⟩ := h; ⟨_, e⟩
theorem Purse.ext {H H' : Hp} {p : Addr} (S : ExtN H H') (h : Purse H p) : Purse H' p := let ⟨x, y, z, e, h⟩ := h; ⟨x, y, z, ext_lst S e, h⟩
theorem tabs_butP {T : List NTab} {H H' : Hp} {p : Addr} (t : TabsN T H) (h : Purse H p) (B : But p H H') : TabsN T H' := let ⟨_, e⟩ := h.lst; Bt.TabsN.but t e B
theorem Purse.ne_tup {H : Hp} {p a : Addr} {xs : List V} (h : Purse H p) (ha : H a = some (.tup xs)) : a ≠ p := fun z => by
  obtain ⟨_, e⟩ := h.lst
  rw [z, e] at ha; cases ha
theorem Purse.ne_pls {H : Hp} {p a : Addr} {xs : List V} {ps : List (Str × Str)} (h : Purse H p) (ha : H a = some (.lst xs)) (h2 : All2 (PlAt H) xs ps) : a ≠ p := fun z => by
  obtain ⟨_, _, _, e, _⟩ := h
  rw [z, e] at ha
  injection ha with ha; injection ha with ha
  subst ha
  cases h2 with
  | cons h _ => obtain ⟨_, e, _⟩ := h; cases e
theorem Purse.ne_strs {H : Hp} {p a : Addr} {zs : List Str} (h : Purse H p) (ha : H a = some (.lst (zs.map V.str))) : a ≠ p := fun z => by
  obtain ⟨_, _, _, e, _⟩ := h
  rw [z, e] at ha
  injection ha with ha; injection ha with ha
  cases zs with
  | nil => cases ha
  | cons _ _ => cases ha
theorem PlAt.buN {H H' : Hp} {p : Addr} {x : V} {q : Str × Str} (h : Purse H p) (B : BuN p H H') : PlAt H x q → PlAt H' x q := fun ⟨a, e, g⟩ => ⟨a, e, B.tup (h.ne_tup g) g⟩
def rMin2 : List V → Hp → VK → Prop := fun xs H Q => ∃ i j : Int, xs = [.int i, .int j] ∧ Q (.int (if j < i then j else i)) H
theorem call_mn {X : Cx} (hc : X.calm = true) : CallR X (.builtin "min") rMin2 := call_min2 hc
theorem q_mn {H : Hp} {Q : VK} {i j : Int} (q : Q (.int (if j < i then j else i)) H) : rMin2 [.int i, .int j] H Q := ⟨i, j, rfl, q⟩
theorem q_pick {K : PySem.W.Frag} {H : Hp} {Q : VK} {E : XK} {pu lp : Addr} {xs : List V} {ps : List (Str × Str)} (hp : Purse H pu) (hl : H lp = some (.lst xs)) (h2 : All2 (PlAt H) xs ps) (hne : xs ≠ []) (hz : xs.length < 1000)
    (q : ∀ a q0 H1, q0 ∈ ps → H1 a = some (.tup [.str q0.1, .str q0.2]) → Purse H1 pu → But pu H H1 → Q (.ref a) H1) : spDraw [.ref pu, .int xs.length] H (fun y H2 => rIx K (.ref lp) y H2 Q) E := by
  have lpu : lp ≠ pu := hp.ne_pls hl h2
  have pos : 0 < xs.length := List.length_pos_iff.mpr hne
  refine ⟨pu, xs.length, rfl, hp, by omega, by omega, fun n H1 n0 n1 p1 b1 => ?_⟩
  obtain ⟨jn, rfl⟩ : ∃ jn : Nat, n = jn := ⟨n.toNat, by omega⟩
  have hj : xs[jn]? = some xs[jn] := List.getElem?_eq_getElem (by omega)
  obtain ⟨q0, e0, a, ea, ha⟩ := h2.get hj
  refine q_ixL (SqL.of (b1 _ _ lpu hl)) (at_of (j := jn) rfl (by rw [hj, ea])) ?_
  exact q a q0 H1 (List.mem_of_getElem? e0) (b1 _ _ (hp.ne_tup ha) ha) p1 b1
theorem take_filter_yes {α : Type} {p : α → Bool} {xs : List α} {i : Nat} {x : α} (h : xs[i]? = some x) (e : p x = true) : (xs.take (i + 1)).filter p = (xs.take i).filter p ++ [x] := by
  rw [List.take_add_one, h, List.filter_append]
  simp [e]
theorem take_filter_no {α : Type} {p : α → Bool} {xs : List α} {i : Nat} {x : α} (h : xs[i]? = some x) (e : p x = false) : (xs.take (i + 1)).filter p = (xs.take i).filter p := by
  rw [List.take_add_one, h, List.filter_append]
  simp [e]
structure TxtR6 (K : PySem.W.Frag) (mg : Str → Option Value) : Prop where
  n_min : mg "min" = none
  n_max : mg "max" = none
  d__law_piece : Df K mg "_law_piece" s__law_piece ["_law_purse_here", "_law_places", "_law_there"]
section
variable {P : Program} {w : World} {K : PySem.W.Frag} {mg : Str → Option Value} {base : Heap} {T : List NTab} {cL PL : Addr}
def spLPiece (T : List NTab) : Sp := fun vs H Q _ => ∃ pu lp lt xs ps ys qs, vs = [.ref pu, .ref lp, .ref lt] ∧ Purse H pu ∧ H lp = some (.lst xs) ∧ All2 (PlAt H) xs ps ∧ xs ≠ [] ∧ xs.length ≤ 18 ∧ (∀ q ∈ ps, Nm q.1 ∧ Nm q.2) ∧
  H lt = some (.lst ys) ∧ lt ≠ pu ∧ All2 (PlAt H) ys qs ∧ qs.length ≤ 18 ∧ qs.Nodup ∧ (∀ q ∈ qs, Nm q.2) ∧ TabsN T H ∧
  ∀ t H' f l c m bs e, BuN pu H H' → Purse H' pu → TabsN T H' → LkAt H' t f l c m bs e → PcS f l c m bs e → c ≤ 1000 → riseB l c (rowOf m bs) = true → (bs = [] → e = true) → bs.length ≤ 18 → Q (.ref t) H'
theorem ok__law_piece (X0 : Txt K mg) (L : TxtL K mg) (N : TxtN K mg) (TK : TxtK K mg) (Y : TxtY K mg cL) (B : Tb1 base mg T cL PL) (R : TxtR6 K mg) : Cal P w K mg base 6 "_law_piece" (spLPiece T) := by
  refine R.d__law_piece.cal sc__law_piece (fun vs H Q E h => ?_) (fun fn cdv A outer s H vs Q E hr h => ?_)
  · obtain ⟨pu, lp, lt, xs, ps, ys, qs, rfl, _⟩ := h
    rfl
  · obtain ⟨pu, lp, lt, xs, ps, ys, qs, rfl, hp, hl, h2, hne, hz, hps, hlt, ltp, g2, gz, gnd, gn, ht, k⟩ := h
    have hu := hr.units
    refine ⟨_, (pss_cons (ps_set (i := 3) sc__law_piece.nd rfl (.inr rfl) (pe_ix ix_seq (pe_ix ix_seq (pv 1) (pe_c (ok__law_draw L) hr (by decide) rfl (pa_cons (pv 0) (pa_cons (pe_callB call_lenQ (by rfl) N.n_len (by decide +kernel) (pa_cons (pv 1) pa_nil)) pa_nil))) (fun _ _ => rfl)) pe_int (fun _ _ => rfl)))
      (pss_cons (ps_set (i := 4) sc__law_piece.nd rfl (.inr rfl) (pe_c (ok__law_form X0 L) hr (by decide) rfl (pa_cons (pv 0) pa_nil)))
      (pss_cons (ps_set (i := 5) sc__law_piece.nd rfl (.inl rfl) (pe_c (ok__law_draw L) hr (by decide) rfl (pa_cons (pv 0) (pa_cons pe_int pa_nil))))
      (C8.pss_cut (ps_set (i := 6) sc__law_piece.nd rfl (.inr rfl) (pe_ifExp (pt_cmpR op_eq (pv 5) pe_int (by rfl)) (pe_ix ix_seq (pe_ix ix_seq (pv 1) (pe_c (ok__law_draw L) hr (by decide) rfl (pa_cons (pv 0) (pa_cons (pe_callB call_lenQ (by rfl) N.n_len (by decide +kernel) (pa_cons (pv 1) pa_nil)) pa_nil))) (fun _ _ => rfl)) pe_int (fun _ _ => rfl)) pe_non))
      (C8.pss_cut (ps_if (pt_cmpR op_eq (pv 5) pe_int (by rfl)) (pss_one (ps_set (i := 6) sc__law_piece.nd rfl (.inr rfl) (pe_c (ok__law_name L N) hr (by decide) rfl (pa_cons (pv 0) pa_nil)))) pss_nil)
      (pss_cons (ps_set (i := 7) sc__law_piece.nd rfl (.inl rfl) (pe_c (ok__law_ordered X0 L TK Y B) hr (by decide) rfl (pa_cons (pv 4) (pa_cons (pe_lc (own := [("_law_place", 10)]) (g := gName 10) (tt := tTest (tOp (rEqU K) (tOp (rIx K) (tVar 10) (tC (.int 0))) (tVar 3))) (te := tOp (rIx K) (tVar 10) (tC (.int 1))) rfl sc__law_piece.nd (pi_list (pv 2)) (blkOk_by (own := [("_law_place", 10)]) (N := ["_law_purse_here", "_law_places", "_law_there", "_law_folder", "_law_form_here", "_law_way", "_law_mark", "_law_here", "_law_many", "_law_ended", "_law_place", "_law_name_here"]) (sc := defScope s__law_piece) (by decide +kernel)) (fun _ _ _ _ _ => pg_name (i := 10) sc__law_piece.nd rfl (Or.inl rfl)) (fun _ _ _ _ _ => by exact pts_one (pt_cmpR (op_eqU hu) (pe_ix ix_seq (pv 10) pe_int (fun _ _ => rfl)) (pv 3) (by rfl))) (fun _ _ _ _ _ => by exact (pe_ix ix_seq (pv 10) pe_int (fun _ _ => rfl)))) pa_nil))))
      (C8.pss_cut (ps_if (pt_cmpR op_isNotNon (pv 6) pe_non (by rfl)) (pss_one (ps_setLc (i := 7) (own := [("_law_name_here", 11)]) (g := gName 11) (tt := tTest (tOp (rGtD K) (tCall spLKey [] E0 (tCons (tVar 4) (tCons (tVar 11) tNil))) (tCall spLKey [] E0 (tCons (tVar 4) (tCons (tVar 6) tNil))))) (te := tVar 11) rfl sc__law_piece.nd rfl rfl (sw_true rfl rfl rfl (by decide +kernel)) (pi_list (pv 7)) (blkOk_by (own := [("_law_name_here", 11)]) (N := ["_law_purse_here", "_law_places", "_law_there", "_law_folder", "_law_form_here", "_law_way", "_law_mark", "_law_here", "_law_many", "_law_ended", "_law_place", "_law_name_here"]) (sc := defScope s__law_piece) (by decide +kernel)) (fun _ _ _ _ _ => pg_name (i := 11) sc__law_piece.nd rfl (Or.inl rfl)) (fun _ _ _ _ _ => by exact pts_one (pt_cmpR (op_gtD hu) (pe_c (ok__law_key L TK) hr (by decide) rfl (pa_cons (pv 4) (pa_cons (pv 11) pa_nil))) (pe_c (ok__law_key L TK) hr (by decide) rfl (pa_cons (pv 4) (pa_cons (pv 6) pa_nil))) (by rfl))) (fun _ _ _ _ _ => (pv 11)))) pss_nil)
      (pss_cons (ps_set (i := 8) sc__law_piece.nd rfl (.inl rfl) (pe_callB (call_mn rfl) (by rfl) R.n_min (by decide +kernel) (pa_cons (pe_callB call_lenQ (by rfl) N.n_len (by decide +kernel) (pa_cons (pv 7) pa_nil)) (pa_cons (pe_callB (call_mx rfl) (by rfl) R.n_max (by decide +kernel) (pa_cons pe_int (pa_cons (pe_c (ok__law_draw L) hr (by decide) rfl (pa_cons (pv 0) (pa_cons pe_int pa_nil))) pa_nil))) pa_nil))))
      (C8.pss_cut (ps_set (i := 9) sc__law_piece.nd rfl (.inl rfl) (pe_or (pe_cmpR (op_eqU hu) (pv 7) (pe_lst pa_nil) (by rfl)) (pe_one (pe_and (pe_cmpR op_eq (pv 8) (pe_callB call_lenQ (by rfl) N.n_len (by decide +kernel) (pa_cons (pv 7) pa_nil)) (by rfl)) (pe_one (pe_cmpR op_gtI (pe_c (ok__law_draw L) hr (by decide) rfl (pa_cons (pv 0) (pa_cons pe_int pa_nil))) pe_int (by rfl)))))))
      (pss_one (ps_ret (pe_tup (pa_cons pe_str (pa_cons (pv 3) (pa_cons (pv 4) (pa_cons (pv 6) (pa_cons (pe_slice sl_list (pv 7) po_none (po_some (pv 8))) (pa_cons (pv 9) pa_nil)))))))))))))))))), ?_⟩
    have lpu : lp ≠ pu := hp.ne_pls hl h2
    k_extra "r_L5"
    refine q_lenL (SqL.of hl) ?_
    k_extra "r_L5"
    refine q_pick hp hl h2 hne (by omega) fun a0 q0 H1 mq0 ha0 p1 b1 => ?_
    k_extra "r_L5"
    refine q_ixT (SqT.of ha0) (at_of (j := 0) rfl rfl) ?_
    k_extra "r_L5"
    refine ⟨pu, rfl, p1, fun fa H2 l c nfa hfa ll c1 c2 p2 b2 => ?_⟩
    k_extra "r_L5"
    refine ⟨pu, 4, rfl, p2, by decide, by decide, fun way H3 w0 w1 p3 b3 => ?_⟩
    k_extra "r_L5"
    have B3 : But pu H H3 := b1.trans (b2.trans b3)
    have fpu : fa ≠ pu := p2.ne_tup hfa
    obtain ⟨nf, _⟩ := hps q0 mq0
    refine ⟨fun σ H' => ∃ m : Option Str, σ = [some (.ref pu), some (.ref lp), some (.ref lt), some (.str q0.1), some (.ref fa), some (.int way), some (mkV m), none, none, none, none, none] ∧ (∀ z, m = some z → Nm z) ∧ Purse H' pu ∧ But pu H3 H', ?_, ?_⟩
    · k_extra "r_L5"
      refine ⟨rfl, ?_⟩
      k_extra "r_L5"
      refine s_ifD (fun _ => ?_) (fun _ => ?_)
      · k_extra "r_L5"
        refine q_lenL (SqL.of (B3 _ _ lpu hl)) ?_
        k_extra "r_L5"
        refine q_pick p3 (B3 _ _ lpu hl) (h2.imp fun _ _ h => PlAt.buN hp (BuN.but B3) h) hne (by omega) fun a1 q1 H4 mq1 ha1 p4 b4 => ?_
        k_extra "r_L5"
        refine q_ixT (SqT.of ha1) (at_of (j := 1) rfl rfl) ?_
        k_extra "r_L5"
        exact ⟨some q1.2, rfl, fun z e => by cases e; exact (hps q1 mq1).2, p4, b4⟩
      · k_extra "r_L5"
        exact ⟨none, rfl, (fun z e => nomatch e), p3, But.refl⟩
    rintro σ H4 ⟨m, rfl, nm, p4, b4⟩
    refine ⟨fun σ H' => ∃ m : Option Str, σ = [some (.ref pu), some (.ref lp), some (.ref lt), some (.str q0.1), some (.ref fa), some (.int way), some (mkV m), none, none, none, none, none] ∧ (∀ z, m = some z → Nm z) ∧ Purse H' pu ∧ But pu H3 H', ?_, ?_⟩
    · k_extra "r_L5"
      refine ⟨rfl, ?_⟩
      k_extra "r_L5"
      refine s_ifD (fun _ => ?_) (fun _ => ?_)
      · k_extra "r_L5"
        refine ⟨pu, rfl, p4, fun z H5 nz p5 b5 => ?_⟩
        k_extra "r_L5"
        exact ⟨some z, rfl, (fun y e => by cases e; exact nz), p5, b4.trans b5⟩
      · k_extra "r_L5"
        exact ⟨m, rfl, nm, p4, b4⟩
    clear nm p4 b4 m H4
    rintro σ H4 ⟨m, rfl, nm, p4, b4⟩
    have B4 : But pu H H4 := B3.trans b4
    have hfa4 := (b3.trans b4) _ _ fpu hfa
    have t4 : TabsN T H4 := tabs_butP ht hp B4
    k_extra "r_L5"
    refine s_lc ?_
    k_extra "r_L5"
    refine ⟨lt, rfl, ⟨_, SqL.of (B4 _ _ ltp hlt)⟩, fun D nD => lc_list (K := K) (a := lt) (xs := ys) (fun i H' => Same H4 H' ∧ H' D = some (.lst ((((qs.take i).filter fun q => decide (q.1 = q0.1)).map (·.2)).map V.str))) ⟨Same.new nD, upd_same⟩ (fun i H' _ h => SqL.of (h.1 _ _ (B4 _ _ ltp hlt))) ?_ ?_⟩
    · rintro j y H' hj ⟨S', hD⟩
      obtain ⟨q, eq, a5, rfl, ha5⟩ := g2.get hj
      have ha5' := S' _ _ (B4 _ _ (hp.ne_tup ha5) ha5)
      k_extra "r_L5"
      refine ⟨rfl, ?_⟩
      k_extra "r_L5"
      refine q_ixT (SqT.of ha5') (at_of (j := 0) rfl rfl) ?_
      k_extra "r_L5"
      refine q_eq rfl ?_
      by_cases eu : q.1 = q0.1
      · refine ⟨_, rfl, s_if1 (by simp [eu]) ?_⟩
        k_extra "r_L5"
        refine q_ixT (SqT.of ha5') (at_of (j := 1) rfl rfl) ?_
        refine ⟨_, hD, ?_, same_mut S' nD, ?_⟩
        · rw [List.length_map, List.length_map]
          have := List.length_filter_le (fun q : Str × Str => decide (q.1 = q0.1)) (qs.take j)
          rw [List.length_take] at this
          exact szlt (by omega)
        · rw [upd_same, take_filter_yes eq (by simp [eu])]
          simp
      · refine ⟨_, rfl, s_if0 (by simp [eu]) ⟨S', ?_⟩⟩
        rw [hD, take_filter_no eq (by simp [eu])]
    · rintro H5 ⟨S5, h5⟩
      rw [g2.len, List.take_length] at h5
      obtain ⟨b0, eb0⟩ : ∃ b0, b0 = (qs.filter fun q => decide (q.1 = q0.1)).map (·.2) := ⟨_, rfl⟩
      rw [← eb0] at h5
      have nb0 : ∀ z ∈ b0, Nm z := fun z hz => by
        rw [eb0] at hz
        obtain ⟨q, mq, rfl⟩ := List.mem_map.mp hz
        exact gn q (List.mem_filter.mp mq).1
      have lb0 : b0.length ≤ 18 := by
        rw [eb0, List.length_map]
        exact Nat.le_trans (List.length_filter_le _ _) gz
      have db0 : b0.Nodup := by
        rw [eb0]
        refine List.pairwise_map.mpr (List.Pairwise.imp_of_mem (fun ha hb n e => n ?_) (gnd.filter _))
        have e1 := of_decide_eq_true (List.mem_filter.mp ha).2
        have e2 := of_decide_eq_true (List.mem_filter.mp hb).2
        exact Prod.ext (e1.trans e2.symm) e
      k_extra "r_L5"
      refine ⟨fa, D, l, c, b0, rfl, S5 _ _ hfa4, ll, c1, SqL.of h5, by omega, nb0, t4.ext fun _ _ e => S5 _ _ e, fun D2 H6 n6 x6 t6 h6 => ?_⟩
      have p6 : Purse H6 pu := (p4.mono S5).ext x6
      have B6 : BuN pu H H6 := (BuN.but B4).trans ((BuN.same S5).trans (BuN.ext x6))
      have hfa6 := ext_tup x6 (S5 _ _ hfa4)
      have pw0 := kk_pw (c := c) ll nb0 db0
      have ns0 : ∀ z ∈ srt l c b0, Nm z := fun z hz => nb0 z ((List.mergeSort_perm b0 _).mem_iff.mp hz)
      have ls0 : (srt l c b0).length ≤ 18 := by
        unfold srt
        rw [List.length_mergeSort]
        exact lb0
      k_extra "r_L5"
      refine ⟨fun σ H' => ∃ D3 bs, σ = [some (.ref pu), some (.ref lp), some (.ref lt), some (.str q0.1), some (.ref fa), some (.int way), some (mkV m), some (.ref D3), none, none, none, none] ∧ Same H6 H' ∧ H' D3 = some (.lst (bs.map V.str)) ∧ (∀ z ∈ bs, Nm z) ∧ (rowOf m bs).Pairwise (fun y z => kk l c y < kk l c z) ∧ bs.length ≤ 18, ?_, ?_⟩
      · k_extra "r_L5"
        refine q_isNotNon ?_
        cases m with
        | none =>
          refine ⟨_, rfl, s_if0 (by simp [mkV]) ?_⟩
          k_extra "r_L5"
          exact ⟨D2, srt l c b0, rfl, Same.refl _, h6, ns0, pw0, ls0⟩
        | some mk =>
          refine ⟨_, rfl, s_if1 (by simp [mkV]) ?_⟩
          k_extra "r_L5"
          refine s_lc ?_
          k_extra "r_L5"
          refine ⟨D2, rfl, ⟨_, SqL.of h6⟩, fun D4 nD4 => lc_list (K := K) (a := D2) (xs := (srt l c b0).map V.str) (fun i H' => Same H6 H' ∧ H' D4 = some (.lst ((((srt l c b0).take i).filter fun z => decide (kk l c mk < kk l c z)).map V.str))) ⟨Same.new nD4, upd_same⟩ (fun i H' _ h => SqL.of (h.1 _ _ h6)) ?_ ?_⟩
          · rintro j y H' hj ⟨S', hD⟩
            rw [List.getElem?_map] at hj
            obtain ⟨z, ez, rfl⟩ := Option.map_eq_some_iff.mp hj
            k_extra "r_L5"
            refine ⟨rfl, ?_⟩
            k_extra "r_L5"
            refine ⟨fa, z, l, c, rfl, S' _ _ hfa6, ll, c1, ns0 z (List.mem_of_getElem? ez), fun t7 r7 H7 nt7 S7 q1 q2 => ?_⟩
            k_extra "r_L5"
            refine ⟨fa, mk, l, c, rfl, S7 _ _ (S' _ _ hfa6), ll, c1, nm mk rfl, fun t8 r8 H8 nt8 S8 q3 q4 => ?_⟩
            refine q_gtD (kL_dp (S8 _ _ q1) (S8 _ _ q2)) (kL_dp q3 q4) (kL_alike l c z mk) (fun e => nomatch e) (Nat.le_trans (kLst_depth _) (by decide)) ?_
            rw [lt_kL]
            have S68 := S'.trans (S7.trans S8)
            have hD8 := S8 _ _ (S7 _ _ hD)
            refine ⟨_, rfl, s_ifD (fun lt => ?_) (fun nl => ?_)⟩
            · k_extra "r_L5"
              refine ⟨_, hD8, ?_, same_mut S68 nD4, ?_⟩
              · rw [List.length_map]
                have := List.length_filter_le (fun z => decide (kk l c mk < kk l c z)) ((srt l c b0).take j)
                rw [List.length_take] at this
                exact szlt (by omega)
              · rw [upd_same, take_filter_yes ez (decide_eq_true lt)]
                simp
            · exact ⟨S68, by rw [hD8, take_filter_no ez (decide_eq_false nl)]⟩
          · rintro H7 ⟨S7, h7⟩
            rw [List.length_map, List.take_length] at h7
            k_extra "r_L5"
            refine ⟨D4, _, rfl, S7, h7, fun z hz => ns0 z (List.mem_filter.mp hz).1, List.Pairwise.cons (fun z hz => of_decide_eq_true (List.mem_filter.mp hz).2) (pw0.filter _), Nat.le_trans (List.length_filter_le _ _) ls0⟩
      · rintro σ H7 ⟨D3, bs, rfl, S7, h7, nbs, pw, lbs⟩
        k_extra "r_L5"
        refine q_lenL (SqL.of h7) ?_
        k_extra "r_L5"
        refine ⟨pu, 8, rfl, p6.mono S7, by decide, by decide, fun d H8 d0 d1 p8 b8 => ?_⟩
        k_extra "r_L5"
        refine q_mx ?_
        k_extra "r_L5"
        refine q_mn ?_
        k_extra "r_L5"
        obtain ⟨mn, em, m1, m2⟩ : ∃ mn : Nat, (if (if d > 1 then d else 1) < (((bs.map V.str).length : Nat) : Int) then (if d > 1 then d else 1) else (((bs.map V.str).length : Nat) : Int)) = (mn : Int) ∧ mn ≤ bs.length ∧ (1 ≤ bs.length → 1 ≤ mn) := by
          rw [List.length_map]
          refine ⟨(if (if d > 1 then d else 1) < ((bs.length : Nat) : Int) then (if d > 1 then d else 1) else ((bs.length : Nat) : Int)).toNat, ?_, ?_, ?_⟩
          all_goals (split <;> split <;> omega)
        rw [em]
        have h8 := b8 _ _ ((p6.mono S7).ne_strs h7) h7
        have p8' := p8
        have B8 : BuN pu H H8 := B6.trans ((BuN.same S7).trans (BuN.but b8))
        have t8 : TabsN T H8 := tabs_butP (t6.ext fun _ _ e => S7 _ _ e) (p6.mono S7) b8
        have hfa8 := b8 _ _ fpu (S7 _ _ hfa6)
        refine ⟨fun σ H' => ∃ e, σ = [some (.ref pu), some (.ref lp), some (.ref lt), some (.str q0.1), some (.ref fa), some (.int way), some (mkV m), some (.ref D3), some (.int mn), some (.bl e), none, none] ∧ But pu H8 H' ∧ Purse H' pu ∧ (bs = [] → e = true), ?_, ?_⟩
        · k_extra "r_L5"
          refine q_newL (by show 0 ≤ sizeLine; decide) fun l0 H9 n9 S9 h9 => ?_
          refine q_eqD (dp_lst_strs (S9 _ _ h8)) (dp_lst_strs (ys := []) h9) (shaped_strs fun y hy => (nbs y hy).asc) (shaped_strs fun y hy => by cases hy) ?_
          rw [eqv_strs]
          refine ⟨_, rfl, ?_⟩
          by_cases eb : bs = []
          · refine s_if1 (by simp [eb]) ?_
            k_extra "r_L5"
            exact ⟨true, rfl, But.of S9, p8.mono S9, fun _ => rfl⟩
          · refine s_if0 (by simp [eb]) ?_
            k_extra "r_L5"
            refine q_lenL (SqL.of (S9 _ _ h8)) ?_
            k_extra "r_L5"
            refine ⟨rfl, ?_⟩
            refine ⟨_, rfl, ?_⟩
            refine s_ifD (fun _ => ?_) (fun _ => ?_)
            · k_extra "r_L5"
              refine ⟨pu, 3, rfl, p8.mono S9, by decide, by decide, fun x H10 x0 x1 p10 b10 => ?_⟩
              k_extra "r_L5"
              exact ⟨_, rfl, (But.of S9).trans b10, p10, fun z => absurd z eb⟩
            · k_extra "r_L5"
              exact ⟨_, rfl, But.of S9, p8.mono S9, fun z => absurd z eb⟩
        · rintro σ H9 ⟨e, rfl, b9, p9, he⟩
          have h9 := b9 _ _ (p8.ne_strs h8) h8
          have hfa9 := b9 _ _ fpu hfa8
          have t9 : TabsN T H9 := tabs_butP t8 p8 b9
          k_extra "r_L5"
          refine q_slL (SqL.of h9) fun p10 H10 n10 S10 h10 => ?_
          have ec : cutV (bs.map V.str) none (some (mn : Int)) = (bs.take mn).map V.str := by
            unfold cutV
            rw [HT.sIx_nat, HT.sIx_none, List.map_take]
            simp
          rw [ec] at h10
          k_extra "r_L5"
          refine q_newT (by show 6 ≤ sizeLine; decide) fun t11 H11 n11 S11 h11 => ?_
          have S9' := S10.trans S11
          refine k t11 H11 q0.1 l c m (bs.take mn) e (B8.trans ((BuN.but b9).trans (BuN.same S9'))) (p9.mono S9') (t9.ext fun _ _ e => S9' _ _ e) ⟨fa, p10, h11, S9' _ _ hfa9, S11 _ _ h10⟩ ⟨nf, ll, c1, nm, ?_, fun z hz => nbs z (List.mem_of_mem_take hz)⟩ c2 ?_ (fun z => he ?_) ?_
          · rw [List.length_take]; omega
          · cases m with
            | none => exact rise_pw (pw.sublist (List.take_sublist _ _))
            | some mk =>
              have p := List.pairwise_cons.mp pw
              exact rise_pw (List.Pairwise.cons (fun z hz => p.1 z (List.mem_of_mem_take hz)) (p.2.sublist (List.take_sublist _ _)))
          · cases bs with
            | nil => rfl
            | cons b bs =>
              have : 1 ≤ mn := m2 (by simp)
              obtain ⟨mn', rfl⟩ : ∃ k, mn = k + 1 := ⟨mn - 1, by omega⟩
              exact nomatch z
          · rw [List.length_take]; omega
end
end Bt
namespace Bt
open PySem PySem.Spec PyProof.Rows L2 LamX NdefX
open PySem.W (dataLt alike)
theorem words40_ : True := by
  k_with "s_C5" => first
    | ((with_reducible refine' s_var ?hv ?_); (case hv => exact rfl))
    | with_reducible first
      | refine' s_c ?_ | refine' s_op ?_ | refine' s_asg ?_ | refine' s_gname ?_ | refine' s_seq ?_ | refine' s_next ?_ | refine' s_ret ?_ | refine' s_ifS ?_ | refine' s_drop ?_ | refine' s_retN ?_
      | refine' s_test ?_ | refine' s_B ?_ | refine' q_test ?_ | refine' s_int ?_ | refine' s_cons ?_ | refine' s_nil ?_ | refine' s_call ?_ | refine' s_CB ?_ | refine' s_andT ?_ | refine' s_orT ?_ | refine' s_notT ?_
      | refine' s_andV ?_ | refine' s_orV ?_ | refine' s_notV ?_ | refine' s_ifV ?_ | refine' s_chain ?_ | refine' s_sl ?_ | refine' s_noPart ?_ | refine' s_part ?_ | refine' s_gsub ?_ | refine' s_BM ?_ | refine' s_tup ?_ | refine' s_lst ?_
      | refine' q_add ?_ | refine' q_sub ?_ | refine' q_lt ?_ | refine' q_le ?_ | refine' q_gt ?_ | refine' q_ge ?_ | refine' s_ifT ?_ | refine' s_ifF ?_ | refine' s_yes ?_ | refine' s_prop ?_ | refine' s_iList ?_ | refine' s_callOS ?_ | refine' s_iStr ?_ | refine' s_M0 ?_ | refine' s_make ?_ | refine' s_makeS ?_ | refine' s_ownL ?_ | refine' s_ownR ?_ | refine' s_callSD ?_ | refine' s_fld ?_ | refine' s_prop ?_ | refine' s_raise1 ?_ | refine' s_for ?_ | refine' s_rng1 ?_ | refine' s_par ?_ | refine' s_gcons ?_ | refine' s_gnil ?_ | refine' s_iList ?_ | refine' s_iEnum ?_
      | (refine' q_mod ?hm ?_; (case hm => first | omega | decide)) | (refine' q_fdiv ?hm ?hn ?_; (case hm => first | omega | decide); (case hn => first | omega | decide))
      | (refine' q_mulR ?hm ?_; (case hm => first | omega | decide)) | (refine' q_mulL ?hm ?_; (case hm => first | omega | decide))
    | dsimp only
  k_with "r_C5" => repeat (k_extra "s_C5")
  trivial
/-! ### what makes a piece -/
structure TxtC (K : PySem.W.Frag) (mg : Str → Option Value) : Prop where
  d__is_piece : Df K mg "_is_piece" s__is_piece ["folder", "form", "mark", "names", "ended"]
/-- what a piece is made of -/
structure PcIn (C : Addr) (H : Hp) (f : Str) (a : Addr) (l : Str) (c : Int) (m : Option Str) (q : Addr) (bs : List Str) (e : Bool) : Prop where
  nf : Nm f
  fa : FormAt C H a l c
  ll : Letters l
  c1 : 1 ≤ c
  nm : ∀ z, m = some z → Nm z
  hq : H q = some (.lst (bs.map V.str))
  hz : bs.length ≤ 100
  nb : ∀ z ∈ bs, Nm z
  ri : riseB l c (rowOf m bs) = true
  ne : bs = [] → e = true
theorem PcIn.mono {C : Addr} {H H' : Hp} {f : Str} {a : Addr} {l : Str} {c : Int} {m : Option Str} {q : Addr} {bs : List Str} {e : Bool} (S : Same H H') (h : PcIn C H f a l c m q bs e) : PcIn C H' f a l c m q bs e :=
  ⟨h.nf, h.fa.mono S, h.ll, h.c1, h.nm, S _ _ h.hq, h.hz, h.nb, h.ri, h.ne⟩
theorem nm_arg {K : PySem.W.Frag} {H : Hp} {z : Str} (h : Nm z) : NameArg K H (.str z) := ⟨"str", Pl.str, fun y e => by cases e; have := h.2.1; omega⟩
theorem mkV_inj {m m' : Option Str} (h : mkV m = mkV m') : m = m' := by
  cases m <;> cases m' <;> first | rfl | (simp only [mkV] at h; cases h; done) | (simp only [mkV] at h; injection h with h; rw [h])
theorem mkV_non {m : Option Str} (h : mkV m = .non) : m = none := by
  cases m with
  | none => rfl
  | some z => exact nomatch h
theorem mkV_str {m : Option Str} {z : Str} (h : mkV m = .str z) : m = some z := by
  cases m with
  | none => exact nomatch h
  | some y => injection h with h; rw [h]
theorem Pl.of_bl {K : PySem.W.Frag} {H : Hp} {x : V} {T : String} (h : Pl K H x T) (e : T = "bool") : ∃ b, x = .bl b := by
  have key : ∀ t, TyX K H x t → t = .type "bool" → ∃ z, x = .bl z := fun t h e => by
    cases h with
    | base b =>
      cases b with
      | bl z => exact ⟨z, rfl⟩
      | ins _ _ _ _ _ _ => cases e
      | _ => exact ty_ne e (by decide)
    | _ => exact ty_ne e (by decide)
  exact key _ h.1 (by rw [e])
theorem map_str_inj {xs ys : List Str} (h : xs.map V.str = ys.map V.str) : xs = ys := by
  induction xs generalizing ys with
  | nil => cases ys with | nil => rfl | cons y ys => cases h
  | cons x xs ih => cases ys with
    | nil => cases h
    | cons y ys =>
      rw [List.map_cons, List.map_cons, List.cons.injEq] at h
      rw [ih h.2, V.str.inj h.1]
/-- what is given for a form: a form, or a value of a built-in kind -/
def FoArg (K : PySem.W.Frag) (C : Addr) (H : Hp) (x : V) : Prop := (∃ a l c, x = .ref a ∧ FormAt C H a l c ∧ Letters l ∧ 1 ≤ c) ∨ ∃ T, Pl K H x T ∧ ∀ a l c, x = .ref a → ¬ FormAt C H a l c
theorem FoArg.mono {K : PySem.W.Frag} {C : Addr} {H H' : Hp} {x : V} (S : Same H H') (hn : ∀ a, x = .ref a → ∃ o, H a = some o) (h : FoArg K C H x) : FoArg K C H' x := by
  rcases h with ⟨a, l, c, e, f, g⟩ | ⟨T, p, n⟩
  · exact .inl ⟨a, l, c, e, f.mono S, g⟩
  · refine .inr ⟨T, p.mono S, fun a l c e f => ?_⟩
    obtain ⟨o, eo⟩ := hn a e
    obtain ⟨dx, z⟩ := f
    have := S _ _ eo
    rw [z] at this
    exact n a l c e ⟨dx, eo.trans this.symm⟩
def LiArg (K : PySem.W.Frag) (H : Hp) (x : V) : Prop := ∃ T, Pl K H x T ∧ (∀ a, x = .ref a → T ≠ "list" → ∀ ys, H a ≠ some (.lst ys)) ∧ (T = "list" → ∃ q ys, x = .ref q ∧ H q = some (.lst ys) ∧ ys.length ≤ 100 ∧ ∀ y ∈ ys, NameArg K H y)
/-- five values that make a piece -/
def PcOk (C : Addr) (H : Hp) (xf xa xm xn xe : V) : Prop := ∃ f a l c m q bs e, xf = .str f ∧ xa = .ref a ∧ xm = mkV m ∧ xn = .ref q ∧ xe = .bl e ∧ PcIn C H f a l c m q bs e
section
variable {P : Program} {w : World} {K : PySem.W.Frag} {mg : Str → Option Value} {base : Heap}
def spIsPcG (K : PySem.W.Frag) (C : Addr) : Sp := fun vs H Q _ => ∃ xf xa xm xn xe Te, vs = [xf, xa, xm, xn, xe] ∧ NameArg K H xf ∧ FoArg K C H xa ∧ NameArg K H xm ∧ LiArg K H xn ∧ Pl K H xe Te ∧
  (PcOk C H xf xa xm xn xe → ∀ H', Same H H' → Q (.bl true) H') ∧ (¬ PcOk C H xf xa xm xn xe → ∀ H', Same H H' → Q (.bl false) H')
theorem ok__is_piece {C : Addr} (T : Txt K mg) (L : TxtL K mg) (N : TxtN K mg) (TS : TxtS K mg) (FC : FormC K mg C) (TK : TxtK K mg) (R : TxtR K mg) (Y : TxtC K mg) : Cal P w K mg base 6 "_is_piece" (spIsPcG K C) := by
  refine Y.d__is_piece.cal sc__is_piece (fun vs H Q E h => ?_) (fun f cdv A outer s H vs Q E hr h => ?_)
  · obtain ⟨xf, xa, xm, xn, xe, Te, rfl, _⟩ := h
    rfl
  · obtain ⟨xf, xa, xm, xn, xe, Te, rfl, hf, ha, hm, hn, hE, kY, kN⟩ := h
    refine ⟨_, (pss_cons (ps_if (pt_not (PW.pt (pw_and (pt_val (pe_c (ok_is_name T N) hr (by decide) rfl (pa_cons (pv 0) pa_nil))) (pw_and1 (pt_val (pe_callB call_isi (by rfl) T.n_isinstance (by decide +kernel) (pa_cons (pv 1) (pa_cons (pe_glob (v := .ref C) (by rfl) FC.g rfl) pa_nil)))))))) (pss_one (ps_ret pe_bl)) pss_nil)
      (C8.pss_cut (ps_if (pt_not (PW.pt (pw_or (pt_cmpR op_isNon (pv 2) pe_non (by rfl)) (pw_or1 (pt_val (pe_c (ok_is_name T N) hr (by decide) rfl (pa_cons (pv 2) pa_nil))))))) (pss_one (ps_ret pe_bl)) pss_nil)
      (pss_cons (ps_if (pt_not (PW.pt (pw_and (pt_val (pe_c (ok_is_name_list T N TS) hr (by decide) rfl (pa_cons (pv 3) pa_nil))) (pw_and1 (pt_val (pe_callB call_isi (by rfl) T.n_isinstance (by decide +kernel) (pa_cons (pv 4) (pa_cons (pe_bltn (v := .ty "bool") (by rfl) T.n_bool (by decide +kernel) rfl) pa_nil)))))))) (pss_one (ps_ret pe_bl)) pss_nil)
      (pss_one (ps_ret (pe_and (pe_or (pe_cmpR op_gtI (pe_callB call_lenQ (by rfl) N.n_len (by decide +kernel) (pa_cons (pv 3) pa_nil)) pe_int (by rfl)) (pe_one (pv 4))) (pe_one (pe_c (ok__rise T L N FC TK R) hr (by decide) rfl (pa_cons (pv 1) (pa_cons (pv 2) (pa_cons (pv 3) pa_nil))))))))))), ?_⟩
    obtain ⟨tf, pf, lf⟩ := hf
    k_extra "r_C5"
    refine ⟨xf, tf, rfl, pf, lf, fun nf H1 S1 => ?_, fun nf H1 S1 => ?_⟩
    · k_extra "r_C5"
      refine kN (fun ⟨f, _, _, _, _, _, _, _, e, _, _, _, _, p⟩ => nf ⟨f, e, p.nf⟩) H1 S1
    k_extra "r_C5"
    rcases ha with ⟨a, l, c, rfl, fa, ll, c1⟩ | ⟨ta, pa, na⟩
    rotate_left
    · refine ⟨xa, .ref C, .type ta, .ref C, false, rfl, .own C, (pa.mono S1).1, FC.kN _ pa.2, ?_⟩
      k_extra "r_C5"
      refine s_if1 rfl ?_
      k_extra "r_C5"
      exact kN (fun ⟨_, a, l, c, _, _, _, _, _, e, _, _, _, p⟩ => na a l c e p.fa) H1 S1
    · have fa1 := fa.mono S1
      refine ⟨.ref a, .ref C, .ref C, .ref C, true, rfl, .own C, fa1.ty FC, FC.kY, ?_⟩
      k_extra "r_C5"
      refine s_if0 rfl ?_
      k_extra "r_C5"
      obtain ⟨f, rfl, nf⟩ := nf
      refine ⟨fun σ H2 => ∃ m, xm = mkV m ∧ (∀ z, m = some z → Nm z) ∧ σ = [some (.str f), some (.ref a), some (mkV m), some xn, some xe] ∧ Same H H2, ?_, ?_⟩
      · k_extra "r_C5"
        refine q_isNon ?_
        by_cases em : xm = V.non
        · subst em
          refine q_test (s_ifD (fun _ => ?_) (fun e => absurd rfl e))
          refine s_if0 rfl ?_
          k_extra "r_C5"
          exact ⟨none, rfl, (fun z e => nomatch e), rfl, S1⟩
        · refine q_test (s_ifD (fun e => absurd e em) (fun _ => ?_))
          k_extra "r_C5"
          obtain ⟨tm, pm, lm⟩ := hm
          refine ⟨xm, tm, rfl, pm.mono S1, lm, fun nm H2 S2 => ?_, fun nm H2 S2 => ?_⟩
          · k_extra "r_C5"
            refine s_if1 rfl ?_
            k_extra "r_C5"
            refine kN (fun ⟨_, _, _, _, m, _, _, _, _, _, e, _, _, p⟩ => ?_) H2 (S1.trans S2)
            cases m with
            | none => exact em e
            | some z => exact nm ⟨z, e, p.nm z rfl⟩
          · obtain ⟨z, rfl, nz⟩ := nm
            k_extra "r_C5"
            refine s_if0 rfl ?_
            k_extra "r_C5"
            exact ⟨some z, rfl, (fun y e => by cases e; exact nz), rfl, S1.trans S2⟩
      · rintro σ H2 ⟨m, rfl, nm, rfl, S2⟩
        k_extra "r_C5"
        obtain ⟨Tn, pn, nn, ln⟩ := hn
        by_cases eT : Tn = "list"
        rotate_left
        · refine ⟨xn, Tn, rfl, pn.mono S2, .inl ⟨eT, ?_⟩⟩
          k_extra "r_C5"
          refine s_if1 rfl ?_
          k_extra "r_C5"
          exact kN (fun ⟨_, _, _, _, _, q, bs, _, _, _, _, e, _, p⟩ => nn q e eT _ p.hq) H2 S2
        · obtain ⟨q, ys, rfl, hq, hz, hy⟩ := ln eT
          refine ⟨.ref q, Tn, rfl, pn.mono S2, .inr ⟨eT, q, ys, rfl, S2 _ _ hq, hz, fun y my => (hy y my).mono S2, fun H3 S3 => ?_⟩⟩
          have S13 := S2.trans S3
          cases al : ys.all nmB with
          | false =>
            k_extra "r_C5"
            refine s_if1 rfl ?_
            k_extra "r_C5"
            refine kN (fun ⟨_, _, _, _, _, q', bs, _, _, _, _, e, _, p⟩ => ?_) H3 S13
            injection e with e
            subst e
            have := p.hq
            rw [hq] at this
            injection this with this; injection this with this
            subst this
            have : (bs.map V.str).all nmB = true := by
              rw [List.all_eq_true]
              intro y hy
              obtain ⟨z, mz, rfl⟩ := List.mem_map.mp hy
              exact nmB_t ⟨z, rfl, p.nb z mz⟩
            rw [al] at this
            cases this
          | true =>
            obtain ⟨bs, rfl, nb⟩ := all_names al
            rw [List.length_map] at hz
            k_extra "r_C5"
            refine q_isi (hE.mono S13) .bl ?_
            by_cases eE : Te = "bool"
            rotate_left
            · have e2 : subKd Te "bool" = false := by
                cases hE.2 <;> first | rfl | exact absurd rfl eE
              rw [e2]
              k_extra "r_C5"
              refine s_if1 rfl ?_
              k_extra "r_C5"
              refine kN (fun ⟨_, _, _, _, _, _, _, b, _, _, _, _, e, p⟩ => ?_) H3 S13
              subst e
              exact eE hE.is_bl
            · obtain ⟨e, rfl⟩ := hE.of_bl eE
              subst eE
              k_extra "r_C5"
              refine s_if0 rfl ?_
              k_extra "r_C5"
              refine q_lenL (SqL.of (S13 _ _ hq)) ?_
              k_extra "r_C5"
              have pin : riseB l c (rowOf m bs) = true → (bs = [] → e = true) → PcOk C H (.str f) (.ref a) (mkV m) (.ref q) (.bl e) := fun ri ne => ⟨f, a, l, c, m, q, bs, e, rfl, rfl, rfl, rfl, rfl, ⟨nf, fa, ll, c1, nm, hq, hz, nb, ri, ne⟩⟩
              have pout : PcOk C H (.str f) (.ref a) (mkV m) (.ref q) (.bl e) → riseB l c (rowOf m bs) = true ∧ (bs = [] → e = true) := fun ⟨f', a', l', c', m', q', bs', e', z1, z2, z3, z4, z5, p⟩ => by
                injection z1 with z1; injection z2 with z2; injection z4 with z4; injection z5 with z5
                have z3 := mkV_inj z3
                subst z1 z2 z3 z4 z5
                have hb := p.hq
                rw [hq] at hb
                injection hb with hb; injection hb with hb
                have hb := map_str_inj hb
                subst hb
                obtain ⟨d1, g1⟩ := fa
                obtain ⟨d2, g2⟩ := p.fa
                rw [g1] at g2
                injection g2 with g2
                have g3 := (HO.ins.inj g2).2.2
                have g4 : (frm (.str l) (.int c)).lookup ("_letters" : Str) = (frm (.str l') (.int c')).lookup ("_letters" : Str) := by rw [g3]
                have g5 : (frm (.str l) (.int c)).lookup ("_chains" : Str) = (frm (.str l') (.int c')).lookup ("_chains" : Str) := by rw [g3]
                rw [frm_l, frm_l] at g4
                rw [frm_c, frm_c] at g5
                injection g4 with g4; injection g4 with g4
                injection g5 with g5; injection g5 with g5
                subst g4 g5
                exact ⟨p.ri, p.ne⟩
              have fin : (bs = [] → e = true) → ∀ H4, Same H3 H4 → spRise C [.ref a, mkV m, .ref q] H4 Q E := fun ne H4 S4 =>
                ⟨a, m, q, l, c, bs, rfl, fa.mono (S13.trans S4), ll, c1, nm, S4 _ _ (S13 _ _ hq), hz, nb, fun H5 S5 => by
                  cases ri : riseB l c (rowOf m bs) with
                  | true => exact kY (pin ri ne) H5 (S13.trans (S4.trans S5))
                  | false => exact kN (fun p => by rw [(pout p).1] at ri; cases ri) H5 (S13.trans (S4.trans S5))⟩
              refine s_ifD (fun g0 => ?_) (fun z => ?_)
              · refine q_test (s_if1 rfl ?_)
                k_extra "r_C5"
                exact fin (fun z => by rw [z] at g0; exact absurd g0 (by simp)) H3 (Same.refl _)
              · have eb : bs = [] := by
                  rw [List.length_map] at z
                  cases bs with
                  | nil => rfl
                  | cons _ _ => exact absurd (by simp) z
                k_extra "r_C5"
                cases e with
                | true =>
                  refine s_if1 rfl ?_
                  k_extra "r_C5"
                  exact fin (fun _ => rfl) H3 (Same.refl _)
                | false =>
                  refine s_if0 rfl ?_
                  exact kN (fun p => nomatch (pout p).2 eb) H3 S13
end
end Bt
namespace Bt
open PySem PySem.Spec PyProof.Rows L2 LamX NdefX
open PySem.W (dataLt alike)
theorem words41_ : True := by
  k_with "s_J5" => first
    | ((with_reducible refine' s_var ?hv ?_); (case hv => exact rfl))
    | with_reducible first
      | refine' s_c ?_ | refine' s_op ?_ | refine' s_asg ?_ | refine' s_gname ?_ | refine' s_seq ?_ | refine' s_next ?_ | refine' s_ret ?_ | refine' s_ifS ?_ | refine' s_drop ?_ | refine' s_retN ?_
      | refine' s_test ?_ | refine' s_B ?_ | refine' q_test ?_ | refine' s_int ?_ | refine' s_cons ?_ | refine' s_nil ?_ | refine' s_call ?_ | refine' s_CB ?_ | refine' s_andT ?_ | refine' s_orT ?_ | refine' s_notT ?_
      | refine' s_andV ?_ | refine' s_orV ?_ | refine' s_notV ?_ | refine' s_ifV ?_ | refine' s_chain ?_ | refine' s_sl ?_ | refine' s_noPart ?_ | refine' s_part ?_ | refine' s_gsub ?_ | refine' s_BM ?_ | refine' s_tup ?_ | refine' s_lst ?_
      | refine' q_add ?_ | refine' q_sub ?_ | refine' q_lt ?_ | refine' q_le ?_ | refine' q_gt ?_ | refine' q_ge ?_ | refine' s_ifT ?_ | refine' s_ifF ?_ | refine' s_yes ?_ | refine' s_prop ?_ | refine' s_iList ?_ | refine' s_callOS ?_ | refine' s_iStr ?_ | refine' s_M0 ?_ | refine' s_make ?_ | refine' s_makeS ?_ | refine' s_ownL ?_ | refine' s_ownR ?_ | refine' s_callSD ?_ | refine' s_fld ?_ | refine' s_prop ?_ | refine' s_raise1 ?_ | refine' s_for ?_ | refine' s_rng1 ?_ | refine' s_par ?_ | refine' s_gcons ?_ | refine' s_gnil ?_ | refine' s_iList ?_ | refine' s_iEnum ?_
      | (refine' q_mod ?hm ?_; (case hm => first | omega | decide)) | (refine' q_fdiv ?hm ?hn ?_; (case hm => first | omega | decide); (case hn => first | omega | decide))
      | (refine' q_mulR ?hm ?_; (case hm => first | omega | decide)) | (refine' q_mulL ?hm ?_; (case hm => first | omega | decide))
    | dsimp only
  k_with "r_J5" => repeat (k_extra "s_J5")
  trivial
/-! ### Piece.__init__ -/
theorem s_sFld {K : PySem.W.Frag} {ta tv : TE} {f : Str} {D : Ends} {σ : L2.St} {H : Hp} (h : tv σ H fun y H1 => ta σ H1 fun x H2 => ∃ a C dx fs, x = .ref a ∧ H2 a = some (.ins C dx fs) ∧ Cls K C ∧ NoAttr K C f ∧ fs.length < 1000 ∧ D.nx σ (upd H2 a (.ins C dx (putF f y fs)))) : sFld K ta tv f D σ H := h
def pcf5 (f a m n e : V) : List (Str × V) := putF "_ended" e (putF "_names" n (putF "_mark" m (putF "_form" a (putF "_folder" f []))))
def pcf (f a m n e lo hi : V) : List (Str × V) := putF "_high" hi (putF "_low" lo (pcf5 f a m n e))
def KyO (l : Str) (c : Int) (H : Hp) (x : V) : Option Str → Prop
  | none => x = .non
  | some z => KyAt l c H x z
theorem KyO.keep {l : Str} {c : Int} {H H' : Hp} {x : V} {m : Option Str} (k : ∀ z, KyAt l c H x z → KyAt l c H' x z) (h : KyO l c H x m) : KyO l c H' x m := by
  cases m with
  | none => exact h
  | some z => exact k z h
theorem KyAt.butI {l : Str} {c : Int} {H H' : Hp} {x : V} {z : Str} {d : Addr} {u : HO} (hd : H d = some u) (hu : ∀ xs, u ≠ .tup xs) (B : But d H H') : KyAt l c H x z → KyAt l c H' x z :=
  fun ⟨t, r, e, h1, h2⟩ => ⟨t, r, e, B _ _ (fun z => by rw [z, hd] at h1; exact hu _ (Option.some.inj h1)) h1, B _ _ (fun z => by rw [z, hd] at h2; exact hu _ (Option.some.inj h2)) h2⟩
def hiOf (e : Bool) (bs : List Str) : Option Str := if e then none else bs.getLast?
structure PieceC (K : PySem.W.Frag) (mg : Str → Option Value) (CP : Addr) : Prop where
  cl : Cls K CP
  n1 : NoAttr K CP "_folder"
  n2 : NoAttr K CP "_form"
  n3 : NoAttr K CP "_mark"
  n4 : NoAttr K CP "_names"
  n5 : NoAttr K CP "_ended"
  n6 : NoAttr K CP "_low"
  n7 : NoAttr K CP "_high"
section
variable {P : Program} {w : World} {K : PySem.W.Frag} {mg : Str → Option Value} {base : Heap}
def spPcInit (K : PySem.W.Frag) (C CP CL : Addr) : Sp := fun vs H Q E => ∃ p dx xf xa xm xn xe Te, vs = [.ref p, xf, xa, xm, xn, xe] ∧ H p = some (.ins CP dx []) ∧ NameArg K H xf ∧ FoArg K C H xa ∧ NameArg K H xm ∧ LiArg K H xn ∧ Pl K H xe Te ∧
  (∀ f a l c m q bs e, xf = .str f → xa = .ref a → xm = mkV m → xn = .ref q → xe = .bl e → PcIn C H f a l c m q bs e →
    ∀ H' n lo hi, H' p = some (.ins CP dx (pcf (.str f) (.ref a) (mkV m) (.ref n) (.bl e) lo hi)) → H n = none → H' n = some (.lst (bs.map V.str)) → KyO l c H' lo m → KyO l c H' hi (hiOf e bs) → But p H H' → Q .non H') ∧
  (¬ PcOk C H xf xa xm xn xe → ∀ H' t d, Same H H' → H t = none → H d = none → H' d = some (.xd [("value", .ref t)]) → H' t = some (.tup [xf, xa, xm, xn, xe]) → E (.ref CL) (some d) H')
theorem ok_piece_init {C CP CL f : Addr} {fd : FuncData} (T : Txt K mg) (L : TxtL K mg) (N : TxtN K mg) (TS : TxtS K mg) (FC : FormC K mg C) (TK : TxtK K mg) (R : TxtR K mg) (Y : TxtC K mg) (PC : PieceC K mg CP) (XL : ExcF K mg "InvalidLook" "value" CL)
    (F : Fun K "__init__" "Piece.__init__" s_Piece___init__ f fd) : FnOk P w K mg base (L2.CX P w) 7 f fd ["self", "folder", "form", "mark", "names", "ended"] (spPcInit K C CP CL) := by
  refine F.okX sc_Piece___init__ (fun vs H Q E h => ?_) (fun cdv A outer s H vs Q E hr h => ?_)
  · obtain ⟨p, dx, xf, xa, xm, xn, xe, Te, rfl, _⟩ := h
    rfl
  · obtain ⟨p, dx, xf, xa, xm, xn, xe, Te, rfl, hp, gf, ga, gm, gn, gE, kY, kN⟩ := h
    refine ⟨_, (pss_cons (ps_if (pt_not (pt_val (pe_c (ok__is_piece T L N TS FC TK R Y) hr (by decide) rfl (pa_cons (pv 1) (pa_cons (pv 2) (pa_cons (pv 3) (pa_cons (pv 4) (pa_cons (pv 5) pa_nil)))))))) (pss_one (ps_raise1 rfl XL hr (by decide) (takes_of rfl rfl rfl rfl) (pe_tup (pa_cons (pv 1) (pa_cons (pv 2) (pa_cons (pv 3) (pa_cons (pv 4) (pa_cons (pv 5) pa_nil)))))))) pss_nil)
      (pss_cons (ps_fld (pv 0) (pv 1) rfl)
      (pss_cons (ps_fld (pv 0) (pv 2) rfl)
      (pss_cons (ps_fld (pv 0) (pv 3) rfl)
      (pss_cons (ps_fld (pv 0) (pe_callTy call_listOf (by rfl) TS.n_list (by decide +kernel) (pa_cons (pv 4) pa_nil)) rfl)
      (pss_cons (ps_fld (pv 0) (pv 5) rfl)
      (C8.pss_cut (ps_fld (pv 0) (pe_ifExp (pt_cmpR op_isNon (pv 3) pe_non (by rfl)) pe_non (pe_c (ok_key_in T L FC TK) hr (by decide) rfl (pa_cons (pv 2) (pa_cons (pv 3) pa_nil)))) rfl)
      (pss_one (ps_fld (pv 0) (pe_ifExp (pt_val (pv 5)) pe_non (pe_c (ok_key_in T L FC TK) hr (by decide) rfl (pa_cons (pv 2) (pa_cons (pe_ix ix_seq (pv 4) (pe_un un_neg pe_int) (fun _ _ => rfl)) pa_nil)))) rfl))))))))), ?_⟩
    k_extra "r_J5"
    refine ⟨xf, xa, xm, xn, xe, Te, rfl, gf, ga, gm, gn, gE, fun ok H1 S1 => ?_, fun no H1 S1 => ?_⟩
    rotate_left
    · k_extra "r_J5"
      refine s_if1 rfl ?_
      refine s_raise1 ?_
      k_extra "r_J5"
      refine q_newT (by show 5 ≤ sizeLine; decide) fun t H2 nt S2 ht => ?_
      exact fun d H3 nd S3 hd => kN no H3 t d (S1.trans (S2.trans S3)) (S1.free nt) ((S1.trans S2).free nd) hd (S3 _ _ ht)
    obtain ⟨f, a, l, c, m, q, bs, e, rfl, rfl, rfl, rfl, rfl, h⟩ := ok
    have k := kY f a l c m q bs e rfl rfl rfl rfl rfl h
    k_extra "r_J5"
    refine s_if0 rfl ?_
    k_extra "r_J5"
    have qp : q ≠ p := fun z => by rw [← z, h.hq] at hp; cases hp
    have ap : a ≠ p := fun z => by
      obtain ⟨dx', ea⟩ := h.fa
      rw [z, hp] at ea
      exact nomatch (Option.some.inj ea)
    refine ⟨_, rfl, _, rfl, p, CP, dx, [], rfl, S1 _ _ hp, PC.cl, PC.n1, (by show 0 < 1000; decide), ?_⟩
    refine ⟨_, rfl, _, rfl, p, CP, dx, _, rfl, upd_same, PC.cl, PC.n2, (by show 1 < 1000; decide), ?_⟩
    refine ⟨_, rfl, _, rfl, p, CP, dx, _, rfl, upd_same, PC.cl, PC.n3, (by show 2 < 1000; decide), ?_⟩
    have B2 : But p H (upd (upd (upd H1 p (.ins CP dx (putF "_folder" (.str f) []))) p (.ins CP dx (putF "_form" (.ref a) (putF "_folder" (.str f) [])))) p (.ins CP dx (putF "_mark" (mkV m) (putF "_form" (.ref a) (putF "_folder" (.str f) []))))) :=
      fun b o nb e => by rw [upd_ne nb, upd_ne nb, upd_ne nb]; exact S1 _ _ e
    have h2 : (upd (upd (upd H1 p (.ins CP dx (putF "_folder" (.str f) []))) p (.ins CP dx (putF "_form" (.ref a) (putF "_folder" (.str f) [])))) p (.ins CP dx (putF "_mark" (mkV m) (putF "_form" (.ref a) (putF "_folder" (.str f) []))))) p = some (.ins CP dx (putF "_mark" (mkV m) (putF "_form" (.ref a) (putF "_folder" (.str f) [])))) := upd_same
    generalize (upd (upd (upd H1 p (.ins CP dx (putF "_folder" (.str f) []))) p (.ins CP dx (putF "_form" (.ref a) (putF "_folder" (.str f) [])))) p (.ins CP dx (putF "_mark" (mkV m) (putF "_form" (.ref a) (putF "_folder" (.str f) []))))) = H2 at B2 h2 ⊢
    k_extra "r_J5"
    refine s_sFld ?_
    k_extra "r_J5"
    refine q_listL (SqL.of (B2 _ _ qp h.hq)) fun n H3 n3 S3 h3 => ?_
    have np : n ≠ p := fun z => by rw [z, h2] at n3; cases n3
    refine ⟨_, rfl, p, CP, dx, _, rfl, S3 _ _ h2, PC.cl, PC.n4, (by show 3 < 1000; decide), ?_⟩
    refine ⟨_, rfl, _, rfl, p, CP, dx, _, rfl, upd_same, PC.cl, PC.n5, (by show 4 < 1000; decide), ?_⟩
    have B3 : But p H (upd (upd H3 p (.ins CP dx (putF "_names" (.ref n) (putF "_mark" (mkV m) (putF "_form" (.ref a) (putF "_folder" (.str f) [])))))) p (.ins CP dx (pcf5 (.str f) (.ref a) (mkV m) (.ref n) (.bl e)))) :=
      fun b o nb e => by rw [upd_ne nb, upd_ne nb]; exact S3 _ _ (B2 _ _ nb e)
    have h5 : (upd (upd H3 p (.ins CP dx (putF "_names" (.ref n) (putF "_mark" (mkV m) (putF "_form" (.ref a) (putF "_folder" (.str f) [])))))) p (.ins CP dx (pcf5 (.str f) (.ref a) (mkV m) (.ref n) (.bl e)))) p = some (.ins CP dx (pcf5 (.str f) (.ref a) (mkV m) (.ref n) (.bl e))) := upd_same
    have h6 : (upd (upd H3 p (.ins CP dx (putF "_names" (.ref n) (putF "_mark" (mkV m) (putF "_form" (.ref a) (putF "_folder" (.str f) [])))))) p (.ins CP dx (pcf5 (.str f) (.ref a) (mkV m) (.ref n) (.bl e)))) n = some (.lst (bs.map V.str)) := by
      rw [upd_ne np, upd_ne np]; exact h3
    have nn : H n = none := B2.free np n3
    show C8.tCut _ _ _ _ (upd (upd H3 p (.ins CP dx (putF "_names" (.ref n) (putF "_mark" (mkV m) (putF "_form" (.ref a) (putF "_folder" (.str f) [])))))) p (.ins CP dx (pcf5 (.str f) (.ref a) (mkV m) (.ref n) (.bl e))))
    generalize (upd (upd H3 p (.ins CP dx (putF "_names" (.ref n) (putF "_mark" (mkV m) (putF "_form" (.ref a) (putF "_folder" (.str f) [])))))) p (.ins CP dx (pcf5 (.str f) (.ref a) (mkV m) (.ref n) (.bl e)))) = H5 at B3 h5 h6 ⊢
    have fa : ∀ H6, But p H H6 → FormAt C H6 a l c := fun H6 B => let ⟨dx', ea⟩ := h.fa; ⟨dx', B _ _ ap ea⟩
    refine ⟨fun σ H6 => ∃ lo, σ = [some (.ref p), some (.str f), some (.ref a), some (mkV m), some (.ref q), some (.bl e)] ∧ H6 p = some (.ins CP dx (putF "_low" lo (pcf5 (.str f) (.ref a) (mkV m) (.ref n) (.bl e)))) ∧ H6 n = some (.lst (bs.map V.str)) ∧ KyO l c H6 lo m ∧ But p H H6, ?_, ?_⟩
    · refine s_sFld ?_
      k_extra "r_J5"
      refine q_isNon ?_
      cases m with
      | none =>
        refine q_test (s_ifD (fun _ => ?_) (fun e => absurd rfl e))
        refine ⟨_, rfl, p, CP, dx, _, rfl, h5, PC.cl, PC.n6, (by show 5 < 1000; decide), .non, rfl, upd_same, ?_, rfl, fun b o nb e => ?_⟩
        · rw [upd_ne np]; exact h6
        · rw [upd_ne nb]; exact B3 _ _ nb e
      | some z =>
        refine q_test (s_ifD (fun e => nomatch (e : V.str z = V.non)) (fun _ => ?_))
        k_extra "r_J5"
        refine ⟨a, z, l, c, rfl, fa _ B3, h.ll, h.c1, h.nm z rfl, fun t r H6 nt S6 g1 g2 => ?_⟩
        refine ⟨_, rfl, p, CP, dx, _, rfl, S6 _ _ h5, PC.cl, PC.n6, (by show 5 < 1000; decide), .ref t, rfl, upd_same, ?_, ?_, fun b o nb e => ?_⟩
        · rw [upd_ne np]; exact S6 _ _ h6
        · exact KyAt.butI (S6 _ _ h5) (fun _ e => nomatch e) But.upd ⟨t, r, rfl, g2, g1⟩
        · rw [upd_ne nb]; exact S6 _ _ (B3 _ _ nb e)
    · rintro σ H6 ⟨lo, rfl, g6, h6, lo6, B6⟩
      refine s_sFld ?_
      k_extra "r_J5"
      cases e with
      | true =>
        k_extra "r_J5"
        refine ⟨p, CP, dx, _, rfl, g6, PC.cl, PC.n7, (by show 6 < 1000; decide), ?_⟩
        refine k _ n lo .non upd_same nn (by rw [upd_ne np]; exact h6) (lo6.keep fun z => KyAt.butI g6 (fun _ e => nomatch e) But.upd) rfl fun b o nb e => ?_
        rw [upd_ne nb]; exact B6 _ _ nb e
      | false =>
        k_extra "r_J5"
        refine ⟨_, rfl, ?_⟩
        have hne : bs ≠ [] := fun e => nomatch h.ne e
        obtain ⟨b0, y, rfl⟩ : ∃ b0 y, bs = b0 ++ [y] := ⟨bs.dropLast, bs.getLast hne, (List.dropLast_concat_getLast hne).symm⟩
        have hq6 := B6 _ _ qp h.hq
        have ny := h.nb y (by simp)
        rw [List.map_append] at hq6
        refine q_ixL (SqL.of hq6) (atI_last _ _) ?_
        k_extra "r_J5"
        refine ⟨a, y, l, c, rfl, fa _ B6, h.ll, h.c1, ny, fun t r H7 nt S7 g1 g2 => ?_⟩
        refine ⟨_, rfl, p, CP, dx, _, rfl, S7 _ _ g6, PC.cl, PC.n7, (by show 6 < 1000; decide), ?_⟩
        refine k _ n lo (.ref t) upd_same nn (by rw [upd_ne np]; exact S7 _ _ h6) (lo6.keep fun z e => KyAt.butI (S7 _ _ g6) (fun _ e => nomatch e) But.upd (e.mono S7)) ?_ fun b o nb e => ?_
        · have : hiOf false (b0 ++ [y]) = some y := by simp [hiOf]
          rw [this]
          exact KyAt.butI (S7 _ _ g6) (fun _ e => nomatch e) But.upd ⟨t, r, rfl, g2, g1⟩
        · rw [upd_ne nb]; exact S7 _ _ (B6 _ _ nb e)
end
end Bt
namespace Bt
open PySem PySem.Spec PyProof.Rows L2 LamX NdefX
open PySem.W (dataLt alike)
theorem words42_ : True := by
  k_with "s_Q5" => first
    | ((with_reducible refine' s_var ?hv ?_); (case hv => exact rfl))
    | with_reducible first
      | refine' s_c ?_ | refine' s_op ?_ | refine' s_asg ?_ | refine' s_gname ?_ | refine' s_seq ?_ | refine' s_next ?_ | refine' s_ret ?_ | refine' s_ifS ?_ | refine' s_drop ?_ | refine' s_retN ?_
      | refine' s_test ?_ | refine' s_B ?_ | refine' q_test ?_ | refine' s_int ?_ | refine' s_cons ?_ | refine' s_nil ?_ | refine' s_call ?_ | refine' s_CB ?_ | refine' s_andT ?_ | refine' s_orT ?_ | refine' s_notT ?_
      | refine' s_andV ?_ | refine' s_orV ?_ | refine' s_notV ?_ | refine' s_ifV ?_ | refine' s_chain ?_ | refine' s_sl ?_ | refine' s_noPart ?_ | refine' s_part ?_ | refine' s_gsub ?_ | refine' s_BM ?_ | refine' s_tup ?_ | refine' s_lst ?_
      | refine' q_add ?_ | refine' q_sub ?_ | refine' q_lt ?_ | refine' q_le ?_ | refine' q_gt ?_ | refine' q_ge ?_ | refine' s_ifT ?_ | refine' s_ifF ?_ | refine' s_yes ?_ | refine' s_prop ?_ | refine' s_iList ?_ | refine' s_callOS ?_ | refine' s_iStr ?_ | refine' s_M0 ?_ | refine' s_make ?_ | refine' s_makeS ?_ | refine' s_ownL ?_ | refine' s_ownR ?_ | refine' s_callSD ?_ | refine' s_fld ?_ | refine' s_prop ?_ | refine' s_raise1 ?_ | refine' s_for ?_ | refine' s_rng1 ?_ | refine' s_par ?_ | refine' s_gcons ?_ | refine' s_gnil ?_ | refine' s_iList ?_ | refine' s_iEnum ?_
      | (refine' q_mod ?hm ?_; (case hm => first | omega | decide)) | (refine' q_fdiv ?hm ?hn ?_; (case hm => first | omega | decide); (case hn => first | omega | decide))
      | (refine' q_mulR ?hm ?_; (case hm => first | omega | decide)) | (refine' q_mulL ?hm ?_; (case hm => first | omega | decide))
    | dsimp only
  k_with "r_Q5" => repeat (k_extra "s_Q5")
  trivial
/-! ### a place in a piece -/
section
variable {f a m n e lo hi : V}
theorem pcf_folder : (pcf f a m n e lo hi).lookup ("_folder" : Str) = some f := by
  unfold pcf pcf5
  rw [lookup_putF, if_neg (by decide +kernel), lookup_putF, if_neg (by decide +kernel), lookup_putF, if_neg (by decide +kernel), lookup_putF, if_neg (by decide +kernel), lookup_putF, if_neg (by decide +kernel), lookup_putF, if_neg (by decide +kernel), lookup_putF, if_pos rfl]
theorem pcf_form : (pcf f a m n e lo hi).lookup ("_form" : Str) = some a := by
  unfold pcf pcf5
  rw [lookup_putF, if_neg (by decide +kernel), lookup_putF, if_neg (by decide +kernel), lookup_putF, if_neg (by decide +kernel), lookup_putF, if_neg (by decide +kernel), lookup_putF, if_neg (by decide +kernel), lookup_putF, if_pos rfl]
theorem pcf_names : (pcf f a m n e lo hi).lookup ("_names" : Str) = some n := by
  unfold pcf pcf5
  rw [lookup_putF, if_neg (by decide +kernel), lookup_putF, if_neg (by decide +kernel), lookup_putF, if_neg (by decide +kernel), lookup_putF, if_pos rfl]
theorem pcf_low : (pcf f a m n e lo hi).lookup ("_low" : Str) = some lo := by
  unfold pcf pcf5
  rw [lookup_putF, if_neg (by decide +kernel), lookup_putF, if_pos rfl]
theorem pcf_high : (pcf f a m n e lo hi).lookup ("_high" : Str) = some hi := by
  unfold pcf pcf5
  rw [lookup_putF, if_pos rfl]
end
/-- a piece that stands -/
def PcAt (C CP : Addr) (H : Hp) (p : Addr) (f l : Str) (c : Int) (m : Option Str) (bs : List Str) (e : Bool) : Prop :=
  ∃ dx a n lo hi, H p = some (.ins CP dx (pcf (.str f) (.ref a) (mkV m) (.ref n) (.bl e) lo hi)) ∧ FormAt C H a l c ∧ H n = some (.lst (bs.map V.str)) ∧ KyO l c H lo m ∧ KyO l c H hi (hiOf e bs)
theorem PcAt.mono {C CP : Addr} {H H' : Hp} {p : Addr} {f l : Str} {c : Int} {m : Option Str} {bs : List Str} {e : Bool} (S : Same H H') : PcAt C CP H p f l c m bs e → PcAt C CP H' p f l c m bs e :=
  fun ⟨dx, a, n, lo, hi, h1, h2, h3, h4, h5⟩ => ⟨dx, a, n, lo, hi, S _ _ h1, h2.mono S, S _ _ h3, h4.keep fun _ => KyAt.mono S, h5.keep fun _ => KyAt.mono S⟩
def afterB (l : Str) (c : Int) (z : Str) : Option Str → Bool
  | none => true
  | some y => dataLt (kT l c y) (kT l c z)
def untilB (l : Str) (c : Int) (z : Str) : Option Str → Bool
  | none => true
  | some y => !dataLt (kT l c y) (kT l c z)
theorem KyO.none_iff {l : Str} {c : Int} {H : Hp} {x : V} {m : Option Str} (h : KyO l c H x m) : decide (x = V.non) = m.isNone := by
  cases m with
  | none =>
    have : x = V.non := h
    rw [this]
    exact decide_eq_true rfl
  | some z =>
    obtain ⟨t, r, e, _⟩ : KyAt l c H x z := h
    rw [e]
    exact decide_eq_false fun e => nomatch e
section
variable {P : Program} {w : World} {K : PySem.W.Frag} {mg : Str → Option Value} {base : Heap}
def spIn (K : PySem.W.Frag) (C CP : Addr) : Sp := fun vs H Q _ => ∃ p x T f l c m bs e, vs = [.ref p, x] ∧ PcAt C CP H p f l c m bs e ∧ PcS f l c m bs e ∧ Pl K H x T ∧
  (T = "tuple" → ∃ a xs, x = .ref a ∧ H a = some (.tup xs) ∧ (∀ y ∈ xs, NameArg K H y)) ∧ (PlaceV H x → T = "tuple") ∧
  (¬ PlaceV H x → ∀ H', Same H H' → Q (.bl false) H') ∧
  (∀ u v, PlAt H x (u, v) → Nm u → Nm v → ∀ H', Same H H' → Q (.bl (decide (u = f) && (afterB l c v m && untilB l c v (hiOf e bs)))) H')
theorem ok_piece_in {C CP fn : Addr} {fd : FuncData} (T : Txt K mg) (L : TxtL K mg) (N : TxtN K mg) (I : TxtI K mg) (FC : FormC K mg C) (TK : TxtK K mg) (PC : PieceC K mg CP)
    (F : Fun K "__contains__" "Piece.__contains__" s_Piece___contains__ fn fd) : FnOk P w K mg base CX0 5 fn fd ["self", "place"] (spIn K C CP) := by
  refine F.ok sc_Piece___contains__ (fun vs H Q E h => ?_) (fun cdv A outer s H vs Q E hr h => ?_)
  · obtain ⟨p, x, T, f, l, c, m, bs, e, rfl, _⟩ := h
    rfl
  · obtain ⟨p, x, ty, f, l, c, m, bs, e, rfl, pa, ps, hx, ht, hty, kN, kY⟩ := h
    have hu := hr.units
    refine ⟨_, (pss_cons (ps_if (pt_not (PW.pt (pw_and (pt_val (pe_c (ok_is_place T N I) hr (by decide) rfl (pa_cons (pv 1) pa_nil))) (pw_and1 (pt_cmpR (op_eqU hu) (pe_ix ix_seq (pv 1) pe_int (fun _ _ => rfl)) (pe_fld (pv 0) rfl) (by rfl)))))) (pss_one (ps_ret pe_bl)) pss_nil)
      (pss_cons (ps_set (i := 2) sc_Piece___contains__.nd rfl (.inl rfl) (pe_c (ok_key_in T L FC TK) hr (by decide) rfl (pa_cons (pe_fld (pv 0) rfl) (pa_cons (pe_ix ix_seq (pv 1) pe_int (fun _ _ => rfl)) pa_nil))))
      (C8.pss_cut (ps_set (i := 3) sc_Piece___contains__.nd rfl (.inl rfl) (pe_or (pe_cmpR op_isNon (pe_fld (pv 0) rfl) pe_non (by rfl)) (pe_one (pe_cmpR (op_ltD hu) (pe_fld (pv 0) rfl) (pv 2) (by rfl)))))
      (pss_one (ps_ret (pe_and (pv 3) (pe_one (pe_or (pe_cmpR op_isNon (pe_fld (pv 0) rfl) pe_non (by rfl)) (pe_one (pe_cmpR (op_leD hu) (pv 2) (pe_fld (pv 0) rfl) (by rfl))))))))))), ?_⟩
    k_extra "r_Q5"
    refine ⟨x, ty, rfl, hx, fun ne => ?_, fun et => ?_⟩
    · k_extra "r_Q5"
      exact kN (fun v => ne (hty v)) H (Same.refl H)
    · obtain ⟨ax, xs, rfl, hax, hna⟩ := ht et
      refine ⟨ax, xs, rfl, hax, hna, fun np H1 S1 => ?_, fun pv' H1 S1 => ?_⟩
      · k_extra "r_Q5"
        exact kN np H1 S1
      · obtain ⟨ay, u', v', e1, e2, ⟨u, rfl, nu⟩, ⟨v, rfl, nv⟩⟩ := pv'
        injection e1 with e1
        subst e1
        have pa1 := pa.mono S1
        obtain ⟨dx, a, n, lo, hi, g1, g2, g3, g4, g5⟩ := pa1
        have kY' := fun H2 (S2 : Same H1 H2) => kY u v ⟨ax, rfl, e2⟩ nu nv H2 (S1.trans S2)
        k_extra "r_Q5"
        refine q_ixT (SqT.of (S1 _ _ e2)) (at_of (j := 0) rfl rfl) ?_
        k_extra "r_Q5"
        refine ⟨p, CP, dx, _, _, rfl, g1, PC.cl, PC.n1, pcf_folder, q_eq rfl ?_⟩
        by_cases eu : u = f
        · subst eu
          refine ⟨_, rfl, s_if0 (by simp) ?_⟩
          k_extra "r_Q5"
          refine ⟨p, CP, dx, _, _, rfl, g1, PC.cl, PC.n2, pcf_form, ?_⟩
          k_extra "r_Q5"
          refine q_ixT (SqT.of (S1 _ _ e2)) (at_of (j := 1) rfl rfl) ?_
          k_extra "r_Q5"
          refine ⟨a, v, l, c, rfl, g2, ps.ll, ps.c1, nv, fun t r H2 nt S2 q1 q2 => ?_⟩
          have ky : KyAt l c H2 (.ref t) v := ⟨t, r, rfl, q2, q1⟩
          k_extra "r_Q5"
          refine ⟨fun σ H3 => σ = [some (.ref p), some (.ref ax), some (.ref t), some (.bl (afterB l c v m))] ∧ H3 = H2, ?_, ?_⟩
          · k_extra "r_Q5"
            refine ⟨p, CP, dx, _, _, rfl, S2 _ _ g1, PC.cl, PC.n6, pcf_low, ?_⟩
            k_extra "r_Q5"
            refine q_isNon ?_
            rw [g4.none_iff]
            cases m with
            | none =>
              refine ⟨_, rfl, s_if1 rfl ?_⟩
              k_extra "r_Q5"
              exact ⟨rfl, rfl⟩
            | some y =>
              refine ⟨_, rfl, s_if0 rfl ?_⟩
              k_extra "r_Q5"
              refine ⟨p, CP, dx, _, _, rfl, S2 _ _ g1, PC.cl, PC.n6, pcf_low, ?_⟩
              k_extra "r_Q5"
              refine q_ltD (KyAt.dp (KyAt.mono S2 g4)) ky.dp (kT_alike l c y v) (fun e => nomatch e) (Nat.le_trans (kTup_depth _) (by decide)) ?_
              k_extra "r_Q5"
              exact ⟨rfl, rfl⟩
          · rintro σ H3 ⟨rfl, rfl⟩
            k_extra "r_Q5"
            have kZ := kY' H3 S2
            rw [decide_eq_true (rfl : u = u), Bool.true_and] at kZ
            cases eb : afterB l c v m with
            | false =>
              rw [eb] at kZ
              k_extra "r_Q5"
              exact kZ
            | true =>
              rw [eb, Bool.true_and] at kZ
              k_extra "r_Q5"
              refine ⟨p, CP, dx, _, _, rfl, S2 _ _ g1, PC.cl, PC.n7, pcf_high, ?_⟩
              k_extra "r_Q5"
              refine q_isNon ?_
              rw [g5.none_iff]
              cases eh : hiOf e bs with
              | none =>
                rw [eh] at kZ
                refine ⟨_, rfl, s_if1 rfl ?_⟩
                exact kZ
              | some y =>
                rw [eh] at kZ g5
                refine ⟨_, rfl, s_if0 rfl ?_⟩
                k_extra "r_Q5"
                refine ⟨p, CP, dx, _, _, rfl, S2 _ _ g1, PC.cl, PC.n7, pcf_high, ?_⟩
                refine q_leD ky.dp (KyAt.dp (KyAt.mono S2 g5)) (kT_alike l c v y) (fun e => nomatch e) (Nat.le_trans (kTup_depth _) (by decide)) ?_
                exact kZ
        · refine ⟨_, rfl, s_if1 (by simp [eu]) ?_⟩
          k_extra "r_Q5"
          have := kY' H1 (Same.refl _)
          rw [decide_eq_false eu] at this
          exact this
end
end Bt
namespace PySem.W
open Lean Elab Tactic Meta PySem PySem.Calls PyProof.Rows
/-! ### an own operator, the other operand of a built-in kind -/
section
variable {prog : Program} {w : World} {A : Around} {E : Value → Shared → Prop} {s : Shared} {K : Frag} {x C f g : Addr} {ox : Obj} {od : Option Obj} {T : String} {op : Operator} {r : Bool}
theorem own_left {b : Value} {ro rc : Option Value} {Q : Value → Shared → Prop} (KX : K.In s.heap) (I : InstAt s.heap x ox C od) (hb : Looks (model prog w) s.heap (typeOf b) (.type T)) (hc : selfFirst K C = true)
    (hs : findIn K (.ref C) (PySem.dunder op.info.2) = some (some (.ref f))) (hf : isFn K (.ref f) = true) (hr : findIn K (.ref C) (dunderR op.info.2) = some rc) (hp : rc = none ∨ ∃ g : Addr, rc = some (.ref g))
    (fills : fillsNumberSlot (.type T) op.info.2 = pure r) (look : typeLookup (.type T) (dunderR op.info.2) = pure ro) (hsub : subIn K (.type T) (.ref C) = some false)
    (h : wpAny (model prog w) A (call (.ref f) [.ref x, b]) (CmpBack Q) E s) : wpAny (model prog w) A (binaryOp op (.ref x) b) Q E s := by
  obtain ⟨cd, rest, hcd, hm⟩ := ksp_first hc
  rcases hi : op.info with ⟨sym, nm'⟩
  rw [hi] at hs hr fills look
  dsimp only at hs hr fills look
  have one := ksp_try KX I hs hf h
  obtain ⟨hh, g, d, tt, os⟩ := s
  have L1 : Looks (model prog w) hh (typeOf (.ref x)) (.ref C) := I.type
  have L2 : Looks (model prog w) hh (typeOf b) (.type T) := hb
  have L3 : Looks (model prog w) hh (fillsNumberSlot (.ref C) nm') true := fills_K KX hcd hm hs
  have L4 : Looks (model prog w) hh (fillsNumberSlot (.type T) nm') r := Looks.of_pure fills
  have L5 : Looks (model prog w) hh (isSubtype (.type T) (.ref C)) false := looks_subIn KX hsub
  have L6 : Looks (model prog w) hh (numberSlotInPython (.ref C) nm') true := ksp_inPy KX hs hr hp
  have L7 : Looks (model prog w) hh (numberSlotInPython (.type T) nm') false := Looks.of_pure rfl
  have L8 : Looks (model prog w) hh (typeLookup (.type T) (dunderR nm')) ro := Looks.of_pure look
  have ne : (Value.ref C == Value.type T) = false := Bool.eq_false_iff.mpr fun q => by cases beq_iff_eq.mp q
  simp only [binaryOp, hi]
  refine wpAny_holding (wpAny_bind ?_)
  unfold binaryOp1
  refine wpAny_bind (L1.at (wpAny_bind (L2.at (wpAny_bind (L3.at ?_)))))
  simp only [ne, Bool.false_eq_true, if_false]
  cases r <;>
  · ksp_lk
    refine wpAny_mono one (fun r s' hr' => ?_) fun _ _ e => e
    obtain ⟨v, rfl, hq⟩ := hr'
    ksp_lk
    exact hq
theorem own_right {a : Value} {Q : Value → Shared → Prop} (KX : K.In s.heap) (I : InstAt s.heap x ox C od) (ha : Looks (model prog w) s.heap (typeOf a) (.type T)) (hc : selfFirst K C = true)
    (hs : findIn K (.ref C) (PySem.dunder op.info.2) = some (some (.ref g))) (hr : findIn K (.ref C) (dunderR op.info.2) = some (some (.ref f))) (hf : isFn K (.ref f) = true)
    (fills : fillsNumberSlot (.type T) op.info.2 = pure false)
    (h : wpAny (model prog w) A (call (.ref f) [.ref x, a]) (CmpBack Q) E s) : wpAny (model prog w) A (binaryOp op a (.ref x)) Q E s := by
  obtain ⟨cd, rest, hcd, hm⟩ := ksp_first hc
  rcases hi : op.info with ⟨sym, nm'⟩
  rw [hi] at hs hr fills
  dsimp only at hs hr fills
  have one := ksp_try KX I hr hf h
  obtain ⟨hh, gg, d, tt, os⟩ := s
  have L1 : Looks (model prog w) hh (typeOf (.ref x)) (.ref C) := I.type
  have L2 : Looks (model prog w) hh (typeOf a) (.type T) := ha
  have L3 : Looks (model prog w) hh (fillsNumberSlot (.ref C) nm') true := fills_K KX hcd hm hs
  have L4 : Looks (model prog w) hh (fillsNumberSlot (.type T) nm') false := Looks.of_pure fills
  have ne : (Value.type T == Value.ref C) = false := Bool.eq_false_iff.mpr fun q => by cases beq_iff_eq.mp q
  simp only [binaryOp, hi]
  refine wpAny_holding (wpAny_bind ?_)
  unfold binaryOp1
  refine wpAny_bind (L2.at (wpAny_bind (L1.at (wpAny_bind (L4.at ?_)))))
  simp only [ne, Bool.false_eq_true, if_false]
  ksp_lk
  refine wpAny_mono one (fun r s' hr' => ?_) fun _ _ e => e
  obtain ⟨v, rfl, hq⟩ := hr'
  ksp_lk
  exact hq
/-- the left operand's slot declines first -/
theorem own_right2 {a : Value} {Q : Value → Shared → Prop} (KX : K.In s.heap) (I : InstAt s.heap x ox C od) (ha : Looks (model prog w) s.heap (typeOf a) (.type T)) (hc : selfFirst K C = true)
    (hs : findIn K (.ref C) (PySem.dunder op.info.2) = some (some (.ref g))) (hr : findIn K (.ref C) (dunderR op.info.2) = some (some (.ref f))) (hf : isFn K (.ref f) = true)
    (fills : fillsNumberSlot (.type T) op.info.2 = pure true) (hsub : subIn K (.ref C) (.type T) = some false)
    (dec : ∀ Q' : Option Value → Shared → Prop, Q' none s → wpAny (model prog w) A (tryMethod a (PySem.dunder op.info.2) (.ref x)) Q' E s)
    (h : wpAny (model prog w) A (call (.ref f) [.ref x, a]) (CmpBack Q) E s) : wpAny (model prog w) A (binaryOp op a (.ref x)) Q E s := by
  obtain ⟨cd, rest, hcd, hm⟩ := ksp_first hc
  rcases hi : op.info with ⟨sym, nm'⟩
  rw [hi] at hs hr fills dec
  dsimp only at hs hr fills dec
  have one := ksp_try KX I hr hf h
  obtain ⟨hh, gg, d, tt, os⟩ := s
  have L1 : Looks (model prog w) hh (typeOf (.ref x)) (.ref C) := I.type
  have L2 : Looks (model prog w) hh (typeOf a) (.type T) := ha
  have L3 : Looks (model prog w) hh (fillsNumberSlot (.ref C) nm') true := fills_K KX hcd hm hs
  have L4 : Looks (model prog w) hh (fillsNumberSlot (.type T) nm') true := Looks.of_pure fills
  have L5 : Looks (model prog w) hh (isSubtype (.ref C) (.type T)) false := looks_subIn KX hsub
  have L7 : Looks (model prog w) hh (numberSlotInPython (.type T) nm') false := Looks.of_pure rfl
  have ne : (Value.type T == Value.ref C) = false := Bool.eq_false_iff.mpr fun q => by cases beq_iff_eq.mp q
  simp only [binaryOp, hi]
  refine wpAny_holding (wpAny_bind ?_)
  unfold binaryOp1
  refine wpAny_bind (L2.at (wpAny_bind (L1.at (wpAny_bind (L4.at ?_)))))
  simp only [ne, Bool.false_eq_true, if_false]
  ksp_lk
  refine dec _ ?_
  ksp_lk
  refine wpAny_mono one (fun r s' hr' => ?_) fun _ _ e => e
  obtain ⟨v, rfl, hq⟩ := hr'
  ksp_lk
  exact hq
end
end PySem.W
namespace Bt
open PySem PySem.Spec PyProof.Rows L2
/-! ### what the end wants of the classes -/
theorem ve_own {CB : Addr} : PySem.HandSPX.refsVE [.ref CB, .type "ValueError", .type "Exception", .type "BaseException", .type "object"] = true := show PySem.HandSPX.refsVE [.type "ValueError", .type "Exception", .type "BaseException", .type "object"] = true by decide +kernel
theorem exm_self {K : PySem.W.Frag} {S : Addr} (h1 : PySem.W.subIn K (.ref S) (.type "BaseException") = some true) (h2 : PySem.W.isClsIn K S = true) (h3 : PySem.W.typeIn K (.ref S) = some (.type "type")) (h4 : PySem.W.subIn K (.ref S) (.ref S) = some true) :
    PySem.W.exmOne K (.ref S) (.ref S) = some true := by
  have e1 : (PySem.W.subIn K (.ref S) (.type "BaseException") == some true) = true := by rw [h1] <;> rfl
  have e2 : ((PySem.W.clsIn K S).isSome && PySem.W.typeIn K (.ref S) == some (.type "type")) = true := by
    have h2' : (PySem.W.clsIn K S).isSome = true := h2
    rw [h2', h3] <;> rfl
  show (if (PySem.W.subIn K (.ref S) (.type "BaseException") == some true) = true then (if ((PySem.W.clsIn K S).isSome && PySem.W.typeIn K (.ref S) == some (.type "type")) = true then PySem.W.subIn K (.ref S) (.ref S) else none) else none) = some true
  rw [if_pos e1, if_pos e2]
  exact h4
theorem exc_binds {K : PySem.W.Frag} {qual fld : Str} {params : Arguments} {body : List Stmt} {scope : Scope} {f : Addr} {fd : FuncData} (F : FunD K "__init__" qual params body scope [.non] [] f fd)
    (h : ∀ (T : Addr) (kV doc pm : Value) (an : Option Addr) (cdv ct : Value) (us its : List Value), us.length = 2 → its.length = 1 →
      ∃ k, bindArgs (PySem.W.fnOf "__init__" qual params body scope (.ref T) kV doc pm an cdv ct) ⟨us, []⟩ = seqItems? (.ref T) >>= k ∧ k (some its.toArray) = pure ((["self", fld] : List Str).zip (us ++ its.drop 1))) : Binds K fd ["self", fld] [] := by
  obtain ⟨ds, hv, hb⟩ := F.binds1 (ps := ["self", fld]) 2 1 (by simp) rfl h
  cases hv
  exact hb
theorem kit_own {K : PySem.W.Frag} {C : Addr} : PySem.W.kitOne K (.ref C) (.ref C) = some true := by
  unfold PySem.W.kitOne
  rw [if_pos (by simp)]
theorem sub_no {K : PySem.W.Frag} {C : Addr} {T : String} (h : Kd T) : PySem.W.subIn K (.type T) (.ref C) = some false := by
  cases h <;> rfl
theorem kit_no {K : PySem.W.Frag} {C : Addr} {T : String} (h2 : PySem.W.isClsIn K C = true) (h3 : PySem.W.typeIn K (.ref C) = some (.type "type")) (h : Kd T) : PySem.W.kitOne K (.type T) (.ref C) = some false := by
  have e2 : ((PySem.W.clsIn K C).isSome && PySem.W.typeIn K (.ref C) == some (.type "type")) = true := by
    have h2' : (PySem.W.clsIn K C).isSome = true := h2
    rw [h2', h3] <;> rfl
  show (if ((Value.type T) == (Value.ref C)) = true then some true else (if ((PySem.W.clsIn K C).isSome && PySem.W.typeIn K (.ref C) == some (.type "type")) = true then PySem.W.subIn K (.type T) (.ref C) else none)) = some false
  rw [if_neg (by cases h <;> exact fun z => nomatch z), if_pos e2]
  exact sub_no h
theorem nf_kd {K : PySem.W.Frag} {C : Addr} {T : String} (h : Kd T) : PySem.W.notFirst K C (.type T) = true := by
  unfold PySem.W.notFirst
  rw [sub_no h]
  exact Bool.or_true _
theorem nf_own {K : PySem.W.Frag} {C : Addr} : PySem.W.notFirst K C (.ref C) = true := by
  unfold PySem.W.notFirst
  simp
end Bt
namespace Bt
open PySem PySem.Spec PyProof.Rows L2
theorem fills_of {T nm : String} {fo ro : Option Value} (h1 : typeLookup (.type T) (PySem.dunder nm) = pure fo) (h2 : typeLookup (.type T) (dunderR nm) = pure ro) :
    fillsNumberSlot (.type T) nm = pure ((fo.isSome && !isSeqSlot fo) || (ro.isSome && !isSeqSlot ro)) := by
  unfold fillsNumberSlot
  simp [h1, h2]
/-- what a built-in kind says of an operator -/
def OpK (nm T : String) (r : Bool) : Prop := fillsNumberSlot (.type T) nm = pure r ∧ ∃ ro, typeLookup (.type T) (dunderR nm) = pure ro
theorem opK_of {T nm : String} {fo ro : Option Value} {r : Bool} (h1 : typeLookup (.type T) (PySem.dunder nm) = pure fo) (h2 : typeLookup (.type T) (dunderR nm) = pure ro) (e : ((fo.isSome && !isSeqSlot fo) || (ro.isSome && !isSeqSlot ro)) = r) : OpK nm T r :=
  ⟨by rw [← e]; exact fills_of h1 h2, ro, h2⟩
theorem mul_none : OpK "mul" "NoneType" false := opK_of (fo := none) (ro := none) (by rw [typeLookup_type, builtinLookup_eq_fast]; kernel_rfl) (by rw [typeLookup_type, builtinLookup_eq_fast]; kernel_rfl) (by decide +kernel)
theorem mul_bool : OpK "mul" "bool" true := opK_of (fo := (some (.builtin "int.__mul__"))) (ro := (some (.builtin "int.__rmul__"))) (by rw [typeLookup_type, builtinLookup_eq_fast]; kernel_rfl) (by rw [typeLookup_type, builtinLookup_eq_fast]; kernel_rfl) (by decide +kernel)
theorem mul_int : OpK "mul" "int" true := opK_of (fo := (some (.builtin "int.__mul__"))) (ro := (some (.builtin "int.__rmul__"))) (by rw [typeLookup_type, builtinLookup_eq_fast]; kernel_rfl) (by rw [typeLookup_type, builtinLookup_eq_fast]; kernel_rfl) (by decide +kernel)
theorem mul_str : OpK "mul" "str" false := opK_of (fo := (some (.builtin "str.__mul__"))) (ro := (some (.builtin "str.__rmul__"))) (by rw [typeLookup_type, builtinLookup_eq_fast]; kernel_rfl) (by rw [typeLookup_type, builtinLookup_eq_fast]; kernel_rfl) (by decide +kernel)
theorem mul_list : OpK "mul" "list" false := opK_of (fo := (some (.builtin "list.__mul__"))) (ro := (some (.builtin "list.__rmul__"))) (by rw [typeLookup_type, builtinLookup_eq_fast]; kernel_rfl) (by rw [typeLookup_type, builtinLookup_eq_fast]; kernel_rfl) (by decide +kernel)
theorem mul_tuple : OpK "mul" "tuple" false := opK_of (fo := (some (.builtin "tuple.__mul__"))) (ro := (some (.builtin "tuple.__rmul__"))) (by rw [typeLookup_type, builtinLookup_eq_fast]; kernel_rfl) (by rw [typeLookup_type, builtinLookup_eq_fast]; kernel_rfl) (by decide +kernel)
theorem mul_dict : OpK "mul" "dict" false := opK_of (fo := none) (ro := none) (by rw [typeLookup_type, builtinLookup_eq_fast]; kernel_rfl) (by rw [typeLookup_type, builtinLookup_eq_fast]; kernel_rfl) (by decide +kernel)
theorem fdv_none : OpK "floordiv" "NoneType" false := opK_of (fo := none) (ro := none) (by rw [typeLookup_type, builtinLookup_eq_fast]; kernel_rfl) (by rw [typeLookup_type, builtinLookup_eq_fast]; kernel_rfl) (by decide +kernel)
theorem fdv_bool : OpK "floordiv" "bool" true := opK_of (fo := (some (.builtin "int.__floordiv__"))) (ro := (some (.builtin "int.__rfloordiv__"))) (by rw [typeLookup_type, builtinLookup_eq_fast]; kernel_rfl) (by rw [typeLookup_type, builtinLookup_eq_fast]; kernel_rfl) (by decide +kernel)
theorem fdv_int : OpK "floordiv" "int" true := opK_of (fo := (some (.builtin "int.__floordiv__"))) (ro := (some (.builtin "int.__rfloordiv__"))) (by rw [typeLookup_type, builtinLookup_eq_fast]; kernel_rfl) (by rw [typeLookup_type, builtinLookup_eq_fast]; kernel_rfl) (by decide +kernel)
theorem fdv_str : OpK "floordiv" "str" false := opK_of (fo := none) (ro := none) (by rw [typeLookup_type, builtinLookup_eq_fast]; kernel_rfl) (by rw [typeLookup_type, builtinLookup_eq_fast]; kernel_rfl) (by decide +kernel)
theorem fdv_list : OpK "floordiv" "list" false := opK_of (fo := none) (ro := none) (by rw [typeLookup_type, builtinLookup_eq_fast]; kernel_rfl) (by rw [typeLookup_type, builtinLookup_eq_fast]; kernel_rfl) (by decide +kernel)
theorem fdv_tuple : OpK "floordiv" "tuple" false := opK_of (fo := none) (ro := none) (by rw [typeLookup_type, builtinLookup_eq_fast]; kernel_rfl) (by rw [typeLookup_type, builtinLookup_eq_fast]; kernel_rfl) (by decide +kernel)
theorem fdv_dict : OpK "floordiv" "dict" false := opK_of (fo := none) (ro := none) (by rw [typeLookup_type, builtinLookup_eq_fast]; kernel_rfl) (by rw [typeLookup_type, builtinLookup_eq_fast]; kernel_rfl) (by decide +kernel)
theorem opK_mul {T : String} (h : Kd T) : ∃ r, OpK "mul" T r := by
  cases h
  · exact ⟨_, mul_none⟩
  · exact ⟨_, mul_bool⟩
  · exact ⟨_, mul_int⟩
  · exact ⟨_, mul_str⟩
  · exact ⟨_, mul_list⟩
  · exact ⟨_, mul_tuple⟩
  · exact ⟨_, mul_dict⟩
theorem opK_fdv {T : String} (h : Kd T) : ∃ r, OpK "floordiv" T r := by
  cases h
  · exact ⟨_, fdv_none⟩
  · exact ⟨_, fdv_bool⟩
  · exact ⟨_, fdv_int⟩
  · exact ⟨_, fdv_str⟩
  · exact ⟨_, fdv_list⟩
  · exact ⟨_, fdv_tuple⟩
  · exact ⟨_, fdv_dict⟩
theorem int_mul_inst (a : Int) (t : Tok) (x : Addr) : Meets (Builtin.«int.__mul__» ⟨[.int a t, .ref x], []⟩) (fun _ R s => (∃ C dx, s.heap.get? x = some (PySem.W.instObj C dx)) ∧ R (.ok (.ret Value.notImplemented)) s) :=
  .of_wp fun prog w A R s h => by obtain ⟨hp, g, d, tk, os⟩ := s; obtain ⟨⟨C, dx, hl⟩, h⟩ := h; unfold PySem.W.instObj at hl; wp_walk; exact ⟨_, rfl, h⟩
theorem bool_mul_inst (a : Bool) (x : Addr) : Meets (Builtin.«int.__mul__» ⟨[.bool a, .ref x], []⟩) (fun _ R s => (∃ C dx, s.heap.get? x = some (PySem.W.instObj C dx)) ∧ R (.ok (.ret Value.notImplemented)) s) :=
  .of_wp fun prog w A R s h => by obtain ⟨hp, g, d, tk, os⟩ := s; obtain ⟨⟨C, dx, hl⟩, h⟩ := h; unfold PySem.W.instObj at hl; wp_walk; exact ⟨_, rfl, h⟩
theorem relV_back {v : V} {u : Value} {Q : Value → Shared → Prop} {s : Shared} (r : RelV v u) (q : Q u s) : PySem.W.CmpBack Q u s := by
  cases u <;> first | exact q | (cases v <;> first | (obtain ⟨_, e⟩ := r; exact nomatch e) | exact nomatch r)
theorem dec_int {prog : Program} {w : World} {A : Around} {E : Value → Shared → Prop} {s : Shared} {i : Int} {t : Tok} {p : Addr} (hget : ∃ C' dx', s.heap.get? p = some (PySem.W.instObj C' dx')) (Q' : Option Value → Shared → Prop) (q' : Q' none s) :
    wpAny (model prog w) A (tryMethod (.int i t) (PySem.dunder "mul") (.ref p)) Q' E s := by
  have e1 := F.entry_int_mul
  have e2 := F.args_int_mul_2 (.int i t) (.ref p)
  have e3 := int_mul_inst i t p
  have e4 : s.TypeIs (.int i t) "int" := typeIs_int s i t
  have e5 := F.slot_int_mul
  have e6 : wpAny (model prog w) A (call (.builtin "int.__mul__") [.int i t, .ref p]) (fun v s' => v = .notImplemented ∧ Q' none s') E s := call_meets e5 e4 e1 e2 e3 ⟨hget, rfl, q'⟩
  exact @wpAny_tryMethod_declines (model prog w) A E s (.int i t) (.ref p) "int" (PySem.dunder "mul") "int.__mul__" Q' e4 e5 e6
theorem dec_bool {prog : Program} {w : World} {A : Around} {E : Value → Shared → Prop} {s : Shared} {i : Bool} {p : Addr} (hget : ∃ C' dx', s.heap.get? p = some (PySem.W.instObj C' dx')) (Q' : Option Value → Shared → Prop) (q' : Q' none s) :
    wpAny (model prog w) A (tryMethod (.bool i) (PySem.dunder "mul") (.ref p)) Q' E s := by
  have e1 := F.entry_int_mul
  have e2 := F.args_int_mul_2 (.bool i) (.ref p)
  have e3 := bool_mul_inst i p
  have e4 : s.TypeIs (.bool i) "bool" := PySem.typeIs_bool s i
  have e5 := F.slot_bool_mul
  have e6 : wpAny (model prog w) A (call (.builtin "int.__mul__") [.bool i, .ref p]) (fun v s' => v = .notImplemented ∧ Q' none s') E s := call_meets e5 e4 e1 e2 e3 ⟨hget, rfl, q'⟩
  exact @wpAny_tryMethod_declines (model prog w) A E s (.bool i) (.ref p) "bool" (PySem.dunder "mul") "int.__mul__" Q' e4 e5 e6
/-! ### o * y, o // y by an own operator that may raise; y * o by the reflected one -/
section
variable {X : Cx} {CX : CXT} {k : Nat} {C g f : Addr} {fd : FuncData} {ps : List Str} {sp : Sp} {E : L2.St → XK} {pos : Pos} {a b : Expr} {ta tb : TE} {op : Operator}
/-- what the class says of the operator -/
structure OwnOp (K : PySem.W.Frag) (C : Addr) (op : Operator) (f : Addr) : Prop where
  sf : PySem.W.selfFirst K C = true
  at_ : PySem.W.findIn K (.ref C) (PySem.dunder op.info.2) = some (some (.ref f))
  fn : PySem.W.isFn K (.ref f) = true
  rc : ∃ rc, PySem.W.findIn K (.ref C) (dunderR op.info.2) = some rc ∧ (rc = none ∨ ∃ g : Addr, rc = some (.ref g))
def tOwnL (K : PySem.W.Frag) (C : Addr) (sp : Sp) (E : L2.St → XK) (ta tb : TE) : TE := fun σ H Q => ta σ H fun x H1 => tb σ H1 fun y H2 => ∃ p dx fs T, x = V.ref p ∧ H2 p = some (.ins C dx fs) ∧ Pl K H2 y T ∧ sp [x, y] H2 Q (E σ)
theorem pe_ownL (kinds : ∀ T, Kd T → ∃ r, OpK op.info.2 T r) (O : OwnOp X.K C op f) (F : FnOk X.prog X.w X.K X.mg X.base CX k f fd ps sp) (hr : Room k X.A) (hb : Binds X.K fd ps []) (hx : ∀ σ, PassesAt CX X σ (E σ)) (ha : PE X a ta) (hbb : PE X b tb) :
    PE X (.BinOp a op b pos) (tOwnL X.K C sp E ta tb) := by
  refine ⟨fun pins s σ H Q I h => ?_⟩
  refine wpAny_BinOp (binT ha hbb I h fun v u s2 x y H2 I2 rx ry q => ?_)
  obtain ⟨p, dx, fs, T, rfl, hp, ty, hs⟩ := q
  obtain rfl : v = Value.ref p := rx
  obtain ⟨mA, J, _⟩ := ins_get I2.hok hp
  obtain ⟨od, J, _⟩ := J.look
  obtain ⟨P, Z, pz, _⟩ := kit_of I2 ry ty.1
  obtain ⟨r, fl, ro, lk⟩ := kinds T ty.2
  obtain ⟨rc, h1, h2⟩ := O.rc
  refine PySem.W.own_left I2.kIn J (Z.ty _ _ I2.kIn pz) O.sf O.at_ O.fn h1 h2 fl lk (sub_no ty.2) ?_
  refine wpAny_mono (run_fnSD (us := [.ref p, u]) (vs := [.ref p, y]) (dvs := []) F hr hb .nil (hx σ) I2 (.cons rfl (.cons ry .nil)) hs) (fun v s' z => ?_) fun _ _ e => e
  obtain ⟨y', H', I', r', q'⟩ := z
  exact relV_back r' ⟨y', H', I', r', q'⟩
structure OwnR (K : PySem.W.Frag) (C : Addr) (op : Operator) (g f : Addr) : Prop where
  sf : PySem.W.selfFirst K C = true
  at_ : PySem.W.findIn K (.ref C) (PySem.dunder op.info.2) = some (some (.ref g))
  rc : PySem.W.findIn K (.ref C) (dunderR op.info.2) = some (some (.ref f))
  fn : PySem.W.isFn K (.ref f) = true
  s1 : PySem.W.subIn K (.ref C) (.type "int") = some false
  s2 : PySem.W.subIn K (.ref C) (.type "bool") = some false
def tOwnR (K : PySem.W.Frag) (C : Addr) (sp : Sp) (E : L2.St → XK) (ta tb : TE) : TE := fun σ H Q => ta σ H fun y H1 => tb σ H1 fun x H2 => ∃ p dx fs T, x = V.ref p ∧ H2 p = some (.ins C dx fs) ∧ Pl K H2 y T ∧ sp [x, y] H2 Q (E σ)
theorem pe_ownR (O : OwnR X.K C .Mult g f) (F : FnOk X.prog X.w X.K X.mg X.base CX k f fd ps sp) (hr : Room k X.A) (hb : Binds X.K fd ps []) (hx : ∀ σ, PassesAt CX X σ (E σ)) (ha : PE X a ta) (hbb : PE X b tb) :
    PE X (.BinOp a .Mult b pos) (tOwnR X.K C sp E ta tb) := by
  refine ⟨fun pins s σ H Q I h => ?_⟩
  refine wpAny_BinOp (binT ha hbb I h fun u v s2 y x H2 I2 ry rx q => ?_)
  obtain ⟨p, dx, fs, T, rfl, hp, ty, hs⟩ := q
  obtain rfl : v = Value.ref p := rx
  obtain ⟨mA, J, _⟩ := ins_get I2.hok hp
  obtain ⟨od, J, _⟩ := J.look
  obtain ⟨P, Z, pz, _⟩ := kit_of I2 ry ty.1
  have hget : ∃ C' dx', s2.heap.get? p = some (PySem.W.instObj C' dx') := by
    obtain ⟨_, _, _, z, _⟩ := I2.hok p _ hp
    exact ⟨_, _, z⟩
  have run : wpAny (model X.prog X.w) X.A (call (.ref f) [.ref p, u]) (PySem.W.CmpBack (EP X pins σ Q)) X.xe s2 := by
    refine wpAny_mono (run_fnSD (us := [.ref p, u]) (vs := [.ref p, y]) (dvs := []) F hr hb .nil (hx σ) I2 (.cons rfl (.cons ry .nil)) hs) (fun v s' z => ?_) fun _ _ e => e
    obtain ⟨y', H', I', r', q'⟩ := z
    exact relV_back r' ⟨y', H', I', r', q'⟩
  have T0 := Z.ty (model X.prog X.w) _ I2.kIn pz
  have low : ∀ {T : String}, OpK "mul" T false → PySem.W.Looks (model X.prog X.w) s2.heap (typeOf u) (.type T) → wpAny (model X.prog X.w) X.A (binaryOp .Mult u (.ref p)) (EP X pins σ Q) X.xe s2 := fun k t =>
    PySem.W.own_right (op := .Mult) I2.kIn J t O.sf O.at_ O.rc O.fn k.1 run
  obtain ⟨tx, kd⟩ := ty
  have hty : TyX X.K H2 y (.type T) := tx
  cases kd with
  | non => exact low mul_none T0
  | str => exact low mul_str T0
  | lst => exact low mul_list T0
  | tup => exact low mul_tuple T0
  | dct => exact low mul_dict T0
  | int =>
    obtain ⟨i, rfl⟩ := Pl.of_int ⟨tx, .int⟩ rfl
    obtain ⟨t, rfl⟩ := ry
    exact PySem.W.own_right2 (op := .Mult) I2.kIn J T0 O.sf O.at_ O.rc O.fn mul_int.1 O.s1 (dec_int hget) run
  | bl =>
    obtain ⟨i, rfl⟩ := Pl.of_bl ⟨tx, .bl⟩ rfl
    obtain rfl : u = Value.bool i := ry
    exact PySem.W.own_right2 (op := .Mult) I2.kIn J T0 O.sf O.at_ O.rc O.fn mul_bool.1 O.s2 (dec_bool hget) run
end
end Bt
namespace Bt
open PySem PySem.Spec PyProof.Rows L2 LamX NdefX
open PySem.W (dataLt alike)
theorem s_callSD {sp : Sp} {dvs : List V} {E : L2.St → XK} {t : TA} {σ : L2.St} {H : Hp} {Q : VK} (h : t σ H fun vs H1 => sp (vs ++ dvs) H1 Q (E σ)) : tCallSD sp dvs E t σ H Q := h
theorem words43_ : True := by
  k_with "s_V5b" => first
    | ((with_reducible refine' s_var ?hv ?_); (case hv => exact rfl))
    | with_reducible first
      | refine' s_c ?_ | refine' s_op ?_ | refine' s_asg ?_ | refine' s_gname ?_ | refine' s_seq ?_ | refine' s_next ?_ | refine' s_ret ?_ | refine' s_ifS ?_ | refine' s_drop ?_ | refine' s_retN ?_
      | refine' s_test ?_ | refine' s_B ?_ | refine' q_test ?_ | refine' s_int ?_ | refine' s_cons ?_ | refine' s_nil ?_ | refine' s_call ?_ | refine' s_CB ?_ | refine' s_andT ?_ | refine' s_orT ?_ | refine' s_notT ?_
      | refine' s_andV ?_ | refine' s_orV ?_ | refine' s_notV ?_ | refine' s_ifV ?_ | refine' s_chain ?_ | refine' s_sl ?_ | refine' s_noPart ?_ | refine' s_part ?_ | refine' s_gsub ?_ | refine' s_BM ?_ | refine' s_tup ?_ | refine' s_lst ?_
      | refine' q_add ?_ | refine' q_sub ?_ | refine' q_lt ?_ | refine' q_le ?_ | refine' q_gt ?_ | refine' q_ge ?_ | refine' s_ifT ?_ | refine' s_ifF ?_ | refine' s_yes ?_ | refine' s_prop ?_ | refine' s_iList ?_ | refine' s_callOS ?_ | refine' s_iStr ?_ | refine' s_M0 ?_ | refine' s_make ?_ | refine' s_makeS ?_ | refine' s_ownL ?_ | refine' s_ownR ?_ | refine' s_callSD ?_ | refine' s_fld ?_ | refine' s_prop ?_ | refine' s_raise1 ?_ | refine' s_for ?_ | refine' s_rng1 ?_ | refine' s_par ?_ | refine' s_gcons ?_ | refine' s_gnil ?_ | refine' s_iList ?_ | refine' s_iEnum ?_
      | (refine' q_mod ?hm ?_; (case hm => first | omega | decide)) | (refine' q_fdiv ?hm ?hn ?_; (case hm => first | omega | decide); (case hn => first | omega | decide))
      | (refine' q_mulR ?hm ?_; (case hm => first | omega | decide)) | (refine' q_mulL ?hm ?_; (case hm => first | omega | decide))
    | dsimp only
  k_with "r_V5b" => repeat (k_extra "s_V5b")
  trivial
section
variable {X : Cx} {k j : Nat} {x : Str} {sp : Sp} {p pos : Pos} {e : Expr} {es : List Expr} {t : TA} {W : WX}
theorem pe_cxS (c : CalX X.prog X.w X.K X.mg X.base k x sp) (hr : Room j X.A) (hk : k ≤ j) (tk : Takes X W) (hg : Gl X x) (ha : PA X (e :: es) t)
    (hdb : (x == ("__debug__" : Str)) = false := by decide) (he : starEach (e :: es) X.env = (false, eval e X.env) :: starEach es X.env := by rfl) (hpl : (backTo pos (starEach es X.env)).any (·.1) = false := by rfl) :
    PE X (.Call (.Name x p) (e :: es) [] pos) (tCallSD sp [] (fun σ => WE W σ) t) := by
  obtain ⟨f, fd, ps, F, hm, kp, b⟩ := c.ex
  exact pe_callSD F (hr.mono hk) hg hm kp b .nil (fun σ => passAt tk σ) ha hdb he hpl
end
/-! ### what a piece says of a place -/
structure PieceM (K : PySem.W.Frag) (CP : Addr) : Prop where
  inn : ∃ (f : Addr) (fd : FuncData), PySem.W.findIn K (.ref CP) "__contains__" = some (some (.ref f)) ∧ PySem.W.isFn K (.ref f) = true ∧ Fun K "__contains__" "Piece.__contains__" s_Piece___contains__ f fd ∧ Binds K fd ["self", "place"] []
def inB (f l : Str) (c : Int) (m : Option Str) (bs : List Str) (e : Bool) (u v : Str) : Bool := decide (u = f) && (afterB l c v m && untilB l c v (hiOf e bs))
section
variable {P : Program} {w : World} {K : PySem.W.Frag} {mg : Str → Option Value} {base : Heap}
def spSays (K : PySem.W.Frag) (C CP CL : Addr) : Sp := fun vs H Q E => ∃ p x T f l c m bs e, vs = [.ref p, x] ∧ PcAt C CP H p f l c m bs e ∧ PcS f l c m bs e ∧ Pl K H x T ∧
  (T = "tuple" → ∃ a xs, x = .ref a ∧ H a = some (.tup xs) ∧ (∀ y ∈ xs, NameArg K H y)) ∧ (PlaceV H x → T = "tuple") ∧
  (¬ PlaceV H x → ∀ H' d, Same H H' → H d = none → H' d = some (.xd [("value", x)]) → E (.ref CL) (some d) H') ∧
  (∀ u v, PlAt H x (u, v) → Nm u → Nm v → ∀ H', Same H H' → Q (if inB f l c m bs e u v then .bl (decide (v ∈ bs)) else .non) H')
theorem ok_piece_says {C CP CL fn : Addr} {fd : FuncData} (T : Txt K mg) (L : TxtL K mg) (N : TxtN K mg) (I : TxtI K mg) (FC : FormC K mg C) (TK : TxtK K mg) (PC : PieceC K mg CP) (PM : PieceM K CP) (XP : ExcF K mg "InvalidPlace" "value" CL)
    (F : Fun K "says" "Piece.says" s_Piece_says fn fd) : FnOk P w K mg base (L2.CX P w) 6 fn fd ["self", "place"] (spSays K C CP CL) := by
  refine F.okX sc_Piece_says (fun vs H Q E h => ?_) (fun cdv A outer s H vs Q E hr h => ?_)
  · obtain ⟨p, x, T, f, l, c, m, bs, e, rfl, _⟩ := h
    rfl
  · obtain ⟨p, x, ty, f, l, c, m, bs, e, rfl, pa, ps, hx, ht, hty, kN, kY⟩ := h
    have hu := hr.units
    obtain ⟨fi, fdi, i1, i2, Fi, ib⟩ := PM.inn
    refine ⟨_, (pss_cons (ps_expr (pe_cxS (ok_check_place T N I XP) hr (by decide) (takes_of rfl rfl rfl rfl) rfl (pa_cons (pv 1) pa_nil)))
      (pss_cons (ps_if (pt_cmpR (op_notInOwn (ok_piece_in T L N I FC TK PC Fi) (hr.mono (by decide)) i1 i2 ib pass0) (pv 1) (pv 0) (by rfl)) (pss_one (ps_ret pe_non)) pss_nil)
      (pss_one (ps_ret (pe_cmpR op_in_seq (pe_ix ix_seq (pv 1) pe_int (fun _ _ => rfl)) (pe_fld (pv 0) rfl) (by rfl)))))), ?_⟩
    k_extra "r_V5b"
    have q_inStrs : ∀ {H : Hp} {Q : VK} {l : Addr} {z : Str} {zs : List Str}, H l = some (.lst (zs.map V.str)) → Q (.bl (decide (z ∈ zs))) H → rIn K false (.str z) (.ref l) H Q := fun h q =>
      ⟨_, _, rfl, .inl (SqL.of h), rfl, flat_strs _, by rw [inV_strs]; exact q⟩
    refine ⟨x, ty, rfl, hx, ht, fun pl => ⟨hty pl, fun H1 S1 => ?_⟩, fun np H3 d S3 nd hd => kN np H3 d S3 nd hd⟩
    · obtain ⟨ax, u', v', rfl, hax, ⟨u, rfl, nu⟩, ⟨v, rfl, nv⟩⟩ := pl
      have pa1 := pa.mono S1
      have kY' := fun H2 (S2 : Same H1 H2) => kY u v ⟨ax, rfl, hax⟩ nu nv H2 (S1.trans S2)
      obtain ⟨dx, a, n, lo, hi, g1, g2, g3, g4, g5⟩ := id pa1
      k_extra "r_V5b"
      refine ⟨p, dx, _, rfl, g1, p, .ref ax, ty, f, l, c, m, bs, e, rfl, pa1, ps, hx.mono S1, fun z => ?_, fun _ => hty ⟨ax, .str u, .str v, rfl, hax, ⟨u, rfl, nu⟩, ⟨v, rfl, nv⟩⟩, fun np => absurd ⟨ax, .str u, .str v, rfl, S1 _ _ hax, ⟨u, rfl, nu⟩, ⟨v, rfl, nv⟩⟩ np, fun u2 v2 pl2 nu2 nv2 H2 S2 => ?_⟩
      · obtain ⟨b, ys, e1, e2, e3⟩ := ht z
        exact ⟨b, ys, e1, S1 _ _ e2, fun y hy => (e3 y hy).mono S1⟩
      · obtain ⟨a2, e1, e2⟩ := pl2
        injection e1 with e1
        subst e1
        have e3 := e2.symm.trans (S1 _ _ hax)
        simp only [Option.some.injEq, HO.tup.injEq, List.cons.injEq, V.str.injEq, and_true] at e3
        obtain ⟨rfl, rfl⟩ := e3
        refine ⟨_, rfl, ?_⟩
        have kZ := kY' H2 S2
        unfold inB at kZ
        have g12 := S2 _ _ g1
        have h12 := S2 _ _ (S1 _ _ hax)
        have n12 := S2 _ _ g3
        cases eb : decide (u2 = f) && (afterB l c v2 m && untilB l c v2 (hiOf e bs)) with
        | false =>
          rw [eb] at kZ
          refine ⟨_, rfl, ?_⟩
          k_extra "r_V5b"
          exact kZ
        | true =>
          rw [eb] at kZ
          refine ⟨_, rfl, ?_⟩
          k_extra "r_V5b"
          refine s_if0 rfl ?_
          k_extra "r_V5b"
          refine q_ixT (SqT.of h12) (at_of (j := 1) rfl rfl) ?_
          k_extra "r_V5b"
          refine ⟨p, CP, dx, _, _, rfl, g12, PC.cl, PC.n4, pcf_names, ?_⟩
          refine q_inStrs n12 ?_
          exact kZ
end
end Bt
namespace Bt
open PySem PySem.Spec PyProof.Rows L2 LamX NdefX
open PySem.W (dataLt dataLe alike AllAlike Sortable)
theorem words44_ : True := by
  k_with "s_X5" => first
    | ((with_reducible refine' s_var ?hv ?_); (case hv => exact rfl))
    | with_reducible first
      | refine' s_c ?_ | refine' s_op ?_ | refine' s_asg ?_ | refine' s_gname ?_ | refine' s_seq ?_ | refine' s_next ?_ | refine' s_ret ?_ | refine' s_ifS ?_ | refine' s_drop ?_ | refine' s_retN ?_
      | refine' s_test ?_ | refine' s_B ?_ | refine' q_test ?_ | refine' s_int ?_ | refine' s_cons ?_ | refine' s_nil ?_ | refine' s_call ?_ | refine' s_CB ?_ | refine' s_andT ?_ | refine' s_orT ?_ | refine' s_notT ?_
      | refine' s_andV ?_ | refine' s_orV ?_ | refine' s_notV ?_ | refine' s_ifV ?_ | refine' s_chain ?_ | refine' s_sl ?_ | refine' s_noPart ?_ | refine' s_part ?_ | refine' s_gsub ?_ | refine' s_BM ?_ | refine' s_tup ?_ | refine' s_lst ?_
      | refine' q_add ?_ | refine' q_sub ?_ | refine' q_lt ?_ | refine' q_le ?_ | refine' q_gt ?_ | refine' q_ge ?_ | refine' s_ifT ?_ | refine' s_ifF ?_ | refine' s_yes ?_ | refine' s_prop ?_ | refine' s_iList ?_ | refine' s_callOS ?_ | refine' s_iStr ?_ | refine' s_M0 ?_ | refine' s_make ?_ | refine' s_makeS ?_ | refine' s_ownL ?_ | refine' s_ownR ?_ | refine' s_callSD ?_ | refine' s_fld ?_ | refine' s_prop ?_ | refine' s_raise1 ?_ | refine' s_for ?_ | refine' s_rng1 ?_ | refine' s_par ?_ | refine' s_gcons ?_ | refine' s_gnil ?_ | refine' s_iList ?_ | refine' s_iEnum ?_
      | (refine' q_mod ?hm ?_; (case hm => first | omega | decide)) | (refine' q_fdiv ?hm ?hn ?_; (case hm => first | omega | decide); (case hn => first | omega | decide))
      | (refine' q_mulR ?hm ?_; (case hm => first | omega | decide)) | (refine' q_mulL ?hm ?_; (case hm => first | omega | decide))
    | dsimp only
  k_with "r_X5" => repeat (k_extra "s_X5")
  trivial
/-! ### sorted places -/
def dPl (q : Str × Str) : PyData := .tuple [.str q.1, .str q.2]
def plSort (ps : List (Str × Str)) : List (Str × Str) := ps.mergeSort (dataLe false dPl)
theorem PlAt.dp {K : PySem.W.Frag} {H : Hp} {x : V} {q : Str × Str} : PlAt H x q → Dp K H x (dPl q) := fun ⟨a, e, h⟩ => by
  subst e
  exact .tup (SqT.of h) (.cons (.str _) (.cons (.str _) .nil))
theorem All2.pairs {α : Type} {R : V → α → Prop} {xs : List V} {ps : List α} (h : All2 R xs ps) : ∃ zs : List (V × α), zs.map (·.1) = xs ∧ zs.map (·.2) = ps ∧ ∀ z ∈ zs, R z.1 z.2 := by
  induction h with
  | nil => exact ⟨[], rfl, rfl, fun _ h => absurd h List.not_mem_nil⟩
  | cons h _ ih =>
    obtain ⟨zs, rfl, rfl, k⟩ := ih
    exact ⟨(_, _) :: zs, rfl, rfl, fun z m => by
      rcases List.mem_cons.mp m with rfl | m
      · exact h
      · exact k z m⟩
theorem All2.of {α : Type} {R : V → α → Prop} : ∀ {zs : List (V × α)}, (∀ z ∈ zs, R z.1 z.2) → All2 R (zs.map (·.1)) (zs.map (·.2))
  | [], _ => .nil
  | z :: zs, h => .cons (h z List.mem_cons_self) (All2.of fun y m => h y (List.mem_cons_of_mem _ m))
theorem q_sortPl {K : PySem.W.Frag} {H : Hp} {Q : VK} {a : Addr} {xs : List V} {ps : List (Str × Str)} (h : SqL K H a xs) (hp : All2 (PlAt H) xs ps)
    (q : ∀ p H' ys, H p = none → Same H H' → H' p = some (.lst ys) → All2 (PlAt H') ys (plSort ps) → Q (.ref p) H') : rSortD K [.ref a] H Q := by
  obtain ⟨zs, rfl, rfl, k⟩ := hp.pairs
  have e1 : (zs.map fun z => (z.1, dPl z.2)).map (·.1) = zs.map (·.1) := by rw [List.map_map]; rfl
  have e2 : (zs.map fun z => (z.1, dPl z.2)).map (·.2) = (zs.map (·.2)).map dPl := by rw [List.map_map, List.map_map]; rfl
  refine q_sortD (zs.map fun z => (z.1, dPl z.2)) (by rw [e1]; exact h) (fun z hz => ?_) ?_ ?_ fun p H' np S hp' => ?_
  · obtain ⟨y, my, rfl⟩ := List.mem_map.mp hz
    exact ⟨(k y my).dp, by simp [dPl, PyData.depth, PyData.depthAll]⟩
  · rw [e2]
    exact AllAlike.of fun b b' => by simp [dPl, alike, PySem.W.alikeAll]
  · rw [e2]
    exact Sortable.tuples fun b => ⟨_, _, rfl⟩
  · have m1 : (zs.map fun z => (z.1, dPl z.2)).mergeSort prLe = (zs.mergeSort (dataLe false fun z : V × (Str × Str) => dPl z.2)).map fun z => (z.1, dPl z.2) :=
      (List.map_mergeSort (f := fun z : V × (Str × Str) => ((z.1, dPl z.2) : V × PyData)) (r := dataLe false fun z : V × (Str × Str) => dPl z.2) (s := prLe) fun _ _ _ _ => rfl).symm
    have m2 : (zs.mergeSort (dataLe false fun z : V × (Str × Str) => dPl z.2)).map (·.2) = plSort (zs.map (·.2)) :=
      List.map_mergeSort (f := fun z : V × (Str × Str) => z.2) (r := dataLe false fun z : V × (Str × Str) => dPl z.2) (s := dataLe false dPl) fun _ _ _ _ => rfl
    rw [m1, List.map_map] at hp'
    refine q p H' _ np S hp' ?_
    rw [← m2]
    refine All2.of fun z mz => ?_
    exact (k z (List.mem_mergeSort.mp mz)).mono S
section
variable {P : Program} {w : World} {K : PySem.W.Frag} {mg : Str → Option Value} {base : Heap}
def spStand (C CP : Addr) : Sp := fun vs H Q _ => ∃ p f l c m bs e, vs = [.ref p] ∧ PcAt C CP H p f l c m bs e ∧ PcS f l c m bs e ∧
  ∀ D H' ys, H D = none → Same H H' → H' D = some (.lst ys) → All2 (PlAt H') ys (plSort (bs.map fun z => (f, z))) → Q (.ref D) H'
theorem ok_piece_standing {C CP fn : Addr} {fd : FuncData} (T : Txt K mg) (PC : PieceC K mg CP)
    (F : Fun K "standing" "Piece.standing" s_Piece_standing fn fd) : FnOk P w K mg base CX0 1 fn fd ["self"] (spStand C CP) := by
  refine F.ok sc_Piece_standing (fun vs H Q E h => ?_) (fun cdv A outer s H vs Q E hr h => ?_)
  · obtain ⟨p, f, l, c, m, bs, e, rfl, _⟩ := h
    rfl
  · obtain ⟨p, f, l, c, m, bs, e, rfl, pa, ps, k⟩ := h
    have hu := hr.units
    refine ⟨_, (pss_one (ps_ret (pe_callB (cr_sortD hu) (by rfl) T.n_sorted (by decide +kernel) (pa_cons (pe_lc (own := [("name", 1)]) (g := gName 1) (tt := tYes) (te := tTup (tCons (tFld K (tVar 0) "_folder") (tCons (tVar 1) tNil))) rfl sc_Piece_standing.nd (pi_list (pe_fld (pv 0) rfl)) (blkOk_by (own := [("name", 1)]) (N := ["self", "name"]) (sc := defScope s_Piece_standing) (by decide +kernel)) (fun _ _ _ _ _ => pg_name (i := 1) sc_Piece_standing.nd rfl (Or.inl rfl)) (fun _ _ _ _ _ => pts_nil) (fun _ _ _ _ _ => by exact (pe_tup (pa_cons (pe_fld (pv 0) rfl) (pa_cons (pv 1) pa_nil))))) pa_nil)))), ?_⟩
    obtain ⟨dx, a, n, lo, hi, g1, g2, g3, g4, g5⟩ := id pa
    k_extra "r_X5"
    refine s_lc ?_
    k_extra "r_X5"
    refine ⟨p, CP, dx, _, _, rfl, g1, PC.cl, PC.n4, pcf_names, n, rfl, ⟨_, SqL.of g3⟩, fun D nD => lc_list (K := K) (a := n) (xs := bs.map V.str) (fun i H' => Same H H' ∧ ∃ ys, H' D = some (.lst ys) ∧ All2 (PlAt H') ys ((bs.take i).map fun z => (f, z))) ⟨Same.new nD, [], upd_same, .nil⟩ (fun i H' _ h => SqL.of (h.1 _ _ g3)) ?_ ?_⟩
    · rintro j y H' hj ⟨S', ys, hD, dk⟩
      rw [List.getElem?_map] at hj
      obtain ⟨z, ez, rfl⟩ := Option.map_eq_some_iff.mp hj
      k_extra "r_X5"
      refine ⟨rfl, ?_⟩
      k_extra "r_X5"
      refine ⟨p, CP, dx, _, _, rfl, S' _ _ g1, PC.cl, PC.n1, pcf_folder, ?_⟩
      k_extra "r_X5"
      refine q_newT (by show 2 ≤ sizeLine; decide) fun t H4 n4 S4 h4 => ?_
      refine ⟨ys, S4 _ _ hD, ?_, same_mut (S'.trans S4) nD, ys ++ [.ref t], upd_same, ?_⟩
      · rw [dk.len, List.length_map, List.length_take]
        have := ps.hz
        exact szlt (by omega)
      · rw [take_map_more (f := fun z => (f, z)) ez]
        have b : But D H4 (upd H4 D (.lst (ys ++ [.ref t]))) := But.upd
        exact (dk.imp fun _ _ h => (h.mono S4).but (S4 _ _ hD) b).snoc (PlAt.but (S4 _ _ hD) b ⟨t, rfl, h4⟩)
    · rintro H2 ⟨S2, ys, h2, dk⟩
      rw [List.length_map, List.take_length] at dk
      k_extra "r_X5"
      exact q_sortPl (SqL.of h2) dk fun D2 H3 zs n3 S3 h3 a3 => k D2 H3 zs (S2.free n3) (S2.trans S3) h3 a3
end
end Bt
namespace Bt
open PySem PySem.Spec PyProof.Rows L2
theorem words3_ : True := by
  k_with "s_E5" => first
    | ((with_reducible refine' s_var ?hv ?_); (case hv => exact rfl))
    | with_reducible first
      | refine' s_c ?_ | refine' s_op ?_ | refine' s_asg ?_ | refine' s_gname ?_ | refine' s_seq ?_ | refine' s_next ?_ | refine' s_ret ?_ | refine' s_ifS ?_ | refine' s_drop ?_ | refine' s_retN ?_
      | refine' s_test ?_ | refine' s_B ?_ | refine' q_test ?_ | refine' s_int ?_ | refine' s_cons ?_ | refine' s_nil ?_ | refine' s_call ?_ | refine' s_CB ?_ | refine' s_andT ?_ | refine' s_orT ?_ | refine' s_notT ?_
      | refine' s_andV ?_ | refine' s_orV ?_ | refine' s_notV ?_ | refine' s_ifV ?_ | refine' s_chain ?_ | refine' s_sl ?_ | refine' s_noPart ?_ | refine' s_part ?_ | refine' s_gsub ?_ | refine' s_BM ?_ | refine' s_tup ?_ | refine' s_lst ?_
      | refine' q_add ?_ | refine' q_sub ?_ | refine' q_lt ?_ | refine' q_le ?_ | refine' q_gt ?_ | refine' q_ge ?_ | refine' s_ifT ?_ | refine' s_ifF ?_
      | (refine' q_mod ?hm ?_; (case hm => first | omega | decide)) | (refine' q_fdiv ?hm ?hn ?_; (case hm => first | omega | decide); (case hn => first | omega | decide))
      | (refine' q_mulR ?hm ?_; (case hm => first | omega | decide)) | (refine' q_mulL ?hm ?_; (case hm => first | omega | decide))
    | dsimp only
  k_with "r_E5" => repeat (k_extra "s_E5")
  trivial
/-! ### Form(..) -/
section
variable {X : Cx} {C CI : Addr} {k : Nat} {p pos : Pos} {e e2 : Expr} {ta tb : TE}
theorem pe_form2S {W : WX} (T : Txt X.K X.mg) (FC : FormC X.K X.mg C) (XI : ExcF X.K X.mg "InvalidForm" "value" CI) (hr : Room k X.A) (hk : 5 ≤ k) (tk : Takes X W) (h1 : PE X e ta) (h2 : PE X e2 tb) (hg : Gl X "Form" := by rfl)
    (s1 : starEach (e :: [e2]) X.env = (false, eval e X.env) :: starEach [e2] X.env := by rfl) (s2 : starEach (e2 :: []) X.env = (false, eval e2 X.env) :: starEach [] X.env := by rfl) (s3 : (backTo pos (starEach [e2] X.env)).any (·.1) = false := by rfl) :
    PE X (.Call (.Name "Form" p) [e, e2] [] pos) (tMakeS C (spFormInit X.K C CI) [] (fun σ => WE W σ) (tCons ta (tCons tb tNil))) := by
  obtain ⟨f, fd, d1, d2, i1, i2, F, b, _, _, _, _⟩ := FC.init
  exact pe_makeS ⟨FC.makes, i1, i2, FC.kp⟩ (ok_form_init T FC XI F) (hr.mono hk) hg FC.g b .nil (fun σ => passAt tk σ) (pa_cons h1 (pa_cons h2 pa_nil s2) s1) (by decide) s1 s3
theorem pe_form2 (T : Txt X.K X.mg) (FC : FormC X.K X.mg C) (XI : ExcF X.K X.mg "InvalidForm" "value" CI) (hr : Room k X.A) (hk : 5 ≤ k) (h1 : PE X e ta) (h2 : PE X e2 tb) (hg : Gl X "Form" := by rfl)
    (s1 : starEach (e :: [e2]) X.env = (false, eval e X.env) :: starEach [e2] X.env := by rfl) (s2 : starEach (e2 :: []) X.env = (false, eval e2 X.env) :: starEach [] X.env := by rfl) (s3 : (backTo pos (starEach [e2] X.env)).any (·.1) = false := by rfl) :
    PE X (.Call (.Name "Form" p) [e, e2] [] pos) (tMake C (spFormInit X.K C CI) [] E0 (tCons ta (tCons tb tNil))) := by
  obtain ⟨f, fd, d1, d2, i1, i2, F, b, _, _, _, _⟩ := FC.init
  exact pe_make ⟨FC.makes, i1, i2, FC.kp⟩ (ok_form_init T FC XI F) (hr.mono hk) hg FC.g b .nil passL (pa_cons h1 (pa_cons h2 pa_nil s2) s1) (by decide) s1 s3
theorem pe_form1 (T : Txt X.K X.mg) (FC : FormC X.K X.mg C) (XI : ExcF X.K X.mg "InvalidForm" "value" CI) (hr : Room k X.A) (hk : 5 ≤ k) (h1 : PE X e ta) (hg : Gl X "Form" := by rfl)
    (s1 : starEach (e :: []) X.env = (false, eval e X.env) :: starEach [] X.env := by rfl) (s3 : (backTo pos (starEach [] X.env)).any (·.1) = false := by rfl) :
    PE X (.Call (.Name "Form" p) [e] [] pos) (tMake C (spFormInit X.K C CI) [.int 1] E0 (tCons ta tNil)) := by
  obtain ⟨f, fd, d1, d2, i1, i2, F, _, v1, b1, _, _⟩ := FC.init
  exact pe_make ⟨FC.makes, i1, i2, FC.kp⟩ (ok_form_init T FC XI F) (hr.mono hk) hg FC.g b1 v1 passL (pa_cons h1 pa_nil s1) (by decide) s1 s3
theorem pe_form0 (T : Txt X.K X.mg) (FC : FormC X.K X.mg C) (XI : ExcF X.K X.mg "InvalidForm" "value" CI) (hr : Room k X.A) (hk : 5 ≤ k) (hg : Gl X "Form" := by rfl) :
    PE X (.Call (.Name "Form" p) [] [] pos) (tMake C (spFormInit X.K C CI) [.str alphaS, .int 1] E0 tNil) := by
  obtain ⟨f, fd, d1, d2, i1, i2, F, _, _, _, v2, b2⟩ := FC.init
  exact pe_make0 ⟨FC.makes, i1, i2, FC.kp⟩ (ok_form_init T FC XI F) (hr.mono hk) hg FC.g b2 v2 passL
end
theorem s_make {C : Addr} {sp : Sp} {dvs : List V} {E : XK} {t : TA} {σ : L2.St} {H : Hp} {Q : VK} (h : t σ H fun vs H1 => ∀ x dx, H1 x = none → H1 dx = none → dx ≠ x → sp (.ref x :: (vs ++ dvs)) (upd (upd H1 dx (.own x)) x (.ins C dx [])) (fun v H2 => v = .non ∧ Q (.ref x) H2) E) : tMake C sp dvs E t σ H Q := h
theorem s_makeS {C : Addr} {sp : Sp} {dvs : List V} {E : L2.St → XK} {t : TA} {σ : L2.St} {H : Hp} {Q : VK} (h : t σ H fun vs H1 => ∀ x dx, H1 x = none → H1 dx = none → dx ≠ x → sp (.ref x :: (vs ++ dvs)) (upd (upd H1 dx (.own x)) x (.ins C dx [])) (fun v H2 => v = .non ∧ Q (.ref x) H2) (E σ)) : tMakeS C sp dvs E t σ H Q := h
theorem same_made {H : Hp} {x dx C : Addr} (nx : H x = none) (nd : H dx = none) : Same H (upd (upd H dx (.own x)) x (.ins C dx [])) := fun b o e => by
  rw [upd_ne (ne_of_none e nx), upd_ne (ne_of_none e nd)]; exact e
theorem q_form {K : PySem.W.Frag} {C CI : Addr} {H : Hp} {Q : Addr → Hp → Prop} {E : XK} {z : Str} {c : Int} (lz : Letters z) (c0 : 1 ≤ c) (c1 : c ≤ 1000) (q : ∀ a H', H a = none → Same H H' → FormAt C H' a z c → Q a H') :
    ∀ x dx, H x = none → H dx = none → dx ≠ x → spFormInit K C CI [.ref x, .str z, .int c] (upd (upd H dx (.own x)) x (.ins C dx [])) (fun v H2 => v = .non ∧ Q x H2) E := fun x dx nx nd ne =>
  ⟨x, dx, .str z, .int c, _, _, rfl, upd_same, Pl.str, Pl.int, fun z' e => by cases e; exact ⟨by rw [lz.len]; decide, lz.asc⟩, fun _ H' hx b => ⟨rfl, q x H' nx (fun a o e => b a o (ne_of_none e nx) (same_made nx nd _ _ e)) ⟨dx, hx⟩⟩,
    fun nv => absurd ⟨⟨z, rfl, lz⟩, c, rfl, c0, c1⟩ nv⟩
theorem q_formX {K : PySem.W.Frag} {C CI : Addr} {H : Hp} {Q : Addr → Hp → Prop} {E : XK} {l c : V} {T1 T2 : String} (hl : Pl K H l T1) (hc : Pl K H c T2) (hz : ∀ z, l = .str z → z.length < 64 ∧ Asc z) (nv : ¬ Valid l c)
    (q : ∀ H' t d, Same H H' → H t = none → H d = none → H' d = some (.xd [("value", .ref t)]) → H' t = some (.tup [l, c]) → E (.ref CI) (some d) H') :
    ∀ x dx, H x = none → H dx = none → dx ≠ x → spFormInit K C CI [.ref x, l, c] (upd (upd H dx (.own x)) x (.ins C dx [])) (fun v H2 => v = .non ∧ Q x H2) E := fun x dx nx nd ne =>
  ⟨x, dx, l, c, T1, T2, rfl, upd_same, hl.mono (same_made nx nd), hc.mono (same_made nx nd), hz, fun v => absurd v nv, fun _ H' t d S nt ndd hd ht => q H' t d (fun b o e => S _ _ (same_made nx nd _ _ e)) ((same_made nx nd).free nt) ((same_made nx nd).free ndd) hd ht⟩
end Bt
namespace Bt
open PySem PySem.Spec PyProof.Rows L2 LamX NdefX
open PySem.W (dataLt dataLe alike AllAlike Sortable)
theorem words45_ : True := by
  k_with "s_E5b" => first
    | ((with_reducible refine' s_var ?hv ?_); (case hv => exact rfl))
    | with_reducible first
      | refine' s_c ?_ | refine' s_op ?_ | refine' s_asg ?_ | refine' s_gname ?_ | refine' s_seq ?_ | refine' s_next ?_ | refine' s_ret ?_ | refine' s_ifS ?_ | refine' s_drop ?_ | refine' s_retN ?_
      | refine' s_test ?_ | refine' s_B ?_ | refine' q_test ?_ | refine' s_int ?_ | refine' s_cons ?_ | refine' s_nil ?_ | refine' s_call ?_ | refine' s_CB ?_ | refine' s_andT ?_ | refine' s_orT ?_ | refine' s_notT ?_
      | refine' s_andV ?_ | refine' s_orV ?_ | refine' s_notV ?_ | refine' s_ifV ?_ | refine' s_chain ?_ | refine' s_sl ?_ | refine' s_noPart ?_ | refine' s_part ?_ | refine' s_gsub ?_ | refine' s_BM ?_ | refine' s_tup ?_ | refine' s_lst ?_
      | refine' q_add ?_ | refine' q_sub ?_ | refine' q_lt ?_ | refine' q_le ?_ | refine' q_gt ?_ | refine' q_ge ?_ | refine' s_ifT ?_ | refine' s_ifF ?_ | refine' s_yes ?_ | refine' s_prop ?_ | refine' s_iList ?_ | refine' s_callOS ?_ | refine' s_iStr ?_ | refine' s_M0 ?_ | refine' s_make ?_ | refine' s_makeS ?_ | refine' s_ownL ?_ | refine' s_ownR ?_ | refine' s_callSD ?_ | refine' s_fld ?_ | refine' s_prop ?_ | refine' s_raise1 ?_ | refine' s_for ?_ | refine' s_rng1 ?_ | refine' s_par ?_ | refine' s_gcons ?_ | refine' s_gnil ?_ | refine' s_iList ?_ | refine' s_iEnum ?_
      | (refine' q_mod ?hm ?_; (case hm => first | omega | decide)) | (refine' q_fdiv ?hm ?hn ?_; (case hm => first | omega | decide); (case hn => first | omega | decide))
      | (refine' q_mulR ?hm ?_; (case hm => first | omega | decide)) | (refine' q_mulL ?hm ?_; (case hm => first | omega | decide))
    | dsimp only
  k_with "r_E5b" => repeat (k_extra "s_E5b")
  trivial
/-! ### Piece(..) -/
structure PieceG (K : PySem.W.Frag) (mg : Str → Option Value) (CP : Addr) : Prop where
  g : mg "Piece" = some (.ref CP)
  makes : PySem.W.makesIn K CP = true
  kp : PySem.W.keepIn K (.ref CP) = true
  init : ∃ (f : Addr) (fd : FuncData), PySem.W.findIn K (.ref CP) "__init__" = some (some (.ref f)) ∧ PySem.W.isFn K (.ref f) = true ∧ Fun K "__init__" "Piece.__init__" s_Piece___init__ f fd ∧ Binds K fd ["self", "folder", "form", "mark", "names", "ended"] []
section
variable {X : Cx} {C CP CL : Addr} {k : Nat} {p pos : Pos} {e1 e2 e3 e4 e5 : Expr} {t1 t2 t3 t4 t5 : TE}
theorem pe_piece (T : Txt X.K X.mg) (L : TxtL X.K X.mg) (N : TxtN X.K X.mg) (TS : TxtS X.K X.mg) (FC : FormC X.K X.mg C) (TK : TxtK X.K X.mg) (R : TxtR X.K X.mg) (Y : TxtC X.K X.mg) (PC : PieceC X.K X.mg CP) (PG : PieceG X.K X.mg CP) (XL : ExcF X.K X.mg "InvalidLook" "value" CL) (hr : Room k X.A) (hk : 8 ≤ k)
    (h1 : PE X e1 t1) (h2 : PE X e2 t2) (h3 : PE X e3 t3) (h4 : PE X e4 t4) (h5 : PE X e5 t5) (hg : Gl X "Piece" := by rfl)
    (s1 : starEach (e1 :: [e2, e3, e4, e5]) X.env = (false, eval e1 X.env) :: starEach [e2, e3, e4, e5] X.env := by rfl) (s2 : starEach (e2 :: [e3, e4, e5]) X.env = (false, eval e2 X.env) :: starEach [e3, e4, e5] X.env := by rfl) (s3 : starEach (e3 :: [e4, e5]) X.env = (false, eval e3 X.env) :: starEach [e4, e5] X.env := by rfl) (s4 : starEach (e4 :: [e5]) X.env = (false, eval e4 X.env) :: starEach [e5] X.env := by rfl) (s5 : starEach (e5 :: []) X.env = (false, eval e5 X.env) :: starEach [] X.env := by rfl) (s6 : (backTo pos (starEach [e2, e3, e4, e5] X.env)).any (·.1) = false := by rfl) :
    PE X (.Call (.Name "Piece" p) [e1, e2, e3, e4, e5] [] pos) (tMake CP (spPcInit X.K C CP CL) [] E0 (tCons t1 (tCons t2 (tCons t3 (tCons t4 (tCons t5 tNil)))))) := by
  obtain ⟨f, fd, i1, i2, F, b⟩ := PG.init
  exact pe_make ⟨PG.makes, i1, i2, PG.kp⟩ (ok_piece_init T L N TS FC TK R Y PC XL F) (hr.mono hk) hg PG.g b .nil passL (pa_cons h1 (pa_cons h2 (pa_cons h3 (pa_cons h4 (pa_cons h5 pa_nil s5) s4) s3) s2) s1) (by decide) s1 s6
end
theorem form_inj {C : Addr} {H : Hp} {a : Addr} {l l' : Str} {c c' : Int} (h : FormAt C H a l c) (h' : FormAt C H a l' c') : l = l' ∧ c = c' := by
  obtain ⟨d1, g1⟩ := h
  obtain ⟨d2, g2⟩ := h'
  rw [g1] at g2
  injection g2 with g2
  have g3 := (HO.ins.inj g2).2.2
  have g4 : (frm (.str l) (.int c)).lookup ("_letters" : Str) = (frm (.str l') (.int c')).lookup ("_letters" : Str) := by rw [g3]
  have g5 : (frm (.str l) (.int c)).lookup ("_chains" : Str) = (frm (.str l') (.int c')).lookup ("_chains" : Str) := by rw [g3]
  rw [frm_l, frm_l] at g4
  rw [frm_c, frm_c] at g5
  injection g4 with g4; injection g4 with g4
  injection g5 with g5; injection g5 with g5
  exact ⟨g4, g5⟩
theorem pcArgs {K : PySem.W.Frag} {C : Addr} {H : Hp} {f l : Str} {a q : Addr} {c : Int} {m : Option Str} {bs : List Str} {e : Bool} (h : PcIn C H f a l c m q bs e) : NameArg K H (.str f) ∧ FoArg K C H (.ref a) ∧ NameArg K H (mkV m) ∧ LiArg K H (.ref q) ∧ Pl K H (.bl e) "bool" :=
  ⟨nm_arg h.nf, .inl ⟨a, l, c, rfl, h.fa, h.ll, h.c1⟩, (by
    cases m with
    | none => exact ⟨_, Pl.non, fun _ e => nomatch e⟩
    | some z => exact nm_arg (h.nm z rfl)), ⟨"list", Pl.lst h.hq, fun _ _ n => absurd rfl n, fun _ => ⟨q, _, rfl, h.hq, by rw [List.length_map]; exact h.hz, fun y hy => by
      obtain ⟨z, mz, rfl⟩ := List.mem_map.mp hy
      exact nm_arg (h.nb z mz)⟩⟩, Pl.bl⟩
theorem q_piece {K : PySem.W.Frag} {C CP CL : Addr} {H : Hp} {Q : Addr → Hp → Prop} {f l : Str} {a q : Addr} {c : Int} {m : Option Str} {bs : List Str} {e : Bool} {E : XK} (h : PcIn C H f a l c m q bs e) (k : ∀ p H', H p = none → Same H H' → PcAt C CP H' p f l c m bs e → Q p H') : ∀ x dx, H x = none → H dx = none → dx ≠ x → spPcInit K C CP CL [.ref x, .str f, .ref a, mkV m, .ref q, .bl e] (upd (upd H dx (.own x)) x (.ins CP dx [])) (fun v H2 => v = .non ∧ Q x H2) E := fun x dx nx nd ne => by
  have h' := h.mono (same_made (C := CP) nx nd)
  obtain ⟨g1, g2, g3, g4, g5⟩ := pcArgs (K := K) h'
  refine ⟨x, dx, _, _, _, _, _, "bool", rfl, upd_same, g1, g2, g3, g4, g5, fun f' a' l' c' m' q' bs' e' z1 z2 z3 z4 z5 p H' n lo hi k1 k2 k3 k4 k5 B => ?_, fun no => absurd ⟨f, a, l, c, m, q, bs, e, rfl, rfl, rfl, rfl, rfl, h'⟩ no⟩
  injection z1 with z1; injection z2 with z2; injection z4 with z4; injection z5 with z5
  have z3 := mkV_inj z3
  subst z1 z2 z3 z4 z5
  have hb := p.hq
  rw [h'.hq] at hb
  injection hb with hb; injection hb with hb
  have hb := map_str_inj hb
  subst hb
  obtain ⟨w1, w2⟩ := form_inj h'.fa p.fa
  subst w1 w2
  exact ⟨rfl, k x H' nx (fun b o e => B b o (ne_of_none e nx) (same_made nx nd _ _ e)) ⟨dx, a, n, lo, hi, k1, (let ⟨dx', ea⟩ := h.fa; ⟨dx', B _ _ (ne_of_none ea nx) (same_made nx nd _ _ ea)⟩), k3, k4, k5⟩⟩
end Bt
namespace Bt
open PySem PySem.Spec PyProof.Rows L2
/-! ### try: .. except A as e: .. except B as e: .. -/
section
variable {X : Cx} {x1 x2 n : Str} {c1 c2 : Value} {i : Nat} {body su1 su2 : List Stmt} {b1 b2 : Stmt} {p1 p2 q1 q2 pos : Pos} {tb : WX → TS} {ts1 ts2 : Addr → Value → Option Addr → TS} {Wout : WX}
abbrev SuiteOk (X : Cx) (b : Stmt) (su : List Stmt) (ts : Addr → Value → Option Addr → TS) : Prop :=
  ∀ (a : Addr) (oe : Obj) (cls : Value) (d : Option Addr) (pn : List (Addr × Obj)), Zc cls d oe → (∃ vs, oe.data = .fields vs) → PSs (X.suite a ((a, oe) :: pn)) (b :: su) (ts a cls d)
theorem ps_try_as2 (hs : X.stack = X.env :: X.outer) (hf : X.env.frame = some X.env.locals) (hN : X.N.Nodup) (hi : X.N[i]? = some n) (hl : X.env.kindOf n = some .local) (nm1 : Names X x1 c1) (nm2 : Names X x2 c2) (tk : Takes X Wout)
    (hb : ∀ (W : WX) (pn : List (Addr × Obj)) (xe : Value → Shared → Prop), Takes (X.tr pn xe) W → PassesOwn (model X.prog X.w) X.A X.env xe → PSs (X.tr pn xe) body (tb W)) (s1 : SuiteOk X b1 su1 ts1) (s2 : SuiteOk X b2 su2 ts2) :
    PS X (.Try body [.ExceptHandler (some (.Name x1 p1)) (some n) (b1 :: su1) q1, .ExceptHandler (some (.Name x2 p2)) (some n) (b2 :: su2) q2] [] [] pos) (fun D σ H => tb (wAs X.K c1 i ts1 (wAs X.K c2 i ts2 Wout D) D) D σ H) := by
  refine ⟨fun pins s σ H D I h => wpAny_Try_except ?_⟩
  have okX := I.ok
  have frames : X.A.frames = some (X.env :: X.outer) := by rw [okX.frames, hs]
  have loc : Loc X.env.scope n := .inl hl
  have run := (hb (wAs X.K c1 i ts1 (wAs X.K c2 i ts2 Wout D) D) (X.pn ++ pins) (fun ev t1 => wpAny (model X.prog X.w) X.A (noteFrame ev X.env) (fun _ t2 => wpAny (model X.prog X.w) X.A (setFlight ev none) (fun _ t3 =>
    wpAny (model X.prog X.w) X.A (handleBy ev X.env [.ExceptHandler (some (.Name x1 p1)) (some n) (b1 :: su1) q1, .ExceptHandler (some (.Name x2 p2)) (some n) (b2 :: su2) q2]) (SP X pins D) X.xe t3) X.xe t2) X.xe t1) (fun u sx xx => ?caught) PassesOwn.looking).run [] s σ H D (I.toTry _) h
  case caught =>
    obtain ⟨ea, Bx, sI, _, σe, He, cls, d, rfl, Je, notb, up0, skyE, fresh, osE, barE, wish⟩ := xx
    have J0 : Inv X pins σe He sI := Je.ofTry okX
    have sky0 : Sky Bx (X.env :: X.outer) ea (Zc cls d) X.env.locals sx.heap := by rw [← hs]; exact skyE
    show wpAny (model X.prog X.w) X.A (noteFrame (.ref ea) X.env) _ _ _
    refine Sky.land Zc.steady frames hf sky0 fun h3 flight up3 => ?_
    have J3 : Inv X pins σe He { sx with heap := h3 } := J0.landed notb flight.1 (up0.trans up3) osE barE
    obtain ⟨o3, v3, at3, z3, d3⟩ := flight.there
    have out : ea ∉ frs (X.env :: X.outer) := fun hm => by
      obtain ⟨_, o', e', nf⟩ := flight.2.2.1.mem hm
      rw [at3] at e'
      cases e'
      exact nf _ d3
    have nLoc : ea ≠ X.env.locals := fun z => out (List.mem_filterMap.mpr ⟨X.env, List.mem_cons_self, by rw [hf, z]⟩)
    have nFs : ea ∉ X.fs := fun hm => by
      obtain ⟨ev, he, q⟩ := List.mem_filterMap.mp hm
      exact out (List.mem_filterMap.mpr ⟨ev, List.mem_cons_of_mem _ he, q⟩)
    have S3 := J3.suite at3 d3 fresh nLoc nFs
    have tyE : PySem.W.Looks (model X.prog X.w) h3 (typeOf (.ref ea)) cls := fun A Q E s kk q => wpAny_typeOf_ref (kk _ _ at3) (by rw [z3.1]; exact q)
    have clause : ∀ {y : Str} {c : Value} {b : Stmt} {su : List Stmt} {np qp : Pos} {ts : Addr → Value → Option Addr → TS} {W2 : WX} {rest : List ExceptHandler}, Names X y c → SuiteOk X b su ts → wAs X.K c i ts W2 D cls d σe He →
        (W2 cls d σe He → wpAny (model X.prog X.w) X.A (handleBy (.ref ea) X.env rest) (SP X pins D) X.xe { sx with heap := h3 }) →
        wpAny (model X.prog X.w) X.A (handleBy (.ref ea) X.env (.ExceptHandler (some (.Name y np)) (some n) (b :: su) qp :: rest)) (SP X pins D) X.xe { sx with heap := h3 } := by
      intro y c b su np qp ts W2 rest nm sOk w next
      obtain ⟨ans, hm, yes, no⟩ := w
      refine wpAny_handleBy_cons (codeAny_handlers_test ?_) (by intro q; cases q)
      have matches_ := PySem.W.exm_one (M := model X.prog X.w) J3.kIn tyE hm
      have name : ∀ {Q E : Value → Shared → Prop}, Q c { sx with heap := h3 } → wpAny (model X.prog X.w) (X.A.mark (some (.ref ea))) (eval (.Name y np) X.env) Q E { sx with heap := h3 } := fun {Q E} q => by
        obtain ⟨g1, g2, g3 | ⟨g3, g4, g5⟩⟩ := nm
        · exact ld_glob (X := X.suite ea ((ea, o3) :: (X.pn ++ pins))) S3 g1 g3 q g2
        · exact ld_blt (X := X.suite ea ((ea, o3) :: (X.pn ++ pins))) S3 g1 g3 g4 q g5 g2
      refine name (matches_.here ?_)
      cases ans with
      | false => exact next (no rfl)
      | true =>
        refine codeAny_handlers_suite_as (HandSPX.lands_againZ flight fun h4 fl4 up4 => ?_)
        have J4 : Inv X pins σe He { sx with heap := h4 } := J0.landed notb fl4.1 ((up0.trans up3).trans up4) osE barE
        obtain ⟨o4, v4, at4, z4, d4⟩ := fl4.there
        have S4 := J4.suite at4 d4 fresh nLoc nFs
        refine store_ok (X := X.suite ea ((ea, o4) :: (X.pn ++ pins))) (v := .ref ea) S4 hN hi loc rfl (fun s5 S5 => ?_) (.inr hl)
        refine wpAny_mono ((sOk ea o4 cls d (X.pn ++ pins) z4 ⟨_, d4⟩).run [] s5 _ He _ S5 (yes rfl ea fresh)) (fun fl s6 sp => ?_) (fun _ _ z => False.elim z)
        have leave : ∀ {σ6 : L2.St} {H6 : Hp} {Q : Shared → Prop}, Inv (X.suite ea ((ea, o4) :: (X.pn ++ pins))) [] σ6 H6 s6 → (∀ s7, Inv X pins (σ6.set i none) H6 s7 → Q s7) →
            wpAny (model X.prog X.w) X.A (do bindName X.env n .none; unbindBehindTheSuite X.env n qp) (fun _ s7 => Q s7) X.xe s6 := fun S6 q => gone_ok (S6.unsuite okX) hN hi hl q
        cases fl with
        | next => obtain ⟨σ6, H6, S6, q6⟩ := sp; exact leave S6 fun _ J7 => ⟨_, _, J7, q6⟩
        | brk => obtain ⟨σ6, H6, S6, q6⟩ := sp; exact leave S6 fun _ J7 => ⟨_, _, J7, q6⟩
        | cont => obtain ⟨σ6, H6, S6, q6⟩ := sp; exact leave S6 fun _ J7 => ⟨_, _, J7, q6⟩
        | ret u => obtain ⟨v6, σ6, H6, S6, r6, q6⟩ := sp; exact leave S6 fun _ J7 => ⟨_, _, _, J7, r6, q6⟩
    refine clause nm1 s1 wish fun wish2 => clause nm2 s2 wish2 fun last => ?_
    refine wpAny_handleBy_nil ?_
    obtain ⟨_, _, _, oz, vz, Tz, _, _, atz, zz, dz, f1, _⟩ := id flight
    unfold PySem.passOn
    refine wpAny_bind (wpAny_field atz dz f1 ?_)
    rw [if_neg (show ¬ ((Value.ref Tz == Value.none) = true) from by simp)]
    have thrown : wpAny (model X.prog X.w) X.A (setFlight (.ref ea) X.env.frame) (fun _ t4 => wpAny (model X.prog X.w) X.A (throw (.ref ea) : Sem Flow) (SP X pins D) X.xe t4) X.xe { sx with heap := h3 } := by
      rw [hf]
      refine HandSPX.setFlight_upZ flight fun h4 in4 up4 => wpAny_throw (tk _ _ ?_)
      exact ⟨ea, Bx, sI, pins, σe, He, cls, d, rfl, J0, notb, (up0.trans up3).trans up4, .inr (.inr (by rw [hs]; exact in4)), fresh, osE, barE, last⟩
    first
      | exact wpAny_bind (wpAny_pure (wpAny_bind thrown))
      | exact wpAny_bind thrown
  refine wpAny_mono run (fun fl s1 sp => ?_) fun _ _ z => z
  cases fl with
  | next => obtain ⟨σ', H', J', q⟩ := sp; exact wpAny_execs_nil ⟨σ', H', J'.ofTry okX, q⟩
  | brk => obtain ⟨σ', H', J', q⟩ := sp; exact ⟨σ', H', J'.ofTry okX, q⟩
  | cont => obtain ⟨σ', H', J', q⟩ := sp; exact ⟨σ', H', J'.ofTry okX, q⟩
  | ret u => obtain ⟨v, σ', H', J', r, q⟩ := sp; exact ⟨v, σ', H', J'.ofTry okX, r, q⟩
end
end Bt
namespace Bt
open PySem PySem.Spec PyProof.Rows L2
/-! ### == of lists and of tuples whose items are the same objects, or data -/
mutual
inductive EqV (K : PySem.W.Frag) (H : Hp) : Nat → V → V → Bool → Prop where
  | same {n : Nat} (a : Addr) : EqV K H n (.ref a) (.ref a) true
  | data {n : Nat} {x y : V} {d e : PyData} : Dp K H x d → Dp K H y e → SeqAt.shaped d = true → SeqAt.shaped e = true → EqV K H n x y (PyData.eqv d e)
  | lst {n : Nat} {a b : Addr} {xs ys : List V} {bs : List Bool} : a ≠ b → SqL K H a xs → SqL K H b ys → EqVs K H n xs ys bs → EqV K H (n + 1) (.ref a) (.ref b) (bs.all id)
inductive EqVs (K : PySem.W.Frag) (H : Hp) : Nat → List V → List V → List Bool → Prop where
  | nil {n : Nat} : EqVs K H n [] [] []
  | cons {n : Nat} {x y : V} {b : Bool} {xs ys : List V} {bs : List Bool} : EqV K H n x y b → EqVs K H n xs ys bs → EqVs K H n (x :: xs) (y :: ys) (b :: bs)
end
theorem all_range (bs : List Bool) : ((List.range bs.length).all fun j => (bs[j]?).getD true) = bs.all id := by
  rw [Bool.eq_iff_iff, List.all_eq_true, List.all_eq_true]
  constructor
  · intro h b hb
    obtain ⟨j, hj, e⟩ := List.mem_iff_getElem.mp hb
    have := h j (List.mem_range.mpr hj)
    rw [List.getElem?_eq_getElem hj, e] at this
    exact this
  · intro h j hj
    have hj := List.mem_range.mp hj
    rw [List.getElem?_eq_getElem hj]
    exact h _ (List.getElem_mem hj)
section
variable {X : Cx} {pins : List (Addr × Obj)} {σ : L2.St} {H : Hp} {s : Shared}
mutual
theorem eqV_at (I : Inv X pins σ H s) : ∀ (n : Nat) (x y : V) (b : Bool), EqV X.K H n x y b → ∀ (A : Around), A.units + n + 64 < cLine → ∀ (u v : Value), RelV x u → RelV y v → SeqAt.EqAt A s u v b
  | _, _, _, _, .same a, A, hu, u, v, rx, ry => by
    obtain rfl : u = Value.ref a := rx
    obtain rfl : v = Value.ref a := ry
    exact SeqAt.EqAt.same _
  | _, _, _, _, .data hd he sd se, A, hu, u, v, rx, ry => by
    obtain ⟨as, r1⟩ := Dp.reads I _ _ u hd rx
    obtain ⟨bs, r2⟩ := Dp.reads I _ _ v he ry
    exact SeqAt.eqAt_reads _ _ A s u v as bs r1 r2 (SeqAt.canLay_of_shaped sd) (SeqAt.canLay_of_shaped se) (SeqAt.room_of_shaped sd (by omega))
  | _, _, _, _, @EqV.lst _ _ n a b xs ys bs ne h1 h2 h3, A, hu, u, v, rx, ry => by
    obtain rfl : u = Value.ref a := rx
    obtain rfl : v = Value.ref b := ry
    obtain ⟨us, r1, p1, _⟩ := I.list h1
    obtain ⟨vs, r2, p2, _⟩ := I.list h2
    have hi : A.in1.units + n + 64 < cLine := by show A.units + 1 + n + 64 < cLine; omega
    obtain ⟨l1, l2, k⟩ := eqVs_at I _ _ _ _ h3 _ hi _ _ r1 r2
    have e : bs.all id = (List.range us.toArray.size).all fun j => (bs[j]?).getD true := by rw [List.size_toArray, l1, all_range]
    rw [e]
    refine SeqAt.EqAt.of_refs ne (SeqAt.RcAt.lists (items := us.toArray) (items2 := vs.toArray) ?_ ?_ (by simp [l1, l2]) (by omega) (fun j j1 j2 => ?_))
    · obtain ⟨o, n, ho, hc, _, hd⟩ := p1
      exact ⟨o, ho, hc, n, hd⟩
    · obtain ⟨o, n, ho, hc, _, hd⟩ := p2
      exact ⟨o, ho, hc, n, hd⟩
    · simpa using k j (by simpa using j1) (by simpa using j2)
theorem eqVs_at (I : Inv X pins σ H s) : ∀ (n : Nat) (xs ys : List V) (bs : List Bool), EqVs X.K H n xs ys bs → ∀ (A : Around), A.units + n + 64 < cLine → ∀ (us vs : List Value), Vals xs us → Vals ys vs → us.length = bs.length ∧ vs.length = bs.length ∧
    ∀ j (h1 : j < us.length) (h2 : j < vs.length), SeqAt.EqAt A s us[j] vs[j] ((bs[j]?).getD true)
  | _, _, _, _, .nil, A, hu, us, vs, r1, r2 => by
    cases r1
    cases r2
    exact ⟨rfl, rfl, fun j h1 _ => absurd h1 (Nat.not_lt_zero _)⟩
  | _, _, _, _, .cons h hs, A, hu, us, vs, r1, r2 => by
    cases r1 with
    | cons ra r1 =>
      cases r2 with
      | cons rb r2 =>
        obtain ⟨l1, l2, k⟩ := eqVs_at I _ _ _ _ hs _ hu _ _ r1 r2
        refine ⟨by simp [l1], by simp [l2], fun j h1 h2 => ?_⟩
        cases j with
        | zero => exact eqV_at I _ _ _ _ h _ hu _ _ ra rb
        | succ j => simpa using k j (by simpa using h1) (by simpa using h2)
end
end
def rEqI (K : PySem.W.Frag) (n : Nat) : R2 := fun x y H Q => ∃ a b xs ys bs, x = .ref a ∧ y = .ref b ∧ ((SqL K H a xs ∧ SqL K H b ys) ∨ (SqT K H a xs ∧ SqT K H b ys)) ∧ EqVs K H n xs ys bs ∧ Q (.bl (bs.all id)) H
def rNeI (K : PySem.W.Frag) (n : Nat) : R2 := fun x y H Q => ∃ a b xs ys bs, x = .ref a ∧ y = .ref b ∧ ((SqL K H a xs ∧ SqL K H b ys) ∨ (SqT K H a xs ∧ SqT K H b ys)) ∧ EqVs K H n xs ys bs ∧ Q (.bl (!bs.all id)) H
theorem op_eqI {X : Cx} {n : Nat} (hu : X.A.units + n + 65 < cLine) : OpR X (compareOp .Eq) (rEqI X.K n) := by
  intro pins s σ H x y v u Q I rx ry h
  obtain ⟨a, b, xs, ys, bs, rfl, rfl, hs, he, q⟩ := h
  obtain rfl : v = Value.ref a := rx
  obtain rfl : u = Value.ref b := ry
  have hi : X.A.in1.units + n + 64 < cLine := by show X.A.units + 1 + n + 64 < cLine; omega
  rcases hs with ⟨h1, h2⟩ | ⟨h1, h2⟩
  · obtain ⟨us, r1, p1, _⟩ := I.list h1
    obtain ⟨vs, r2, p2, _⟩ := I.list h2
    obtain ⟨l1, l2, k⟩ := eqVs_at I _ _ _ _ he _ hi _ _ r1 r2
    refine SeqAt.eq_listAt (items := us.toArray) (items2 := vs.toArray) (e := fun j => (bs[j]?).getD true) ?_ ?_ (by simp [l1, l2]) (by omega) (fun j j1 j2 => ?_) ⟨.bl _, H, I, rfl, ?_⟩
    · obtain ⟨o, n, ho, hc, _, hd⟩ := p1
      exact ⟨o, ho, hc, n, hd⟩
    · obtain ⟨o, n, ho, hc, _, hd⟩ := p2
      exact ⟨o, ho, hc, n, hd⟩
    · simpa using k j (by simpa using j1) (by simpa using j2)
    · rw [List.size_toArray, l1, all_range]
      exact q
  · obtain ⟨us, r1, p1, _⟩ := I.tuple h1
    obtain ⟨vs, r2, p2, _⟩ := I.tuple h2
    obtain ⟨l1, l2, k⟩ := eqVs_at I _ _ _ _ he _ hi _ _ r1 r2
    refine SeqAt.eq_tupleAt (items := us.toArray) (items2 := vs.toArray) (e := fun j => (bs[j]?).getD true) ?_ ?_ (by omega) (fun j j1 j2 => ?_) ⟨.bl _, H, I, rfl, ?_⟩
    · obtain ⟨o, ho, hc, n, hd⟩ := p1
      exact ⟨o, ho, hc, n, hd⟩
    · obtain ⟨o, ho, hc, n, hd⟩ := p2
      exact ⟨o, ho, hc, n, hd⟩
    · simpa using k j (by simpa using j1) (by simpa using j2)
    · rw [List.size_toArray, List.size_toArray, l1, l2, Nat.min_self, all_range, beq_self_eq_true, Bool.and_true]
      exact q
theorem op_neI {X : Cx} {n : Nat} (hu : X.A.units + n + 65 < cLine) : OpR X (compareOp .NotEq) (rNeI X.K n) := by
  intro pins s σ H x y v u Q I rx ry h
  obtain ⟨a, b, xs, ys, bs, rfl, rfl, hs, he, q⟩ := h
  obtain rfl : v = Value.ref a := rx
  obtain rfl : u = Value.ref b := ry
  have hi : X.A.in1.units + n + 64 < cLine := by show X.A.units + 1 + n + 64 < cLine; omega
  show wpAny (model X.prog X.w) X.A (richCompare .NotEq (.ref a) (.ref b)) (EP X pins σ Q) X.xe s
  rcases hs with ⟨h1, h2⟩ | ⟨h1, h2⟩
  · obtain ⟨us, r1, p1, _⟩ := I.list h1
    obtain ⟨vs, r2, p2, _⟩ := I.list h2
    obtain ⟨l1, l2, k⟩ := eqVs_at I _ _ _ _ he _ hi _ _ r1 r2
    refine SeqAt.RcNeAt.lists (items := us.toArray) (items2 := vs.toArray) (e := fun j => (bs[j]?).getD true) ?_ ?_ (by simp [l1, l2]) (by omega) (fun j j1 j2 => ?_) X.prog X.w X.xe _ ⟨.bl _, H, I, rfl, ?_⟩
    · obtain ⟨o, n, ho, hc, _, hd⟩ := p1
      exact ⟨o, ho, hc, n, hd⟩
    · obtain ⟨o, n, ho, hc, _, hd⟩ := p2
      exact ⟨o, ho, hc, n, hd⟩
    · simpa using k j (by simpa using j1) (by simpa using j2)
    · rw [List.size_toArray, l1, all_range]
      exact q
  · obtain ⟨us, r1, p1, _⟩ := I.tuple h1
    obtain ⟨vs, r2, p2, _⟩ := I.tuple h2
    obtain ⟨l1, l2, k⟩ := eqVs_at I _ _ _ _ he _ hi _ _ r1 r2
    refine SeqAt.RcNeAt.tuples (items := us.toArray) (items2 := vs.toArray) (e := fun j => (bs[j]?).getD true) ?_ ?_ (by omega) (fun j j1 j2 => ?_) X.prog X.w X.xe _ ⟨.bl _, H, I, rfl, ?_⟩
    · obtain ⟨o, ho, hc, n, hd⟩ := p1
      exact ⟨o, ho, hc, n, hd⟩
    · obtain ⟨o, ho, hc, n, hd⟩ := p2
      exact ⟨o, ho, hc, n, hd⟩
    · simpa using k j (by simpa using j1) (by simpa using j2)
    · rw [List.size_toArray, List.size_toArray, l1, l2, Nat.min_self, all_range, beq_self_eq_true, Bool.and_true]
      exact q
end Bt
namespace Bt
open PySem PySem.Spec PyProof.Rows L2 LamX NdefX
open PySem.W (dataLt dataLe alike AllAlike Sortable)
theorem s_meth {C : Addr} {m : Str} {sp : Sp} {dvs : List V} {E : XK} {ta : TE} {t : TA} {σ : L2.St} {H : Hp} {Q : VK} (h : ta σ H fun x H1 => ∃ a dx fs, x = .ref a ∧ H1 a = some (.ins C dx fs) ∧ fs.lookup m = none ∧ t σ H1 fun vs H2 => sp (x :: (vs ++ dvs)) H2 Q E) : tMeth C m sp dvs E ta t σ H Q := h
theorem words46_ : True := by
  k_with "s_F5" => first
    | ((with_reducible refine' s_var ?hv ?_); (case hv => exact rfl))
    | with_reducible first
      | refine' s_c ?_ | refine' s_op ?_ | refine' s_asg ?_ | refine' s_gname ?_ | refine' s_seq ?_ | refine' s_next ?_ | refine' s_ret ?_ | refine' s_ifS ?_ | refine' s_drop ?_ | refine' s_retN ?_
      | refine' s_test ?_ | refine' s_B ?_ | refine' q_test ?_ | refine' s_int ?_ | refine' s_cons ?_ | refine' s_nil ?_ | refine' s_call ?_ | refine' s_CB ?_ | refine' s_andT ?_ | refine' s_orT ?_ | refine' s_notT ?_
      | refine' s_andV ?_ | refine' s_orV ?_ | refine' s_notV ?_ | refine' s_ifV ?_ | refine' s_chain ?_ | refine' s_sl ?_ | refine' s_noPart ?_ | refine' s_part ?_ | refine' s_gsub ?_ | refine' s_BM ?_ | refine' s_tup ?_ | refine' s_lst ?_
      | refine' q_add ?_ | refine' q_sub ?_ | refine' q_lt ?_ | refine' q_le ?_ | refine' q_gt ?_ | refine' q_ge ?_ | refine' s_ifT ?_ | refine' s_ifF ?_ | refine' s_yes ?_ | refine' s_prop ?_ | refine' s_iList ?_ | refine' s_callOS ?_ | refine' s_iStr ?_ | refine' s_M0 ?_ | refine' s_make ?_ | refine' s_makeS ?_ | refine' s_ownL ?_ | refine' s_ownR ?_ | refine' s_callSD ?_ | refine' s_fld ?_ | refine' s_prop ?_ | refine' s_meth ?_ | refine' s_raise1 ?_ | refine' s_for ?_ | refine' s_rng1 ?_ | refine' s_par ?_ | refine' s_gcons ?_ | refine' s_gnil ?_ | refine' s_iList ?_ | refine' s_iEnum ?_
      | (refine' q_mod ?hm ?_; (case hm => first | omega | decide)) | (refine' q_fdiv ?hm ?hn ?_; (case hm => first | omega | decide); (case hn => first | omega | decide))
      | (refine' q_mulR ?hm ?_; (case hm => first | omega | decide)) | (refine' q_mulL ?hm ?_; (case hm => first | omega | decide))
    | dsimp only
  k_with "r_F5" => repeat (k_extra "s_F5")
  trivial
/-! ### refused pieces -/
section
variable {X : Cx} {C CP CL : Addr} {k : Nat} {p pos : Pos} {e1 e2 e3 e4 e5 : Expr} {t1 t2 t3 t4 t5 : TE} {W : WX}
theorem pe_pieceS (T : Txt X.K X.mg) (L : TxtL X.K X.mg) (N : TxtN X.K X.mg) (TS : TxtS X.K X.mg) (FC : FormC X.K X.mg C) (TK : TxtK X.K X.mg) (R : TxtR X.K X.mg) (Y : TxtC X.K X.mg) (PC : PieceC X.K X.mg CP) (PG : PieceG X.K X.mg CP) (XL : ExcF X.K X.mg "InvalidLook" "value" CL) (hr : Room k X.A) (hk : 8 ≤ k) (tk : Takes X W)
    (h1 : PE X e1 t1) (h2 : PE X e2 t2) (h3 : PE X e3 t3) (h4 : PE X e4 t4) (h5 : PE X e5 t5) (hg : Gl X "Piece" := by rfl)
    (s1 : starEach (e1 :: [e2, e3, e4, e5]) X.env = (false, eval e1 X.env) :: starEach [e2, e3, e4, e5] X.env := by rfl) (s2 : starEach (e2 :: [e3, e4, e5]) X.env = (false, eval e2 X.env) :: starEach [e3, e4, e5] X.env := by rfl) (s3 : starEach (e3 :: [e4, e5]) X.env = (false, eval e3 X.env) :: starEach [e4, e5] X.env := by rfl) (s4 : starEach (e4 :: [e5]) X.env = (false, eval e4 X.env) :: starEach [e5] X.env := by rfl) (s5 : starEach (e5 :: []) X.env = (false, eval e5 X.env) :: starEach [] X.env := by rfl) (s6 : (backTo pos (starEach [e2, e3, e4, e5] X.env)).any (·.1) = false := by rfl) :
    PE X (.Call (.Name "Piece" p) [e1, e2, e3, e4, e5] [] pos) (tMakeS CP (spPcInit X.K C CP CL) [] (fun σ => WE W σ) (tCons t1 (tCons t2 (tCons t3 (tCons t4 (tCons t5 tNil)))))) := by
  obtain ⟨f, fd, i1, i2, F, b⟩ := PG.init
  exact pe_makeS ⟨PG.makes, i1, i2, PG.kp⟩ (ok_piece_init T L N TS FC TK R Y PC XL F) (hr.mono hk) hg PG.g b .nil (fun σ => passAt tk σ) (pa_cons h1 (pa_cons h2 (pa_cons h3 (pa_cons h4 (pa_cons h5 pa_nil s5) s4) s3) s2) s1) (by decide) s1 s6
end
theorem room66 {k : Nat} {A : Around} (r : Room k A) : A.units + 1 + 65 < cLine := by have := r.un; omega
def SelfV (K : PySem.W.Frag) (H : Hp) (x : V) : Prop := EqV K H 0 x x true
theorem SelfV.ref {K : PySem.W.Frag} {H : Hp} (a : Addr) : SelfV K H (.ref a) := .same a
theorem SelfV.str {K : PySem.W.Frag} {H : Hp} {z : Str} (h : PyData.strOk z = true) : SelfV K H (.str z) := by
  have sh : SeqAt.shaped (.str z) = true := by unfold SeqAt.shaped; simp [PyData.canLay0, PyData.depth, h]
  have := EqV.data (K := K) (H := H) (n := 0) (.str z) (.str z) sh sh
  rw [SeqAt.eqv_refl _ (SeqAt.canLay_of_shaped sh)] at this
  exact this
theorem SelfV.non {K : PySem.W.Frag} {H : Hp} : SelfV K H .non := by
  have sh : SeqAt.shaped .none = true := by decide
  have := EqV.data (K := K) (H := H) (n := 0) .non .non sh sh
  rw [SeqAt.eqv_refl _ (SeqAt.canLay_of_shaped sh)] at this
  exact this
theorem SelfV.bl {K : PySem.W.Frag} {H : Hp} {b : Bool} : SelfV K H (.bl b) := by
  have sh : SeqAt.shaped (.bool b) = true := by cases b <;> decide
  have := EqV.data (K := K) (H := H) (n := 0) (.bl b) (.bl b) sh sh
  rw [SeqAt.eqv_refl _ (SeqAt.canLay_of_shaped sh)] at this
  exact this
theorem SelfV.int {K : PySem.W.Frag} {H : Hp} {i : Int} : SelfV K H (.int i) := by
  have sh : SeqAt.shaped (.int i) = true := by unfold SeqAt.shaped; simp [PyData.canLay0, PyData.depth]
  have := EqV.data (K := K) (H := H) (n := 0) (.int i) (.int i) sh sh
  rw [SeqAt.eqv_refl _ (SeqAt.canLay_of_shaped sh)] at this
  exact this
mutual
theorem EqV.up {K : PySem.W.Frag} {H H' : Hp} (S : Same H H') : ∀ (n : Nat) (x y : V) (b : Bool), EqV K H n x y b → ∀ m, n ≤ m → EqV K H' m x y b
  | _, _, _, _, .same a, _, _ => .same a
  | _, _, _, _, .data h1 h2 h3 h4, _, _ => .data (Dp.mono S h1) (Dp.mono S h2) h3 h4
  | _, _, _, _, .lst ne h1 h2 h3, m, hm => by
    obtain ⟨m', rfl⟩ : ∃ m', m = m' + 1 := ⟨m - 1, by omega⟩
    exact .lst ne (SqL_monoN (ext_same S) h1) (SqL_monoN (ext_same S) h2) (EqVs.up S _ _ _ _ h3 m' (by omega))
theorem EqVs.up {K : PySem.W.Frag} {H H' : Hp} (S : Same H H') : ∀ (n : Nat) (xs ys : List V) (bs : List Bool), EqVs K H n xs ys bs → ∀ m, n ≤ m → EqVs K H' m xs ys bs
  | _, _, _, _, .nil, _, _ => .nil
  | _, _, _, _, .cons h hs, m, hm => .cons (EqV.up S _ _ _ _ h m hm) (EqVs.up S _ _ _ _ hs m hm)
end
theorem SelfV.mono {K : PySem.W.Frag} {H H' : Hp} {x : V} (S : Same H H') (h : SelfV K H x) : SelfV K H' x := EqV.up S _ _ _ _ h 0 (Nat.le_refl _)
theorem dp_any {K : PySem.W.Frag} {H H' : Hp} {x : V} {d : PyData} (n : ∀ a, x ≠ .ref a) (h : Dp K H x d) : Dp K H' x d := by
  cases h with
  | non => exact .non
  | bl b => exact .bl b
  | int i => exact .int i
  | str z => exact .str z
  | lst h _ => exact absurd rfl (n _)
  | tup h _ => exact absurd rfl (n _)
theorem SelfV.any {K : PySem.W.Frag} {H H' : Hp} {x : V} (h : SelfV K H x) : SelfV K H' x := by
  have key : ∀ (n : Nat) (y z : V) (b : Bool), EqV K H n y z b → n = 0 → y = x → z = x → b = true → SelfV K H' x := fun n y z b h e0 e1 e2 e3 => by
    by_cases r : ∃ a, x = .ref a
    · obtain ⟨a, rfl⟩ := r
      exact .same a
    · cases h with
      | same a => exact absurd ⟨a, e1.symm⟩ r
      | data hd he sd se =>
        subst e1
        have := EqV.data (K := K) (H := H') (n := 0) (dp_any (fun a e => r ⟨a, e⟩) hd) (dp_any (fun a e => r ⟨a, e2.symm ▸ e⟩) he) sd se
        rw [e3] at this
        subst e2
        exact this
      | lst _ _ _ _ => exact absurd e0 (by omega)
  exact key 0 x x true h rfl rfl rfl rfl
theorem selfs {K : PySem.W.Frag} {H : Hp} {n : Nat} : ∀ {xs : List V}, (∀ x ∈ xs, SelfV K H x) → EqVs K H n xs xs (xs.map fun _ => true)
  | [], _ => .nil
  | x :: xs, h => .cons (EqV.up (Same.refl H) _ _ _ _ (h x List.mem_cons_self) n (Nat.zero_le n)) (selfs fun y hy => h y (List.mem_cons_of_mem _ hy))
theorem all_trues (xs : List V) : (xs.map fun _ => true).all id = true := by
  rw [List.all_map, List.all_eq_true]
  exact fun _ _ => rfl
/-- what is given for the names, to be compared with itself -/
inductive SelfN (K : PySem.W.Frag) (H : Hp) : V → String → Prop where
  | lst {q : Addr} {ys : List V} {T : String} : T = "list" → H q = some (.lst ys) → (∀ y ∈ ys, SelfV K H y) → SelfN K H (.ref q) T
  | tup {q : Addr} {ys : List V} {T : String} : T = "tuple" → H q = some (.tup ys) → (∀ y ∈ ys, SelfV K H y) → SelfN K H (.ref q) T
  | dct {q : Addr} {T : String} : T = "dict" → H q = some (.dK []) → SelfN K H (.ref q) T
  | flat {x : V} {T : String} : scal x x = true → T ≠ "list" → SelfV K H x → SelfN K H x T
def rEqX (K : PySem.W.Frag) : R2 := fun x y H Q => rEq x y H Q ∨ (rEqI K 1 x y H Q ∨ rEqDA x y H Q)
theorem op_eqX {X : Cx} {k : Nat} (hr : Room k X.A) : OpR X (compareOp .Eq) (rEqX X.K) := OpR.or op_eq (OpR.or (op_eqI (room66 hr)) (op_eq_dictA hr.units0))
theorem q_eqXself {K : PySem.W.Frag} {H : Hp} {Q : VK} {x : V} {T : String} (h : SelfN K H x T) (q : Q (.bl true) H) : rEqX K x x H Q := by
  cases h with
  | lst _ hq hs => exact .inr (.inl ⟨_, _, _, _, _, rfl, rfl, .inl ⟨SqL.of hq, SqL.of hq⟩, selfs hs, by rw [all_trues]; exact q⟩)
  | tup _ hq hs => exact .inr (.inl ⟨_, _, _, _, _, rfl, rfl, .inr ⟨SqT.of hq, SqT.of hq⟩, selfs hs, by rw [all_trues]; exact q⟩)
  | dct _ hq => exact .inr (.inr ⟨_, _, [], [], rfl, rfl, hq, hq, rfl, (fun p hp => absurd hp List.not_mem_nil), q⟩)
  | flat hs _ _ => exact .inl ⟨hs, by rw [decide_eq_true rfl]; exact q⟩
structure TxtF5 (K : PySem.W.Frag) (mg : Str → Option Value) : Prop where
  d__law_refused : Df K mg "_law_refused" s__law_refused ["_law_parts"]
section
variable {P : Program} {w : World} {K : PySem.W.Frag} {mg : Str → Option Value} {base : Heap} {C CP CL : Addr}
/-- five values that make no piece, with what the law asks of them -/
structure BadP (K : PySem.W.Frag) (C : Addr) (H : Hp) (xf xa xm xn xe : V) (Tn Te : String) : Prop where
  hf : NameArg K H xf
  ha : FoArg K C H xa
  hm : NameArg K H xm
  hn : LiArg K H xn
  hE : Pl K H xe Te
  tn : Pl K H xn Tn
  sn : SelfN K H xn Tn
  sf : SelfV K H xf
  sa : SelfV K H xa
  sm : SelfV K H xm
  se : SelfV K H xe
  ex : ∀ a, xa = .ref a → ∃ o, H a = some o
  no : ¬ PcOk C H xf xa xm xn xe
theorem FoArg.mono' {H H' : Hp} {x : V} (S : Same H H') (h : FoArg K C H x) (hn : ∀ a, x = .ref a → ∃ o, H a = some o) : FoArg K C H' x := h.mono S hn
theorem SelfN.mono {H H' : Hp} {x : V} {T : String} (S : Same H H') (h : SelfN K H x T) : SelfN K H' x T := by
  cases h with
  | lst e hq hs => exact .lst e (S _ _ hq) fun y hy => (hs y hy).mono S
  | tup e hq hs => exact .tup e (S _ _ hq) fun y hy => (hs y hy).mono S
  | dct e hq => exact .dct e (S _ _ hq)
  | flat h1 h2 h3 => exact .flat h1 h2 (h3.mono S)
section
variable {H H' : Hp} {xf xa xm xn xe : V} {Tn Te : String}
theorem BadP.obj (bp : BadP K C H xf xa xm xn xe Tn Te) : ∀ q, xn = .ref q → ∃ o, H q = some o := fun q e => by
  subst e
  cases bp.sn with
  | lst _ hq _ => exact ⟨_, hq⟩
  | tup _ hq _ => exact ⟨_, hq⟩
  | dct _ hq => exact ⟨_, hq⟩
  | flat h1 _ _ => exact nomatch h1
theorem BadP.pc (bp : BadP K C H xf xa xm xn xe Tn Te) (S : Same H H') : PcOk C H' xf xa xm xn xe → PcOk C H xf xa xm xn xe := fun ⟨f, a, l, c, m, q, bs, e, z1, z2, z3, z4, z5, p⟩ => by
  obtain ⟨o, eo⟩ := bp.obj q z4
  have hq : H q = some (.lst (bs.map V.str)) := by
    have := S _ _ eo
    rw [p.hq] at this
    rw [eo, this]
  obtain ⟨o2, eo2⟩ := bp.ex a z2
  have fa : FormAt C H a l c := by
    obtain ⟨dx, g⟩ := p.fa
    have := S _ _ eo2
    rw [g] at this
    exact ⟨dx, by rw [eo2, this]⟩
  exact ⟨f, a, l, c, m, q, bs, e, z1, z2, z3, z4, z5, ⟨p.nf, fa, p.ll, p.c1, p.nm, hq, p.hz, p.nb, p.ri, p.ne⟩⟩
theorem NameArg.mono' {y : V} (h : NameArg K H y) (S : Same H H') : NameArg K H' y := h.mono S
theorem LiArg.mono {x : V} (S : Same H H') (hx : ∀ q, x = .ref q → ∃ o, H q = some o) : LiArg K H x → LiArg K H' x := fun ⟨T, h1, h2, h3⟩ => ⟨T, h1.mono S, fun a e n ys z => by
  obtain ⟨o, eo⟩ := hx a e
  have := S _ _ eo
  rw [z] at this
  exact h2 a e n ys (by rw [eo, this]), fun e => let ⟨q, ys, g1, g2, g3, g4⟩ := h3 e; ⟨q, ys, g1, S _ _ g2, g3, fun y hy => (g4 y hy).mono S⟩⟩
theorem BadP.mono (bp : BadP K C H xf xa xm xn xe Tn Te) (S : Same H H') : BadP K C H' xf xa xm xn xe Tn Te :=
  ⟨bp.hf.mono S, bp.ha.mono S bp.ex, bp.hm.mono S, bp.hn.mono S bp.obj, bp.hE.mono S, bp.tn.mono S, bp.sn.mono S, bp.sf.mono S, bp.sa.mono S, bp.sm.mono S, bp.se.mono S, fun a e => let ⟨o, eo⟩ := bp.ex a e; ⟨o, S _ _ eo⟩, fun p => bp.no (bp.pc S p)⟩
theorem BadP.copy {q g : Addr} {ys : List V} (bp : BadP K C H xf xa xm (.ref q) xe "list" Te) (S : Same H H') (hq : H q = some (.lst ys)) (hg : H' g = some (.lst ys)) : BadP K C H' xf xa xm (.ref g) xe "list" Te := by
  have b := bp.mono S
  have hs : ∀ y ∈ ys, SelfV K H' y := by
    cases b.sn with
    | tup e _ _ => exact absurd e (by decide)
    | dct e _ => exact absurd e (by decide)
    | @lst _ zs _ e h hs =>
      rw [S _ _ hq] at h
      injection h with h; injection h with h
      subst h
      exact hs
    | flat h1 _ _ => exact nomatch h1
  have hl : ys.length ≤ 100 ∧ ∀ y ∈ ys, NameArg K H' y := by
    obtain ⟨T, h1, h2, h3⟩ := b.hn
    by_cases e : T = "list"
    · obtain ⟨q', zs, g1, g2, g3, g4⟩ := h3 e
      injection g1 with g1
      subst g1
      rw [S _ _ hq] at g2
      injection g2 with g2; injection g2 with g2
      subst g2
      exact ⟨g3, g4⟩
    · exact absurd (S _ _ hq) (h2 q rfl e ys)
  refine ⟨b.hf, b.ha, b.hm, ⟨"list", Pl.lst hg, fun _ _ n => absurd rfl n, fun _ => ⟨g, ys, rfl, hg, hl.1, hl.2⟩⟩, b.hE, Pl.lst hg, .lst rfl hg hs, b.sf, b.sa, b.sm, b.se, b.ex, fun ⟨f, a, l, c, m, q', bs, e, z1, z2, z3, z4, z5, p⟩ => b.no ⟨f, a, l, c, m, q, bs, e, z1, z2, z3, rfl, z5, ⟨p.nf, p.fa, p.ll, p.c1, p.nm, ?_, p.hz, p.nb, p.ri, p.ne⟩⟩⟩
  injection z4 with z4
  subst z4
  have := p.hq
  rw [hg] at this
  rw [S _ _ hq, this]
end
theorem q_pieceX {H : Hp} {Q : Addr → Hp → Prop} {E : XK} {xf xa xm xn xe : V} {Tn Te : String} (b : BadP K C H xf xa xm xn xe Tn Te) (k : ∀ H' t d, Same H H' → H t = none → H d = none → H' d = some (.xd [("value", .ref t)]) → H' t = some (.tup [xf, xa, xm, xn, xe]) → E (.ref CL) (some d) H') :
    ∀ x dx, H x = none → H dx = none → dx ≠ x → spPcInit K C CP CL [.ref x, xf, xa, xm, xn, xe] (upd (upd H dx (.own x)) x (.ins CP dx [])) (fun v H2 => v = .non ∧ Q x H2) E := fun x dx nx nd ne => by
  have S : Same H (upd (upd H dx (.own x)) x (.ins CP dx [])) := same_made nx nd
  have b' := b.mono S
  refine ⟨x, dx, xf, xa, xm, xn, xe, Te, rfl, upd_same, b'.hf, b'.ha, b'.hm, b'.hn, b'.hE, fun f a l c m q bs e z1 z2 z3 z4 z5 p => absurd ⟨f, a, l, c, m, q, bs, e, z1, z2, z3, z4, z5, p⟩ b'.no, fun _ H' t d S' nt nd' hd ht => k H' t d (S.trans S') (S.free nt) (S.free nd') hd ht⟩
theorem SelfN.self {H : Hp} {x : V} {T : String} (h : SelfN K H x T) (n : T ≠ "list") : SelfV K H x := by
  cases h with
  | lst e _ _ => exact absurd e n
  | tup _ _ _ => exact .same _
  | dct _ _ => exact .same _
  | flat _ _ h => exact h
def spRefused (K : PySem.W.Frag) (C : Addr) : Sp := fun vs H Q _ => ∃ t xf xa xm xn xe Tn Te, vs = [.ref t] ∧ H t = some (.lst [xf, xa, xm, xn, xe]) ∧ BadP K C H xf xa xm xn xe Tn Te ∧ ∀ H', Same H H' → Q (.bl true) H'
theorem ok__law_refused (T : Txt K mg) (L : TxtL K mg) (N : TxtN K mg) (TS : TxtS K mg) (FC : FormC K mg C) (TK : TxtK K mg) (R : TxtR K mg) (Y : TxtC K mg) (PC : PieceC K mg CP) (PG : PieceG K mg CP) (XL : ExcF K mg "InvalidLook" "value" CL) (M : TxtF5 K mg) : Cal P w K mg base 9 "_law_refused" (spRefused K C) := by
  refine M.d__law_refused.cal sc__law_refused (fun vs H Q E h => ?_) (fun f cdv A outer s H vs Q E hr h => ?_)
  · obtain ⟨t, xf, xa, xm, xn, xe, Tn, Te, rfl, _⟩ := h
    rfl
  · obtain ⟨t, xf, xa, xm, xn, xe, Tn, Te, rfl, ht, bp, k⟩ := h
    have hu := hr.units
    refine ⟨_, (pss_cons (ps_par (i := 1) (j := 2) rfl sc__law_refused.nd rfl rfl (by decide) rfl rfl (pa_cons (pe_ix ix_seq (pv 0) pe_int (fun _ _ => rfl)) (pa_cons pe_non pa_nil)) rfl)
      (C8.pss_cut (ps_if (pt_val (pe_callB call_isi (by rfl) T.n_isinstance (by decide +kernel) (pa_cons (pv 1) (pa_cons (pe_bltn (v := .ty "list") (by rfl) TS.n_list (by decide +kernel) rfl) pa_nil)))) (pss_one (ps_set (i := 1) sc__law_refused.nd rfl (.inl rfl) (pe_callTy call_listOf (by rfl) TS.n_list (by decide +kernel) (pa_cons (pv 1) pa_nil)))) pss_nil)
      (pss_cons (ps_try_as (i := 3) (tb := fun W => tDrop (tMakeS CP (spPcInit K C CP CL) [] (fun σ => WE W σ) (tCons (tOp (rIx K) (tVar 0) (tC (.int 0))) (tCons (tOp (rIx K) (tVar 0) (tC (.int 1))) (tCons (tOp (rIx K) (tVar 0) (tC (.int 2))) (tCons (tVar 1) (tCons (tOp (rIx K) (tVar 0) (tC (.int 4))) tNil))))))) (ts := fun a cls d => tAsg (tXf a cls d CL "value" (tVar 3)) (gName 2)) (Wout := fun _ _ _ _ => False) rfl rfl sc__law_refused.nd rfl rfl ⟨rfl, by decide, Or.inl XL.g⟩ L2.takes0
        (fun W pn xe tk _ => pss_one (ps_expr (by exact (pe_pieceS T L N TS FC TK R Y PC PG XL hr (by decide) tk (pe_ix ix_seq (pv 0) pe_int (fun _ _ => rfl)) (pe_ix ix_seq (pv 0) pe_int (fun _ _ => rfl)) (pe_ix ix_seq (pv 0) pe_int (fun _ _ => rfl)) (pv 1) (pe_ix ix_seq (pv 0) pe_int (fun _ _ => rfl))))))
        (fun a oe cls d pn hz hf => pss_one (ps_set (i := 2) sc__law_refused.nd rfl (Or.inl rfl) (by exact (pe_xf XL.xf XL.no hz hf (pv 3))))))
      (pss_cons (ps_if (PW.pt (pw_or (pt_not (pt_val (pe_callB call_isi (by rfl) T.n_isinstance (by decide +kernel) (pa_cons (pv 2) (pa_cons (pe_bltn (v := .ty "tuple") (by rfl) T.n_tuple (by decide +kernel) rfl) pa_nil))))) (pw_or1 (pt_cmpR (op_neI (n := 1) (room66 hr)) (pe_callTy call_listOf (by rfl) TS.n_list (by decide +kernel) (pa_cons (pv 2) pa_nil)) (pv 0) (by rfl))))) (pss_one (ps_ret pe_bl)) pss_nil)
      (C8.pss_cut (ps_if (pt_val (pe_callB call_isi (by rfl) T.n_isinstance (by decide +kernel) (pa_cons (pv 1) (pa_cons (pe_bltn (v := .ty "list") (by rfl) TS.n_list (by decide +kernel) rfl) pa_nil)))) (pss_one (ps_expr (pe_bm PySem.F.plainAttrs_list PySem.F.slot_list_append PySem.F.type_list_append mt_append (pv 1) (pa_cons pe_str pa_nil)))) pss_nil)
      (pss_one (ps_ret (pe_cmpR (op_eqX hr) (pe_ix ix_seq (pv 2) pe_int (fun _ _ => rfl)) (pv 1) (by rfl))))))))), ?_⟩
    k_extra "r_F5"
    refine q_ixL (SqL.of ht) (at_of (j := 3) rfl rfl) ?_
    k_extra "r_F5"
    refine ⟨_, _, rfl, ?_⟩
    refine ⟨fun σ H' => ∃ xg, σ = [some (.ref t), some xg, some .non, none] ∧ Same H H' ∧ BadP K C H' xf xa xm xg xe Tn Te ∧ ((Tn ≠ "list" ∧ xg = xn) ∨ (Tn = "list" ∧ ∃ q g ys, xn = .ref q ∧ xg = .ref g ∧ H q = some (.lst ys) ∧ H g = none ∧ H' g = some (.lst ys))), ?_, ?_⟩
    · k_extra "r_F5"
      refine q_isi bp.tn .lst ?_
      by_cases e : Tn = "list"
      · subst e
        refine q_test (s_if1 rfl ?_)
        have sn := bp.sn
        k_extra "r_F5"
        obtain ⟨q, ys, rfl, hq⟩ : ∃ q ys, xn = .ref q ∧ H q = some (.lst ys) := by
          cases sn with
          | tup e _ _ => exact absurd e (by decide)
          | dct e _ => exact absurd e (by decide)
          | lst _ hq _ => exact ⟨_, _, rfl, hq⟩
          | flat h1 h2 _ => exact absurd rfl h2
        refine q_listL (SqL.of hq) fun g H1 n1 S1 h1 => ?_
        k_extra "r_F5"
        exact ⟨_, rfl, S1, bp.copy S1 hq h1, .inr ⟨rfl, q, g, ys, rfl, rfl, hq, n1, h1⟩⟩
      · have e2 : subKd Tn "list" = false := by
          cases bp.tn.2 <;> first | rfl | exact absurd rfl e
        rw [e2]
        refine q_test (s_if0 rfl ?_)
        k_extra "r_F5"
        exact ⟨_, rfl, Same.refl H, bp, .inl ⟨e, rfl⟩⟩
    · rintro σ H1 ⟨xg, rfl, S1, b1, cs⟩
      have ht1 := S1 _ _ ht
      k_extra "r_F5"
      refine q_ixL (SqL.of ht1) (at_of (j := 0) rfl rfl) ?_
      k_extra "r_F5"
      refine q_ixL (SqL.of ht1) (at_of (j := 1) rfl rfl) ?_
      k_extra "r_F5"
      refine q_ixL (SqL.of ht1) (at_of (j := 2) rfl rfl) ?_
      k_extra "r_F5"
      refine q_ixL (SqL.of ht1) (at_of (j := 4) rfl rfl) ?_
      k_extra "r_F5"
      refine q_pieceX b1 fun H2 tt d S2 ntt nd hd htt => ⟨true, XL.te, fun _ a0 ha0 => ?_, fun q => Bool.noConfusion q⟩
      k_extra "r_F5"
      refine ⟨_, rfl, rfl, rfl, d, _, .ref tt, rfl, hd, (by simp [List.lookup]), ?_⟩
      k_extra "r_F5"
      refine q_isi (Pl.tup htt) .tup ?_
      refine q_test (s_if0 rfl ?_)
      k_extra "r_F5"
      refine q_listT (SqT.of htt) fun l3 H3 n3 S3 h3 => ?_
      have S13 := S1.trans (S2.trans S3)
      have ht3 := S13 _ _ ht
      have b3 := bp.mono S13
      have it : EqV K H3 1 xg xn true := by
        rcases cs with ⟨ne, rfl⟩ | ⟨e, q, g, ys, rfl, rfl, hq, ng, hg⟩
        · exact EqV.up (Same.refl _) _ _ _ _ (b3.sn.self ne) 1 (by decide)
        · have hs : ∀ y ∈ ys, SelfV K H3 y := by
            cases b3.sn with
            | tup e' _ _ => exact absurd (e.symm.trans e') (by decide)
            | dct e' _ => exact absurd (e.symm.trans e') (by decide)
            | @lst _ zs _ _ h hs =>
              rw [S13 _ _ hq] at h
              injection h with h; injection h with h
              subst h
              exact hs
            | flat h1 _ _ => exact nomatch h1
          have := EqV.lst (n := 0) (fun z : g = q => by rw [z, hq] at ng; cases ng) (SqL.of ((S2.trans S3) _ _ hg)) (SqL.of (S13 _ _ hq)) (selfs hs)
          rw [all_trues] at this
          exact this
      have up : ∀ {x : V}, SelfV K H3 x → EqV K H3 1 x x true := fun h => EqV.up (Same.refl _) _ _ _ _ h 1 (by decide)
      k_extra "r_F5"
      refine ⟨l3, t, _, _, _, rfl, rfl, .inl ⟨SqL.of h3, SqL.of ht3⟩, .cons (up b3.sf) (.cons (up b3.sa) (.cons (up b3.sm) (.cons it (.cons (up b3.se) .nil)))), ?_⟩
      refine q_test (s_if0 rfl ?_)
      have bg := b1.mono (S2.trans S3)
      have htt3 := S3 _ _ htt
      k_extra "r_F5"
      refine ⟨fun σ H' => ∃ v3, σ = [some (.ref t), some xg, some (.ref tt), v3] ∧ Same H H' ∧ H' tt = some (.tup [xf, xa, xm, xg, xe]) ∧ SelfN K H' xg Tn, ?_, ?_⟩
      · k_extra "r_F5"
        refine q_isi bg.tn .lst ?_
        rcases cs with ⟨ne, rfl⟩ | ⟨e, q, g, ys, rfl, rfl, hq, ng, hg⟩
        · have e2 : subKd Tn "list" = false := by
            cases bg.tn.2 <;> first | rfl | exact absurd rfl ne
          rw [e2]
          refine q_test (s_if0 rfl ?_)
          k_extra "r_F5"
          exact ⟨_, rfl, S13, htt3, bg.sn⟩
        · subst e
          refine q_test (s_if1 rfl ?_)
          have hg3 := (S2.trans S3) _ _ hg
          have hs : ∀ y ∈ ys, SelfV K H3 y := by
            cases bg.sn with
            | tup e' _ _ => exact absurd e' (by decide)
            | dct e' _ => exact absurd e' (by decide)
            | @lst _ zs _ _ h hs =>
              rw [hg3] at h
              injection h with h; injection h with h
              subst h
              exact hs
            | flat h1 _ _ => exact nomatch h1
          k_extra "r_F5"
          refine ⟨.inl ⟨rfl, _, SqL.of hg3⟩, ?_⟩
          k_extra "r_F5"
          have hz : ys.length ≤ 100 := by
            obtain ⟨T', h1, h2, h4⟩ := bg.hn
            by_cases e : T' = "list"
            · obtain ⟨q', zs, g1, g2, g3, _⟩ := h4 e
              injection g1 with g1
              subst g1
              rw [hg3] at g2
              injection g2 with g2; injection g2 with g2
              subst g2
              exact g3
            · exact absurd hg3 (h2 g rfl e ys)
          refine q_append hg3 (szlt (by omega)) fun H4 b4 h4 => ?_
          have S04 : Same H H4 := fun z o h => b4 _ _ (ne_of_none h ng) (S13 _ _ h)
          refine ⟨_, rfl, S04, b4 _ _ (fun z => by rw [z, hg3] at htt3; cases htt3) htt3, .lst rfl h4 fun y hy => ?_⟩
          rcases List.mem_append.mp hy with hy | hy
          · exact (hs y hy).any
          · rw [List.mem_singleton.mp hy]
            exact .str (by decide +kernel)
      · rintro σ H4 ⟨v3, rfl, S4, h4, sn⟩
        k_extra "r_F5"
        refine q_ixT (SqT.of h4) (at_of (j := 3) rfl rfl) ?_
        k_extra "r_F5"
        exact q_eqXself sn (k H4 S4)
end
end Bt
namespace Bt
open PySem PySem.Spec PyProof.Rows L2 LamX NdefX
open PySem.W (dataLt dataLe alike AllAlike Sortable)
theorem words47_ : True := by
  k_with "s_G5" => first
    | ((with_reducible refine' s_var ?hv ?_); (case hv => exact rfl))
    | with_reducible first
      | refine' s_c ?_ | refine' s_op ?_ | refine' s_asg ?_ | refine' s_gname ?_ | refine' s_seq ?_ | refine' s_next ?_ | refine' s_ret ?_ | refine' s_ifS ?_ | refine' s_drop ?_ | refine' s_retN ?_
      | refine' s_test ?_ | refine' s_B ?_ | refine' q_test ?_ | refine' s_int ?_ | refine' s_cons ?_ | refine' s_nil ?_ | refine' s_call ?_ | refine' s_CB ?_ | refine' s_andT ?_ | refine' s_orT ?_ | refine' s_notT ?_
      | refine' s_andV ?_ | refine' s_orV ?_ | refine' s_notV ?_ | refine' s_ifV ?_ | refine' s_chain ?_ | refine' s_sl ?_ | refine' s_noPart ?_ | refine' s_part ?_ | refine' s_gsub ?_ | refine' s_BM ?_ | refine' s_tup ?_ | refine' s_lst ?_
      | refine' q_add ?_ | refine' q_sub ?_ | refine' q_lt ?_ | refine' q_le ?_ | refine' q_gt ?_ | refine' q_ge ?_ | refine' s_ifT ?_ | refine' s_ifF ?_ | refine' s_yes ?_ | refine' s_prop ?_ | refine' s_iList ?_ | refine' s_callOS ?_ | refine' s_iStr ?_ | refine' s_M0 ?_ | refine' s_make ?_ | refine' s_makeS ?_ | refine' s_ownL ?_ | refine' s_ownR ?_ | refine' s_callSD ?_ | refine' s_fld ?_ | refine' s_prop ?_ | refine' s_meth ?_ | refine' s_raise1 ?_ | refine' s_for ?_ | refine' s_rng1 ?_ | refine' s_par ?_ | refine' s_gcons ?_ | refine' s_gnil ?_ | refine' s_iList ?_ | refine' s_iEnum ?_
      | (refine' q_mod ?hm ?_; (case hm => first | omega | decide)) | (refine' q_fdiv ?hm ?hn ?_; (case hm => first | omega | decide); (case hn => first | omega | decide))
      | (refine' q_mulR ?hm ?_; (case hm => first | omega | decide)) | (refine' q_mulL ?hm ?_; (case hm => first | omega | decide))
    | dsimp only
  k_with "r_G5" => repeat (k_extra "s_G5")
  trivial
/-! ### the five of a piece, and its == -/
structure PieceP (K : PySem.W.Frag) (CP : Addr) : Prop where
  pF : ∃ (p f : Addr) (fd : FuncData), PropOf K CP "folder" p f ∧ Fun K "folder" "Piece.folder" s_Piece_folder f fd ∧ Binds K fd ["self"] []
  pA : ∃ (p f : Addr) (fd : FuncData), PropOf K CP "form" p f ∧ Fun K "form" "Piece.form" s_Piece_form f fd ∧ Binds K fd ["self"] []
  pM : ∃ (p f : Addr) (fd : FuncData), PropOf K CP "mark" p f ∧ Fun K "mark" "Piece.mark" s_Piece_mark f fd ∧ Binds K fd ["self"] []
  pN : ∃ (p f : Addr) (fd : FuncData), PropOf K CP "names" p f ∧ Fun K "names" "Piece.names" s_Piece_names f fd ∧ Binds K fd ["self"] []
  pE : ∃ (p f : Addr) (fd : FuncData), PropOf K CP "ended" p f ∧ Fun K "ended" "Piece.ended" s_Piece_ended f fd ∧ Binds K fd ["self"] []
section
variable {P : Program} {w : World} {K : PySem.W.Frag} {mg : Str → Option Value} {base : Heap} {C CP CL : Addr}
theorem pcf_mark {f a m n e lo hi : V} : (pcf f a m n e lo hi).lookup ("_mark" : Str) = some m := by
  unfold pcf pcf5
  rw [lookup_putF, if_neg (by decide +kernel), lookup_putF, if_neg (by decide +kernel), lookup_putF, if_neg (by decide +kernel), lookup_putF, if_neg (by decide +kernel), lookup_putF, if_pos rfl]
theorem pcf_ended {f a m n e lo hi : V} : (pcf f a m n e lo hi).lookup ("_ended" : Str) = some e := by
  unfold pcf pcf5
  rw [lookup_putF, if_neg (by decide +kernel), lookup_putF, if_neg (by decide +kernel), lookup_putF, if_pos rfl]
theorem ok_pc_folder {f : Addr} {fd : FuncData} (PC : PieceC K mg CP) (F : Fun K "folder" "Piece.folder" s_Piece_folder f fd) : FnOk P w K mg base CX0 1 f fd ["self"] (getSp CP "_folder") := by
  obtain ⟨oc, od, kV, doc, pm, an, cdv, ct, osl, rfl, lk, hcd⟩ := F.ex
  exact fn_getter lk hcd sc_Piece_folder rfl rfl PC.cl PC.n1
theorem ok_pc_form {f : Addr} {fd : FuncData} (PC : PieceC K mg CP) (F : Fun K "form" "Piece.form" s_Piece_form f fd) : FnOk P w K mg base CX0 1 f fd ["self"] (getSp CP "_form") := by
  obtain ⟨oc, od, kV, doc, pm, an, cdv, ct, osl, rfl, lk, hcd⟩ := F.ex
  exact fn_getter lk hcd sc_Piece_form rfl rfl PC.cl PC.n2
theorem ok_pc_mark {f : Addr} {fd : FuncData} (PC : PieceC K mg CP) (F : Fun K "mark" "Piece.mark" s_Piece_mark f fd) : FnOk P w K mg base CX0 1 f fd ["self"] (getSp CP "_mark") := by
  obtain ⟨oc, od, kV, doc, pm, an, cdv, ct, osl, rfl, lk, hcd⟩ := F.ex
  exact fn_getter lk hcd sc_Piece_mark rfl rfl PC.cl PC.n3
theorem ok_pc_ended {f : Addr} {fd : FuncData} (PC : PieceC K mg CP) (F : Fun K "ended" "Piece.ended" s_Piece_ended f fd) : FnOk P w K mg base CX0 1 f fd ["self"] (getSp CP "_ended") := by
  obtain ⟨oc, od, kV, doc, pm, an, cdv, ct, osl, rfl, lk, hcd⟩ := F.ex
  exact fn_getter lk hcd sc_Piece_ended rfl rfl PC.cl PC.n5
def spPNames (C CP : Addr) : Sp := fun vs H Q _ => ∃ p f l c m bs e, vs = [.ref p] ∧ PcAt C CP H p f l c m bs e ∧ ∀ D H', H D = none → Same H H' → H' D = some (.lst (bs.map V.str)) → Q (.ref D) H'
theorem ok_pc_names {f : Addr} {fd : FuncData} (TS : TxtS K mg) (PC : PieceC K mg CP) (F : Fun K "names" "Piece.names" s_Piece_names f fd) : FnOk P w K mg base CX0 1 f fd ["self"] (spPNames C CP) := by
  refine F.ok sc_Piece_names (fun vs H Q E h => ?_) (fun cdv A outer s H vs Q E hr h => ?_)
  · obtain ⟨p, f, l, c, m, bs, e, rfl, _⟩ := h
    rfl
  · obtain ⟨p, f, l, c, m, bs, e, rfl, pa, k⟩ := h
    refine ⟨_, (pss_one (ps_ret (pe_callTy call_listOf (by rfl) TS.n_list (by decide +kernel) (pa_cons (pe_fld (pv 0) rfl) pa_nil)))), ?_⟩
    obtain ⟨dx, a, n, lo, hi, g1, g2, g3, g4, g5⟩ := id pa
    k_extra "r_G5"
    refine ⟨p, CP, dx, _, _, rfl, g1, PC.cl, PC.n4, pcf_names, ?_⟩
    k_extra "r_G5"
    exact q_listL (SqL.of g3) fun D H1 n1 S1 h1 => k D H1 n1 S1 h1
end
section
variable {X : Cx} {C CP : Addr} {e : Expr} {pos : Pos} {te : TE} {k : Nat}
theorem pe_folder (PC : PieceC X.K X.mg CP) (PP : PieceP X.K CP) (hr : Room k X.A) (hk : 2 ≤ k) (he : PE X e te) (hab : attributeBase e "folder" X.env (eval e X.env) = eval e X.env := by rfl) : PE X (.Attribute e "folder" pos) (tProp CP (getSp CP "_folder") [] E0 te) := by
  obtain ⟨p, f, fd, hp, F, b⟩ := PP.pF
  exact pe_prop he PC.cl hp (ok_pc_folder PC F) (hr.mono hk) b .nil pass0 hab
theorem pe_formP (PC : PieceC X.K X.mg CP) (PP : PieceP X.K CP) (hr : Room k X.A) (hk : 2 ≤ k) (he : PE X e te) (hab : attributeBase e "form" X.env (eval e X.env) = eval e X.env := by rfl) : PE X (.Attribute e "form" pos) (tProp CP (getSp CP "_form") [] E0 te) := by
  obtain ⟨p, f, fd, hp, F, b⟩ := PP.pA
  exact pe_prop he PC.cl hp (ok_pc_form PC F) (hr.mono hk) b .nil pass0 hab
theorem pe_mark (PC : PieceC X.K X.mg CP) (PP : PieceP X.K CP) (hr : Room k X.A) (hk : 2 ≤ k) (he : PE X e te) (hab : attributeBase e "mark" X.env (eval e X.env) = eval e X.env := by rfl) : PE X (.Attribute e "mark" pos) (tProp CP (getSp CP "_mark") [] E0 te) := by
  obtain ⟨p, f, fd, hp, F, b⟩ := PP.pM
  exact pe_prop he PC.cl hp (ok_pc_mark PC F) (hr.mono hk) b .nil pass0 hab
theorem pe_ended (PC : PieceC X.K X.mg CP) (PP : PieceP X.K CP) (hr : Room k X.A) (hk : 2 ≤ k) (he : PE X e te) (hab : attributeBase e "ended" X.env (eval e X.env) = eval e X.env := by rfl) : PE X (.Attribute e "ended" pos) (tProp CP (getSp CP "_ended") [] E0 te) := by
  obtain ⟨p, f, fd, hp, F, b⟩ := PP.pE
  exact pe_prop he PC.cl hp (ok_pc_ended PC F) (hr.mono hk) b .nil pass0 hab
theorem pe_namesP (TS : TxtS X.K X.mg) (PC : PieceC X.K X.mg CP) (PP : PieceP X.K CP) (hr : Room k X.A) (hk : 2 ≤ k) (he : PE X e te) (hab : attributeBase e "names" X.env (eval e X.env) = eval e X.env := by rfl) : PE X (.Attribute e "names" pos) (tProp CP (spPNames C CP) [] E0 te) := by
  obtain ⟨p, f, fd, hp, F, b⟩ := PP.pN
  exact pe_prop he PC.cl hp (ok_pc_names (C := C) TS PC F) (hr.mono hk) b .nil pass0 hab
end
section
variable {K : PySem.W.Frag} {C CP : Addr} {H : Hp} {Q : VK} {p : Addr} {f l : Str} {c : Int} {m : Option Str} {bs : List Str} {e : Bool}
theorem q_folder (h : PcAt C CP H p f l c m bs e) (q : Q (.str f) H) : ∃ b dx fs, V.ref p = .ref b ∧ H b = some (.ins CP dx fs) ∧ getSp CP "_folder" (.ref b :: []) H Q E0 :=
  let ⟨dx, a, n, lo, hi, g1, _⟩ := h; ⟨p, dx, _, rfl, g1, p, dx, _, _, rfl, g1, pcf_folder, q⟩
theorem q_mark (h : PcAt C CP H p f l c m bs e) (q : Q (mkV m) H) : ∃ b dx fs, V.ref p = .ref b ∧ H b = some (.ins CP dx fs) ∧ getSp CP "_mark" (.ref b :: []) H Q E0 :=
  let ⟨dx, a, n, lo, hi, g1, _⟩ := h; ⟨p, dx, _, rfl, g1, p, dx, _, _, rfl, g1, pcf_mark, q⟩
theorem q_ended (h : PcAt C CP H p f l c m bs e) (q : Q (.bl e) H) : ∃ b dx fs, V.ref p = .ref b ∧ H b = some (.ins CP dx fs) ∧ getSp CP "_ended" (.ref b :: []) H Q E0 :=
  let ⟨dx, a, n, lo, hi, g1, _⟩ := h; ⟨p, dx, _, rfl, g1, p, dx, _, _, rfl, g1, pcf_ended, q⟩
theorem q_formP (h : PcAt C CP H p f l c m bs e) (q : ∀ a, FormAt C H a l c → Q (.ref a) H) : ∃ b dx fs, V.ref p = .ref b ∧ H b = some (.ins CP dx fs) ∧ getSp CP "_form" (.ref b :: []) H Q E0 :=
  let ⟨dx, a, n, lo, hi, g1, g2, _⟩ := h; ⟨p, dx, _, rfl, g1, p, dx, _, _, rfl, g1, pcf_form, q a g2⟩
theorem q_namesP (h : PcAt C CP H p f l c m bs e) (q : ∀ D H', H D = none → Same H H' → H' D = some (.lst (bs.map V.str)) → Q (.ref D) H') : ∃ b dx fs, V.ref p = .ref b ∧ H b = some (.ins CP dx fs) ∧ spPNames C CP (.ref b :: []) H Q E0 :=
  let ⟨dx, a, n, lo, hi, g1, g2⟩ := id h; ⟨p, dx, _, rfl, g1, p, f, l, c, m, bs, e, rfl, h, q⟩
end
section
variable {P : Program} {w : World} {K : PySem.W.Frag} {mg : Str → Option Value} {base : Heap} {C CP CL : Addr}
structure PieceE (K : PySem.W.Frag) (CP : Addr) : Prop where
  eq : ∃ (f : Addr) (fd : FuncData), PySem.W.findIn K (.ref CP) "__eq__" = some (some (.ref f)) ∧ PySem.W.isFn K (.ref f) = true ∧ Fun K "__eq__" "Piece.__eq__" s_Piece___eq__ f fd ∧ Binds K fd ["self", "other"] []
  kY : PySem.W.kitOne K (.ref CP) (.ref CP) = some true
  i1 : PySem.W.findIn K (.ref CP) "__class__" = some (some (.builtin "object.__class__"))
  i2 : PySem.W.specialIn K (.builtin "object.__class__") "__get__" = some (some (.builtin "getset_descriptor.__get__"))
  i3 : PySem.W.takesIn K (.builtin "object.__class__") = some true
  i4 : PySem.W.mroIn K CP (.type "object") = some true
theorem PcAt.ty {H : Hp} {p : Addr} {f l : Str} {c : Int} {m : Option Str} {bs : List Str} {e : Bool} (PC : PieceC K mg CP) (PE' : PieceE K CP) (h : PcAt C CP H p f l c m bs e) : TyX K H (.ref p) (.ref CP) := let ⟨_, _, _, _, _, g, _⟩ := h; .base (.ins g PC.cl PE'.i1 PE'.i2 PE'.i3 PE'.i4)
/-- all five are equal -/
def five (f : Str) (l : Str) (c : Int) (m : Option Str) (bs : List Str) (e : Bool) (f' : Str) (l' : Str) (c' : Int) (m' : Option Str) (bs' : List Str) (e' : Bool) : Prop := f = f' ∧ (l = l' ∧ c = c') ∧ m = m' ∧ bs = bs' ∧ e = e'
instance {f l c m bs e f' l' c' m' bs' e'} : Decidable (five f l c m bs e f' l' c' m' bs' e') := by unfold five; infer_instance
def spPcEq (K : PySem.W.Frag) (C CP : Addr) : Sp := fun vs H Q _ => ∃ p y f l c m bs e, vs = [.ref p, y] ∧ PcAt C CP H p f l c m bs e ∧ PcS f l c m bs e ∧
  ((∃ p' f' l' c' m' bs' e', y = .ref p' ∧ PcAt C CP H p' f' l' c' m' bs' e' ∧ PcS f' l' c' m' bs' e' ∧ ∀ H', Same H H' → Q (.bl (decide (five f l c m bs e f' l' c' m' bs' e'))) H') ∨
   (∃ t, TyX K H y t ∧ PySem.W.kitOne K t (.ref CP) = some false ∧ ∀ H', Same H H' → Q (.bl false) H'))
theorem ok_piece_eq {fn : Addr} {fd : FuncData} (T : Txt K mg) (TS : TxtS K mg) (FC : FormC K mg C) (PC : PieceC K mg CP) (PP : PieceP K CP) (PG : PieceG K mg CP) (PE' : PieceE K CP) (F : Fun K "__eq__" "Piece.__eq__" s_Piece___eq__ fn fd) : FnOk P w K mg base CX0 5 fn fd ["self", "other"] (spPcEq K C CP) := by
  obtain ⟨fE, fdE, e1, e2, FE, be⟩ := FC.eq
  refine F.ok sc_Piece___eq__ (fun vs H Q E h => ?_) (fun cdv A outer s H vs Q E hr h => ?_)
  · obtain ⟨p, y, f, l, c, m, bs, e, rfl, _⟩ := h
    rfl
  · obtain ⟨p, y, f, l, c, m, bs, e, rfl, pa, ps, hy⟩ := h
    have hu := hr.units
    refine ⟨_, (pss_cons (ps_if (pt_not (PW.pt (pw_and (pt_val (pe_callB call_isi (by rfl) T.n_isinstance (by decide +kernel) (pa_cons (pv 1) (pa_cons (pe_glob (v := .ref CP) (by rfl) PG.g rfl) pa_nil)))) (pw_and (pt_cmpR op_eq (pe_folder PC PP hr (by decide) (pv 0)) (pe_folder PC PP hr (by decide) (pv 1)) (by rfl)) (pw_and1 (pt_cmpR (op_eqOwn (ok_form_eq T FC FE) (hr.mono (by decide)) e1 e2 be pass0) (pe_formP PC PP hr (by decide) (pv 0)) (pe_formP PC PP hr (by decide) (pv 1)) (by rfl))))))) (pss_one (ps_ret pe_bl)) pss_nil)
      (pss_one (ps_ret (pe_and (pe_cmpR op_eq (pe_mark PC PP hr (by decide) (pv 0)) (pe_mark PC PP hr (by decide) (pv 1)) (by rfl)) (pe_and (pe_cmpR (op_eqU hu) (pe_namesP (C := C) TS PC PP hr (by decide) (pv 0)) (pe_namesP (C := C) TS PC PP hr (by decide) (pv 1)) (by rfl)) (pe_one (pe_cmpR op_eq (pe_ended PC PP hr (by decide) (pv 0)) (pe_ended PC PP hr (by decide) (pv 1)) (by rfl)))))))), ?_⟩
    k_extra "r_G5"
    rcases hy with ⟨p', f', l', c', m', bs', e', rfl, pa', ps', k⟩ | ⟨t, hy, kt, k⟩
    rotate_left
    · refine ⟨y, .ref CP, t, .ref CP, false, rfl, .own CP, hy, kt, ?_⟩
      k_extra "r_G5"
      refine s_if1 rfl ?_
      k_extra "r_G5"
      exact k H (Same.refl H)
    · refine ⟨.ref p', .ref CP, .ref CP, .ref CP, true, rfl, .own CP, pa'.ty PC PE', PE'.kY, ?_⟩
      k_extra "r_G5"
      have done : ¬ five f l c m bs e f' l' c' m' bs' e' → ∀ H', Same H H' → Q (.bl false) H' := fun n H' S' => by
        have := k H' S'
        rw [decide_eq_false n] at this
        exact this
      refine q_folder pa ?_
      k_extra "r_G5"
      refine q_folder pa' ⟨rfl, ?_⟩
      by_cases ef : f = f'
      · subst ef
        refine q_test (s_if1 (by simp) ?_)
        k_extra "r_G5"
        refine q_formP pa fun a fa => ?_
        k_extra "r_G5"
        refine q_formP pa' fun a' fa' => ?_
        obtain ⟨dxa, ea⟩ := id fa
        refine ⟨a, dxa, _, .ref C, rfl, ea, fa'.ty FC, FC.nfS, a, .ref a', l, c, rfl, fa, .inl ⟨a', l', c', rfl, fa', ⟨_, rfl, ?_⟩⟩⟩
        by_cases el : l = l' ∧ c = c'
        · refine q_test (s_if0 (by simp [el]) ?_)
          k_extra "r_G5"
          refine q_mark pa ?_
          k_extra "r_G5"
          have sm : scal (mkV m) (mkV m') = true := by cases m <;> cases m' <;> rfl
          refine q_mark pa' ⟨sm, ?_⟩
          by_cases em : m = m'
          · refine q_test (s_if1 (by simp [em]) ?_)
            k_extra "r_G5"
            refine q_namesP pa fun D1 H1 n1 S1 h1 => ?_
            k_extra "r_G5"
            refine q_namesP (pa'.mono S1) fun D2 H2 n2 S2 h2 => ?_
            refine q_eqD (dp_lst_strs (S2 _ _ h1)) (dp_lst_strs h2) (shaped_strs fun y hy => (ps.nb y hy).asc) (shaped_strs fun y hy => (ps'.nb y hy).asc) ?_
            rw [eqv_strs]
            by_cases eb : bs = bs'
            · refine q_test (s_if1 (by simp [eb]) ?_)
              have S12 := S1.trans S2
              k_extra "r_G5"
              refine q_ended (pa.mono S12) ?_
              k_extra "r_G5"
              refine q_ended (pa'.mono S12) ⟨by cases e <;> cases e' <;> rfl, ?_⟩
              have := k H2 S12
              have e2 : decide (V.bl e = V.bl e') = decide (five f l c m bs e f l' c' m' bs' e') := decide_eq_decide.mpr ⟨fun h => ⟨rfl, el, em, eb, V.bl.inj h⟩, fun h => by rw [h.2.2.2.2]⟩
              rw [e2]
              exact this
            · refine q_test (s_if0 (by simp [eb]) ?_)
              exact done (fun z => eb z.2.2.2.1) H2 (S1.trans S2)
          · refine q_test (s_if0 (by simpa using fun z => em (mkV_inj z)) ?_)
            exact done (fun z => em z.2.2.1) H (Same.refl H)
        · refine q_test (s_if1 (by rw [decide_eq_false el]; rfl) ?_)
          k_extra "r_G5"
          exact done (fun z => el z.2.1) H (Same.refl H)
      · refine q_test (s_if0 (by simp [ef]) ?_)
        refine s_if1 rfl ?_
        k_extra "r_G5"
        exact done (fun z => ef z.1) H (Same.refl H)
end
end Bt
namespace Bt
open PySem PySem.Spec PyProof.Rows L2 LamX NdefX
open PySem.W (dataLt dataLe alike AllAlike Sortable)
/-! ### rows that rise, and rows that do not -/
theorem rise_iff {l : Str} {c : Int} : ∀ {row : List Str}, riseB l c row = true ↔ row.Pairwise (fun y z => kk l c y < kk l c z)
  | [] => ⟨fun _ => .nil, fun _ => rfl⟩
  | [x] => ⟨fun _ => List.pairwise_singleton _ _, fun _ => rfl⟩
  | x :: y :: row => ⟨fun h => by
      have e : riseB l c (x :: y :: row) = (dataLt (kT l c x) (kT l c y) && riseB l c (y :: row)) := rfl
      rw [e, lt_kT, Bool.and_eq_true, decide_eq_true_eq] at h
      have ih := rise_iff.mp h.2
      refine List.Pairwise.cons (fun z hz => ?_) ih
      rcases List.mem_cons.mp hz with rfl | hz
      · exact h.1
      · exact List.lt_trans h.1 (List.rel_of_pairwise_cons ih hz), rise_pw⟩
theorem rise_sub {l : Str} {c : Int} {r r' : List Str} (s : r'.Sublist r) (h : riseB l c r = true) : riseB l c r' = true := rise_iff.mpr ((rise_iff.mp h).sublist s)
theorem rise_nd {l : Str} {c : Int} {r : List Str} (h : riseB l c r = true) : r.Nodup := (rise_iff.mp h).imp fun h e => by rw [e] at h; exact List.lt_irrefl _ h
theorem no_rise_dup {l : Str} {c : Int} {r : List Str} {z : Str} (s : [z, z].Sublist r) : riseB l c r ≠ true := fun h => by
  have := (rise_nd h).sublist s
  simp at this
theorem no_rise_two {l : Str} {c : Int} {r r' : List Str} {y z : Str} (h : riseB l c r = true) (s : [y, z].Sublist r) (s' : [z, y].Sublist r') : riseB l c r' ≠ true := fun h' => by
  have h1 : kk l c y < kk l c z := by simpa using (rise_iff.mp h).sublist s
  have h2 : kk l c z < kk l c y := by simpa using (rise_iff.mp h').sublist s'
  exact List.lt_irrefl _ (List.lt_trans h1 h2)
theorem row_sub {m : Option Str} {bs : List Str} : bs.Sublist (rowOf m bs) := by
  cases m with
  | none => exact List.Sublist.refl _
  | some z => exact List.sublist_cons_self _ _
theorem row_mono {m : Option Str} {bs bs' : List Str} (h : bs'.Sublist bs) : (rowOf m bs').Sublist (rowOf m bs) := by
  cases m with
  | none => exact h
  | some z => exact h.cons_cons _
theorem rise_none {l : Str} {c : Int} {m : Option Str} {bs : List Str} (h : riseB l c (rowOf m bs) = true) : riseB l c (rowOf none bs) = true := rise_sub row_sub h
theorem rise_row {l : Str} {c : Int} {m : Option Str} {bs bs' : List Str} (s : bs'.Sublist bs) (h : riseB l c (rowOf m bs) = true) : riseB l c (rowOf m bs') = true := rise_sub (row_mono s) h
theorem rise_head {l : Str} {c : Int} {m : Option Str} {b : Str} {bs : List Str} (h : riseB l c (rowOf m (b :: bs)) = true) : riseB l c (rowOf (some b) bs) = true := rise_sub row_sub h
theorem rise_nil {l : Str} {c : Int} {m : Option Str} : riseB l c (rowOf m []) = true := by cases m <;> rfl
theorem rise_one {l : Str} {c : Int} {bs : List Str} : riseB l c (rowOf none (bs.take 1)) = true := by cases bs <;> rfl
/-- two of a list in their order -/
theorem two_sub {α : Type} {xs : List α} {i j : Nat} {y z : α} (hi : xs[i]? = some y) (hj : xs[j]? = some z) (h : i < j) : [y, z].Sublist xs := by
  have h2 := List.getElem?_eq_some_iff.mp hj
  obtain ⟨lj, ej⟩ := h2
  obtain ⟨li, ei⟩ := List.getElem?_eq_some_iff.mp hi
  have e : xs = xs.take (i + 1) ++ xs.drop (i + 1) := (List.take_append_drop _ _).symm
  rw [e]
  have s1 : [y].Sublist (xs.take (i + 1)) := List.singleton_sublist.mpr (List.mem_of_getElem? (i := i) (by rw [List.getElem?_take, if_pos (by omega)]; exact hi))
  have s2 : [z].Sublist (xs.drop (i + 1)) := List.singleton_sublist.mpr (List.mem_of_getElem? (i := j - (i + 1)) (by rw [List.getElem?_drop]; rw [show i + 1 + (j - (i + 1)) = j by omega]; exact hj))
  exact s1.append s2
theorem mem_dup {bs : List Str} {z : Str} (h : z ∈ bs) : [z, z].Sublist (z :: bs) := (List.singleton_sublist.mpr h).cons_cons z
theorem mem_dup2 {bs : List Str} {z : Str} (h : z ∈ bs) : [z, z].Sublist (bs ++ [z]) := (List.singleton_sublist.mpr h).append (List.Sublist.refl [z])
/-! ### what a piece says of its own names -/
theorem inB_own {f l : Str} {c : Int} {bs : List Str} {e : Bool} {z : Str} (h : riseB l c (rowOf none bs) = true) (hz : z ∈ bs) : inB f l c none bs e f z = true := by
  unfold inB
  rw [decide_eq_true rfl, Bool.true_and]
  show (true && untilB l c z (hiOf e bs)) = true
  rw [Bool.true_and]
  unfold hiOf
  cases e with
  | true => rfl
  | false =>
    show untilB l c z bs.getLast? = true
    cases eb : bs.getLast? with
    | none => rfl
    | some y =>
      show (!dataLt (kT l c y) (kT l c z)) = true
      rw [lt_kT]
      have n : ¬ kk l c y < kk l c z := fun lt => by
        obtain ⟨ws, rfl⟩ := List.getLast?_eq_some_iff.mp eb
        rcases List.mem_append.mp hz with mz | mz
        · have pw := rise_iff.mp h
          have := (List.pairwise_append.mp pw).2.2 z mz y List.mem_cons_self
          exact List.lt_irrefl _ (List.lt_trans lt this)
        · rw [List.mem_singleton.mp mz] at lt
          exact List.lt_irrefl _ lt
      rw [decide_eq_false n]
      rfl
/-! ### other letters -/
theorem take_range {α : Type} {xs : List α} : ∀ k, k ≤ xs.length → (List.range k).filterMap (xs[·]?) = xs.take k
  | 0, _ => rfl
  | k + 1, h => by
    rw [List.range_succ, List.filterMap_append, take_range k (by omega), List.take_add_one, List.getElem?_eq_getElem (by omega : k < xs.length)]
    simp [List.getElem?_eq_getElem (by omega : k < xs.length)]
theorem revT_26 {l : Str} (h : l.length = 26) : (revT l).cps.toList = l.cps.toList.reverse := by
  have e : Builtin.Str.strSliceIndices none none (-1) l.length = (List.range 26).reverse := by rw [h]; decide +kernel
  unfold revT
  rw [e, List.filterMap_reverse]
  show ((List.range 26).filterMap (l.cps[·]?)).reverse = _
  have hl : l.cps.toList.length = 26 := by rw [← len_cps, h]
  have g : (fun x : Nat => l.cps[x]?) = fun x => l.cps.toList[x]? := by funext x; rw [Array.getElem?_toList]
  have := take_range (xs := l.cps.toList) 26 (by omega)
  rw [List.take_of_length_le (by omega)] at this
  rw [g, this]
theorem Letters.nd {l : Str} (h : Letters l) : l.cps.toList.Nodup := h.nodup_iff.mpr alpha_nd
theorem letters_revT {l : Str} (h : Letters l) : Letters (revT l) := by
  unfold Letters
  rw [revT_26 h.len]
  exact (List.reverse_perm _).trans h
theorem revT_ne {l : Str} (h : Letters l) : revT l ≠ l := fun e => by
  have r := revT_26 h.len
  rw [e] at r
  have hl : l.cps.toList.length = 26 := by rw [← len_cps, h.len]
  have g : l.cps.toList[0]? = l.cps.toList[25]? := by
    conv => lhs; rw [r]
    rw [List.getElem?_reverse (by omega), hl]
  have := (List.getElem?_inj (by omega : 0 < l.cps.toList.length) h.nd).mp g
  omega
theorem rot_ne {l a b : Str} (h : Letters l) (ha : a.cps.toList = l.cps.toList.drop 1) (hb : b.cps.toList = l.cps.toList.take 1) : a ++ b ≠ l := fun e => by
  have r := app_cps a b
  rw [e, ha, hb] at r
  have hl : l.cps.toList.length = 26 := by rw [← len_cps, h.len]
  have g : l.cps.toList[0]? = l.cps.toList[1]? := by
    conv => lhs; rw [r]
    rw [List.getElem?_append_left (by rw [List.length_drop]; omega), List.getElem?_drop]
  have := (List.getElem?_inj (by omega : 0 < l.cps.toList.length) h.nd).mp g
  omega
end Bt
namespace Bt
open PySem PySem.Spec PyProof.Rows L2 LamX NdefX
open PySem.W (dataLt dataLe alike AllAlike Sortable)
theorem words48_ : True := by
  k_with "s_M5" => first
    | ((with_reducible refine' s_var ?hv ?_); (case hv => exact rfl))
    | with_reducible first
      | refine' s_c ?_ | refine' s_op ?_ | refine' s_asg ?_ | refine' s_gname ?_ | refine' s_seq ?_ | refine' s_next ?_ | refine' s_ret ?_ | refine' s_ifS ?_ | refine' s_drop ?_ | refine' s_retN ?_
      | refine' s_test ?_ | refine' s_B ?_ | refine' q_test ?_ | refine' s_int ?_ | refine' s_cons ?_ | refine' s_nil ?_ | refine' s_call ?_ | refine' s_CB ?_ | refine' s_andT ?_ | refine' s_orT ?_ | refine' s_notT ?_
      | refine' s_andV ?_ | refine' s_orV ?_ | refine' s_notV ?_ | refine' s_ifV ?_ | refine' s_chain ?_ | refine' s_sl ?_ | refine' s_noPart ?_ | refine' s_part ?_ | refine' s_gsub ?_ | refine' s_BM ?_ | refine' s_tup ?_ | refine' s_lst ?_
      | refine' q_add ?_ | refine' q_sub ?_ | refine' q_lt ?_ | refine' q_le ?_ | refine' q_gt ?_ | refine' q_ge ?_ | refine' s_ifT ?_ | refine' s_ifF ?_ | refine' s_yes ?_ | refine' s_prop ?_ | refine' s_iList ?_ | refine' s_callOS ?_ | refine' s_iStr ?_ | refine' s_M0 ?_ | refine' s_make ?_ | refine' s_makeS ?_ | refine' s_ownL ?_ | refine' s_ownR ?_ | refine' s_callSD ?_ | refine' s_fld ?_ | refine' s_prop ?_ | refine' s_meth ?_ | refine' s_raise1 ?_ | refine' s_for ?_ | refine' s_rng1 ?_ | refine' s_par ?_ | refine' s_gcons ?_ | refine' s_gnil ?_ | refine' s_iList ?_ | refine' s_iEnum ?_
      | (refine' q_mod ?hm ?_; (case hm => first | omega | decide)) | (refine' q_fdiv ?hm ?hn ?_; (case hm => first | omega | decide); (case hn => first | omega | decide))
      | (refine' q_mulR ?hm ?_; (case hm => first | omega | decide)) | (refine' q_mulL ?hm ?_; (case hm => first | omega | decide))
    | dsimp only
  k_with "r_M5" => repeat (k_extra "s_M5")
  trivial
/-! ### _law_five -/
/-- a piece that stands, with its form's place -/
def PcAtA (C CP : Addr) (H : Hp) (p : Addr) (f : Str) (a : Addr) (l : Str) (c : Int) (m : Option Str) (bs : List Str) (e : Bool) : Prop :=
  ∃ dx n lo hi, H p = some (.ins CP dx (pcf (.str f) (.ref a) (mkV m) (.ref n) (.bl e) lo hi)) ∧ FormAt C H a l c ∧ H n = some (.lst (bs.map V.str)) ∧ KyO l c H lo m ∧ KyO l c H hi (hiOf e bs)
section
variable {K : PySem.W.Frag} {C CP CL : Addr} {H H' : Hp} {p a : Addr} {f l : Str} {c : Int} {m : Option Str} {bs : List Str} {e : Bool}
theorem PcAtA.at (h : PcAtA C CP H p f a l c m bs e) : PcAt C CP H p f l c m bs e := let ⟨dx, n, lo, hi, h⟩ := h; ⟨dx, a, n, lo, hi, h⟩
theorem PcAtA.mono (S : Same H H') : PcAtA C CP H p f a l c m bs e → PcAtA C CP H' p f a l c m bs e :=
  fun ⟨dx, n, lo, hi, h1, h2, h3, h4, h5⟩ => ⟨dx, n, lo, hi, S _ _ h1, h2.mono S, S _ _ h3, h4.keep fun _ => KyAt.mono S, h5.keep fun _ => KyAt.mono S⟩
theorem q_formA {Q : VK} (h : PcAtA C CP H p f a l c m bs e) (q : Q (.ref a) H) : ∃ b dx fs, V.ref p = .ref b ∧ H b = some (.ins CP dx fs) ∧ getSp CP "_form" (.ref b :: []) H Q E0 :=
  let ⟨dx, n, lo, hi, g1, g2, _⟩ := h; ⟨p, dx, _, rfl, g1, p, dx, _, _, rfl, g1, pcf_form, q⟩
theorem q_pieceA {q : Addr} {Q : Addr → Hp → Prop} {E : XK} (h : PcIn C H f a l c m q bs e) (k : ∀ p H', H p = none → Same H H' → PcAtA C CP H' p f a l c m bs e → Q p H') : ∀ x dx, H x = none → H dx = none → dx ≠ x → spPcInit K C CP CL [.ref x, .str f, .ref a, mkV m, .ref q, .bl e] (upd (upd H dx (.own x)) x (.ins CP dx [])) (fun v H2 => v = .non ∧ Q x H2) E := fun x dx nx nd ne => by
  have h' := h.mono (same_made (C := CP) nx nd)
  obtain ⟨g1, g2, g3, g4, g5⟩ := pcArgs (K := K) h'
  refine ⟨x, dx, _, _, _, _, _, "bool", rfl, upd_same, g1, g2, g3, g4, g5, fun f' a' l' c' m' q' bs' e' z1 z2 z3 z4 z5 p H' n lo hi k1 k2 k3 k4 k5 B => ?_, fun no => absurd ⟨f, a, l, c, m, q, bs, e, rfl, rfl, rfl, rfl, rfl, h'⟩ no⟩
  injection z1 with z1; injection z2 with z2; injection z4 with z4; injection z5 with z5
  have z3 := mkV_inj z3
  subst z1 z2 z3 z4 z5
  have hb := p.hq
  rw [h'.hq] at hb
  injection hb with hb; injection hb with hb
  have hb := map_str_inj hb
  subst hb
  obtain ⟨w1, w2⟩ := form_inj h'.fa p.fa
  subst w1 w2
  exact ⟨rfl, k x H' nx (fun b o e => B b o (ne_of_none e nx) (same_made nx nd _ _ e)) ⟨dx, n, lo, hi, k1, (let ⟨dx', ea⟩ := h.fa; ⟨dx', B _ _ (ne_of_none ea nx) (same_made nx nd _ _ ea)⟩), k3, k4, k5⟩⟩
end
structure TxtM5 (K : PySem.W.Frag) (mg : Str → Option Value) : Prop where
  d__law_five : Df K mg "_law_five" s__law_five ["_law_piece_here"]
section
variable {P : Program} {w : World} {K : PySem.W.Frag} {mg : Str → Option Value} {base : Heap} {C CP CL : Addr}
def spFive (C CP : Addr) : Sp := fun vs H Q _ => ∃ p f a l c m bs e, vs = [.ref p] ∧ PcAtA C CP H p f a l c m bs e ∧ ∀ D N H', Same H H' → H N = none → H D = none → H' D = some (.lst [.str f, .ref a, mkV m, .ref N, .bl e]) → H' N = some (.lst (bs.map V.str)) → Q (.ref D) H'
theorem ok__law_five (TS : TxtS K mg) (PC : PieceC K mg CP) (PP : PieceP K CP) (M : TxtM5 K mg) : Cal P w K mg base 3 "_law_five" (spFive C CP) := by
  refine M.d__law_five.cal sc__law_five (fun vs H Q E h => ?_) (fun fn cdv A outer s H vs Q E hr h => ?_)
  · obtain ⟨p, f, a, l, c, m, bs, e, rfl, _⟩ := h
    rfl
  · obtain ⟨p, f, a, l, c, m, bs, e, rfl, pa, k⟩ := h
    refine ⟨_, (pss_one (ps_ret (pe_lst (pa_cons (pe_folder PC PP hr (by decide) (pv 0)) (pa_cons (pe_formP PC PP hr (by decide) (pv 0)) (pa_cons (pe_mark PC PP hr (by decide) (pv 0)) (pa_cons (pe_namesP (C := C) TS PC PP hr (by decide) (pv 0)) (pa_cons (pe_ended PC PP hr (by decide) (pv 0)) pa_nil)))))))), ?_⟩
    k_extra "r_M5"
    refine q_folder pa.at ?_
    k_extra "r_M5"
    refine q_formA pa ?_
    k_extra "r_M5"
    refine q_mark pa.at ?_
    k_extra "r_M5"
    refine q_namesP pa.at fun N H1 nN S1 hN => ?_
    k_extra "r_M5"
    refine q_ended (pa.at.mono S1) ?_
    k_extra "r_M5"
    refine q_newL (by show 5 ≤ sizeLine; decide) fun D H2 nD S2 hD => ?_
    exact k D N H2 (S1.trans S2) nN (S1.free nD) hD (S2 _ _ hN)
end
end Bt
namespace Bt
open PySem PySem.Spec PyProof.Rows L2
/-! ### == of two lists that differ at their second item, by an own __eq__ -/
section
open SeqAt MeetsSeq MeetsSeq2 MeetsSeq3 SeqRoads2
open AutoSeq1 (wpAny_loadPart')
variable {prog : Program} {w : World} {A : Around} {R : Result → Shared → Prop}
def LstO (s : Shared) (l : Addr) (xs : Array Value) : Prop := ∃ n, s.heap.get? l = some { cls := .type "list", data := .seq xs n }
theorem turn_go {l b : Addr} {xs ys : Array Value} {i : Nat} {s : Shared} (h1 : LstO s l xs) (h2 : LstO s b ys) (k1 : i < xs.size) (k2 : i < ys.size)
    (t : wpAny (model prog w) A.in1 (eqBool xs[i] ys[i]) (fun r s2 => r = true ∧ wpAny (model prog w) A.in1 (Builtin.«list.__eq__.loop» ⟨[.ref l, .ref b, rawInt ((i + 1 : Nat) : Int), rawInt 2], []⟩) (GQ.FinOf prog w A R) (fun e s3 => R (.error e) s3) s2) (fun e s2 => R (.error e) s2) s) :
    wpAny (model prog w) A.in1 (Builtin.«list.__eq__.loop» ⟨[.ref l, .ref b, rawInt (i : Int), rawInt 2], []⟩) (GQ.FinOf prog w A R) (fun e s2 => R (.error e) s2) s := by
  obtain ⟨n, g1⟩ := h1
  obtain ⟨n2, g2⟩ := h2
  obtain ⟨hp, g, d, tk, os⟩ := s
  wp_walk using wpAny_loadPart' g1, wpAny_loadPart' g2
  have z1 : xs[((i : Nat) : Int).toNat]? = some xs[i] := by simp [k1]
  have z2 : ys[((i : Nat) : Int).toNat]? = some ys[i] := by simp [k2]
  have z3 : ((i : Int) + 1) = ((i + 1 : Nat) : Int) := by omega
  rw [z1, z2]
  refine wpAny_bind (wpAny_mono t (fun r s2 q => ?_) fun _ _ x => x)
  obtain ⟨rfl, q⟩ := q
  obtain ⟨hp2, g', d2, tk2, os2⟩ := s2
  wp_walk
  rw [z3]
  exact ⟨plainId_quiet plain_eq_loop _, codeAny_builtin entry_eq_loop (by
    rw [Around.under_plainId plain_eq_loop _]
    exact q)⟩
theorem turn_no {l b : Addr} {xs ys : Array Value} {i : Nat} {s : Shared} (h1 : LstO s l xs) (h2 : LstO s b ys) (k1 : i < xs.size) (k2 : i < ys.size)
    (t : wpAny (model prog w) A.in1 (eqBool xs[i] ys[i]) (fun r s2 => r = false ∧ (∃ xs2 ys2, LstO s2 l xs2 ∧ LstO s2 b ys2 ∧ i < xs2.size ∧ i < ys2.size) ∧ R (.ok (.ret (.bool false))) s2) (fun e s2 => R (.error e) s2) s) :
    wpAny (model prog w) A.in1 (Builtin.«list.__eq__.loop» ⟨[.ref l, .ref b, rawInt (i : Int), rawInt 2], []⟩) (GQ.FinOf prog w A R) (fun e s2 => R (.error e) s2) s := by
  obtain ⟨n, g1⟩ := h1
  obtain ⟨n2, g2⟩ := h2
  obtain ⟨hp, g, d, tk, os⟩ := s
  wp_walk using wpAny_loadPart' g1, wpAny_loadPart' g2
  have z1 : xs[((i : Nat) : Int).toNat]? = some xs[i] := by simp [k1]
  have z2 : ys[((i : Nat) : Int).toNat]? = some ys[i] := by simp [k2]
  rw [z1, z2]
  refine wpAny_bind (wpAny_mono t (fun r s2 q => ?_) fun _ _ x => x)
  obtain ⟨rfl, ⟨xs2, ys2, ⟨m, g3⟩, ⟨m2, g4⟩, j1, j2⟩, q⟩ := q
  obtain ⟨hp2, g', d2, tk2, os2⟩ := s2
  have z3 : xs2[((i : Nat) : Int).toNat]? = some xs2[i] := by simp [j1]
  have z4 : ys2[((i : Nat) : Int).toNat]? = some ys2[i] := by simp [j2]
  wp_walk using wpAny_loadPart' g3, wpAny_loadPart' g4
  rw [z3, z4]
  wp_walk
  exact q
theorem eq_start {l b : Addr} {xs ys : Array Value} {s : Shared} (h1 : LstO s l xs) (h2 : LstO s b ys) (k : xs.size = ys.size)
    (t : wpAny (model prog w) A.in1 (Builtin.«list.__eq__.loop» ⟨[.ref l, .ref b, rawInt ((0 : Nat) : Int), rawInt 2], []⟩) (GQ.FinOf prog w A R) (fun e s2 => R (.error e) s2) s) :
    wpAny (model prog w) A.in1 (Builtin.«list.__eq__» ⟨[.ref l, .ref b], []⟩) (GQ.FinOf prog w A R) (fun e s2 => R (.error e) s2) s := by
  obtain ⟨n, g1⟩ := h1
  obtain ⟨n2, g2⟩ := h2
  obtain ⟨hp, g, d, tk, os⟩ := s
  have f3 := AutoSeq1.sub_list_list
  have f4 : ¬ (xs.size != ys.size) = true := by simp [k]
  wp_walk using wpAny_loadPart' g1, wpAny_loadPart' g2
  exact ⟨plainId_quiet plain_eq_loop _, codeAny_builtin entry_eq_loop (by
    rw [Around.under_plainId plain_eq_loop _]
    exact t)⟩
end
def rEqF (K : PySem.W.Frag) (C : Addr) (sp : Sp) (E : XK) : R2 := fun x y H Q => ∃ a b x0 y0 p q xs ys, x = .ref a ∧ y = .ref b ∧ H a = some (.lst (x0 :: .ref p :: xs)) ∧ H b = some (.lst (y0 :: .ref q :: ys)) ∧ xs.length = ys.length ∧ EqV K H 0 x0 y0 true ∧ p ≠ q ∧
  (∃ dx fs t, H p = some (.ins C dx fs) ∧ TyX K H (.ref q) t ∧ PySem.W.notFirst K C t = true) ∧ sp [.ref p, .ref q] H (fun v H' => v = .bl false ∧ H' a = H a ∧ H' b = H b ∧ Q (.bl false) H') E
theorem op_eqF {X : Cx} {CX : CXT} {n : Nat} {C f : Addr} {fd : FuncData} {ps : List Str} {sp : Sp} {E : XK} (F : FnOk X.prog X.w X.K X.mg X.base CX n f fd ps sp) (hr : Room (n + 1) X.A) (hu : X.A.units + 66 < cLine)
    (hs : PySem.W.findIn X.K (.ref C) "__eq__" = some (some (.ref f))) (hf : PySem.W.isFn X.K (.ref f) = true) (hb : Binds X.K fd ps []) (hx : Passes CX X E) : OpR X (compareOp .Eq) (rEqF X.K C sp E) := by
  intro pins s σ H x y v u Q I rx ry hq
  obtain ⟨a, b, x0, y0, p, q, xs, ys, rfl, rfl, ha, hb', hl, e0, ne, ⟨dx, fs, t, hp, ty, hn⟩, hsp⟩ := hq
  cases rx
  cases ry
  obtain ⟨z, its, k, r, e⟩ := I.hok a _ ha
  obtain ⟨z2, its2, k2, r2, e2⟩ := I.hok b _ hb'
  cases r with
  | cons ra r =>
  cases r with
  | cons rp r =>
  cases r2 with
  | cons rb r2 =>
  cases r2 with
  | cons rq r2 =>
  cases rp
  cases rq
  have sz : xs.length = ys.length := hl
  have l1 := r.length
  have l2 := r2.length
  show wpAny (model X.prog X.w) X.A (richCompare .Eq (.ref a) (.ref b)) (EP X pins σ Q) X.xe s
  refine wpAny_richCompare_same_room (op := .Eq) ⟨_, e, rfl⟩ ⟨_, e2, rfl⟩ PySem.F.slot_list_eq (GQ.call_here PySem.F.slot_list_eq ⟨_, e, rfl⟩ PySem.F.entry_list_eq (PySem.F.args_list_eq_2 _ _) ?_) hr.units0
  refine eq_start ⟨_, e⟩ ⟨_, e2⟩ (by simp; omega) (turn_go (i := 0) ⟨_, e⟩ ⟨_, e2⟩ (by simp) (by simp) ?_)
  refine eqV_at I 0 x0 y0 true e0 X.A.in1 (by show X.A.units + 1 + 0 + 64 < cLine; omega) _ _ ra rb X.prog X.w _ _ ⟨rfl, ?_⟩
  refine turn_no (i := 1) ⟨_, e⟩ ⟨_, e2⟩ (by simp) (by simp) ?_
  refine GQ.eqBool_refG ne ?_
  obtain ⟨mA, J, _⟩ := ins_get I.hok hp
  obtain ⟨od, J, _⟩ := J.look
  obtain ⟨m, hF⟩ := I.fr
  obtain ⟨P, Z, pz, _⟩ := kit_of I (show RelV (.ref q) (.ref q) from rfl) ty
  have hri : Room n X.A.in1 := hr.in1
  refine PySem.W.cmp_K (op := .Eq) (tb := t) hri.units0 hF I.ok.mod.kin J (Z.ty _ _ I.kIn pz) hn hs hf ?_
  have hlen := F.len _ _ _ _ hsp
  have rr : Vals [V.ref p, V.ref q] [Value.ref p, Value.ref q] := .cons rfl (.cons rfl .nil)
  have e0 : Env0 X.prog X.w X.K X.mg X.base X.A.in1 X.stack s H := by
    have e := I.env0
    exact ⟨e.frames, e.mod, e.bs, e.bsz, e.funs, e.frf, e.hok, e.bare⟩
  refine wpAny_call (codeAny_mono (F.run X.A.in1 X.stack s H ⟨[.ref p, .ref q], []⟩ [.ref p, .ref q] [.ref p, .ref q] _ E hri e0 (by
    have := hb s [.ref p, .ref q] I.kIn (by simpa using hlen)
    simpa using this) rr hsp) fun r s' hq => ?_)
  cases r with
  | error e => exact hx pins σ H s e s' I hq
  | ok fl =>
    cases fl with
    | ret w =>
      obtain ⟨z, H', I', rz, ez, ha', hb2, q⟩ := I.after hq
      subst ez
      cases rz
      rw [ha] at ha'
      rw [hb'] at hb2
      obtain ⟨_, js, m1, w1, f1⟩ := I'.hok a _ ha'
      obtain ⟨_, js2, m2, w2, f2⟩ := I'.hok b _ hb2
      have n1 := w1.length
      have n2 := w2.length
      refine ⟨false, rfl, rfl, ⟨_, _, ⟨_, f1⟩, ⟨_, f2⟩, ?_, ?_⟩, (show Value.bool false ≠ Value.notImplemented ∧ EP X pins σ Q (.bool false) s' from ⟨(fun x => nomatch x), .bl false, H', I', rfl, q⟩)⟩
      · simp at n1 ⊢; omega
      · simp at n2 ⊢; omega
    | next => exact False.elim hq
    | brk => exact False.elim hq
    | cont => exact False.elim hq
end Bt
namespace Bt
open PySem PySem.Spec PyProof.Rows L2 LamX NdefX
open PySem.W (dataLt dataLe alike AllAlike Sortable)
theorem words49_ : True := by
  k_with "s_O5b" => first
    | ((with_reducible refine' s_var ?hv ?_); (case hv => exact rfl))
    | with_reducible first
      | refine' s_c ?_ | refine' s_op ?_ | refine' s_asg ?_ | refine' s_gname ?_ | refine' s_seq ?_ | refine' s_next ?_ | refine' s_ret ?_ | refine' s_ifS ?_ | refine' s_drop ?_ | refine' s_retN ?_
      | refine' s_test ?_ | refine' s_B ?_ | refine' q_test ?_ | refine' s_int ?_ | refine' s_cons ?_ | refine' s_nil ?_ | refine' s_call ?_ | refine' s_CB ?_ | refine' s_andT ?_ | refine' s_orT ?_ | refine' s_notT ?_
      | refine' s_andV ?_ | refine' s_orV ?_ | refine' s_notV ?_ | refine' s_ifV ?_ | refine' s_chain ?_ | refine' s_sl ?_ | refine' s_noPart ?_ | refine' s_part ?_ | refine' s_gsub ?_ | refine' s_BM ?_ | refine' s_tup ?_ | refine' s_lst ?_
      | refine' q_add ?_ | refine' q_sub ?_ | refine' q_lt ?_ | refine' q_le ?_ | refine' q_gt ?_ | refine' q_ge ?_ | refine' s_ifT ?_ | refine' s_ifF ?_ | refine' s_yes ?_ | refine' s_prop ?_ | refine' s_iList ?_ | refine' s_callOS ?_ | refine' s_iStr ?_ | refine' s_M0 ?_ | refine' s_make ?_ | refine' s_makeS ?_ | refine' s_ownL ?_ | refine' s_ownR ?_ | refine' s_callSD ?_ | refine' s_fld ?_ | refine' s_prop ?_ | refine' s_meth ?_ | refine' s_raise1 ?_ | refine' s_for ?_ | refine' s_rng1 ?_ | refine' s_par ?_ | refine' s_gcons ?_ | refine' s_gnil ?_ | refine' s_iList ?_ | refine' s_iEnum ?_
      | (refine' q_mod ?hm ?_; (case hm => first | omega | decide)) | (refine' q_fdiv ?hm ?hn ?_; (case hm => first | omega | decide); (case hn => first | omega | decide))
      | (refine' q_mulR ?hm ?_; (case hm => first | omega | decide)) | (refine' q_mulL ?hm ?_; (case hm => first | omega | decide))
    | dsimp only
  k_with "r_O5b" => repeat (k_extra "s_O5b")
  trivial
/-! ### _law_forms_apart -/
theorem cutV_take {xs : List V} (k : Nat) : cutV xs none (some (k : Int)) = xs.take k := by
  unfold cutV
  rw [HT.sIx_nat, HT.sIx_none, List.drop_zero, Nat.sub_zero]
  rcases Nat.lt_or_ge xs.length k with h | h
  · rw [Nat.min_eq_right (by omega), List.take_of_length_le (Nat.le_refl _), List.take_of_length_le (by omega)]
  · rw [Nat.min_eq_left h]
theorem cutV_drop {xs : List V} (k : Nat) : cutV xs (some (k : Int)) none = xs.drop k := by
  unfold cutV
  rw [HT.sIx_nat, HT.sIx_none]
  rcases Nat.lt_or_ge xs.length k with h | h
  · rw [Nat.min_eq_right (by omega), List.drop_eq_nil_of_le (Nat.le_refl _), List.drop_eq_nil_of_le (by omega), List.take_nil]
  · rw [Nat.min_eq_left h, List.take_of_length_le (by rw [List.length_drop]; omega)]
theorem cutV_init {xs : List V} {i : Int} (k : Nat) (e : i = -(k : Int)) (h : 0 < k) : cutV xs none (some i) = xs.take (xs.length - k) := by
  have z : HT.sIx xs.length xs.length (some i) = xs.length - k := by
    show (if i < 0 then (i + (xs.length : Int)).toNat else min i.toNat xs.length) = _
    rw [if_pos (by omega)]
    omega
  unfold cutV
  rw [HT.sIx_none, z, List.drop_zero, Nat.sub_zero]
structure PieceN (K : PySem.W.Frag) (CP : Addr) : Prop where
  nfS : PySem.W.notFirst K CP (.ref CP) = true
theorem q_pcEq {K : PySem.W.Frag} {mg : Str → Option Value} {C CP : Addr} {H : Hp} {Q : VK} {p p' : Addr} {f l f' l' : Str} {c c' : Int} {m m' : Option Str} {bs bs' : List Str} {e e' : Bool} (PC : PieceC K mg CP) (PE' : PieceE K CP) (PN : PieceN K CP)
    (h : PcAt C CP H p f l c m bs e) (s : PcS f l c m bs e) (h' : PcAt C CP H p' f' l' c' m' bs' e') (s' : PcS f' l' c' m' bs' e') (q : ∀ H', Same H H' → Q (.bl (decide (five f l c m bs e f' l' c' m' bs' e'))) H') : rEqOwn K CP (spPcEq K C CP) E0 (.ref p) (.ref p') H Q := by
  obtain ⟨dx, a, n, lo, hi, g, _⟩ := id h
  exact ⟨p, dx, _, .ref CP, rfl, g, h'.ty PC PE', PN.nfS, p, .ref p', f, l, c, m, bs, e, rfl, h, s, .inl ⟨p', f', l', c', m', bs', e', rfl, h', s', fun H' S => ⟨_, rfl, q H' S⟩⟩⟩
theorem s_revS {te : TE} {σ : L2.St} {H : Hp} {Q : VK} (h : te σ H fun x H1 => ∃ z, x = .str z ∧ (revT z).length ≤ sizeLine ∧ Q (.str (revT z)) H1) : tRevS te σ H Q := h
structure TxtO5 (K : PySem.W.Frag) (mg : Str → Option Value) : Prop where
  d__law_forms_apart : Df K mg "_law_forms_apart" s__law_forms_apart ["_law_folder", "_law_spec", "_law_names_here"]
section
variable {P : Program} {w : World} {K : PySem.W.Frag} {mg : Str → Option Value} {base : Heap} {C CP CL CI : Addr}
def Oth (H : Hp) (l : Str) (c : Int) (x : V) : Prop := ∃ t l' c', x = .ref t ∧ H t = some (.tup [.str l', .int c']) ∧ Letters l' ∧ 1 ≤ c' ∧ c' ≤ 1000 ∧ ¬ (l = l' ∧ c = c')
theorem Oth.mono {H H' : Hp} {l : Str} {c : Int} {x : V} (S : Same H H') : Oth H l c x → Oth H' l c x := fun ⟨t, l', c', h, h2, h3⟩ => ⟨t, l', c', h, S _ _ h2, h3⟩
theorem Oth.but {H H' : Hp} {l : Str} {c : Int} {x : V} {D : Addr} {zs : List V} (hD : H D = some (.lst zs)) (S : But D H H') : Oth H l c x → Oth H' l c x := fun ⟨t, l', c', h, h2, h3⟩ => ⟨t, l', c', h, S _ _ (fun z => by rw [z, hD] at h2; cases h2) h2, h3⟩
def spApart : Sp := fun vs H Q _ => ∃ (f : Str) (sp n : Addr) (l : Str) (c : Int) (bs : List Str), vs = [.str f, .ref sp, .ref n] ∧ Nm f ∧ H sp = some (.tup [.str l, .int c]) ∧ Letters l ∧ 1 ≤ c ∧ c ≤ 1000 ∧ H n = some (.lst (bs.map V.str)) ∧ bs.length ≤ 100 ∧ (∀ z ∈ bs, Nm z) ∧ ∀ H', Same H H' → Q (.bl true) H'
theorem ok__law_forms_apart (T : Txt K mg) (L : TxtL K mg) (N : TxtN K mg) (TS : TxtS K mg) (FC : FormC K mg C) (TK : TxtK K mg) (R : TxtR K mg) (Y : TxtC K mg) (PC : PieceC K mg CP) (PG : PieceG K mg CP) (PP : PieceP K CP) (PE' : PieceE K CP) (PN : PieceN K CP) (XL : ExcF K mg "InvalidLook" "value" CL) (XI : ExcF K mg "InvalidForm" "value" CI) (M : TxtO5 K mg) : Cal P w K mg base 10 "_law_forms_apart" spApart := by
  obtain ⟨fq, fdq, e1, e2, FQ, be⟩ := PE'.eq
  refine M.d__law_forms_apart.cal sc__law_forms_apart (fun vs H Q E h => ?_) (fun fn cdv A outer s H vs Q E hr h => ?_)
  · obtain ⟨f, sp, n, l, c, bs, rfl, _⟩ := h
    rfl
  · obtain ⟨f, sp, n, l, c, bs, rfl, nf, hsp, ll, c1, c2, hn, hz, nb, k⟩ := h
    have hu := hr.units
    refine ⟨_, (pss_cons (ps_set (i := 3) sc__law_forms_apart.nd rfl (.inl rfl) (pe_piece T L N TS FC TK R Y PC PG XL hr (by decide) (pv 0) (pe_form2 T FC XI hr (by decide) (pe_ix ix_seq (pv 1) pe_int (fun _ _ => rfl)) (pe_ix ix_seq (pv 1) pe_int (fun _ _ => rfl))) pe_non (pe_slice sl_list (pv 2) po_none (po_some pe_int)) pe_bl))
      (pss_cons (ps_set (i := 4) sc__law_forms_apart.nd rfl (.inl rfl) (pe_lst (pa_cons (pe_tup (pa_cons (pe_ix ix_seq (pv 1) pe_int (fun _ _ => rfl)) (pa_cons (pe_op op_addU (pe_op op_modU (pe_ix ix_seq (pv 1) pe_int (fun _ _ => rfl)) pe_int) pe_int) pa_nil))) (pa_cons (pe_tup (pa_cons (pe_revS (pe_ix ix_seq (pv 1) pe_int (fun _ _ => rfl))) (pa_cons (pe_ix ix_seq (pv 1) pe_int (fun _ _ => rfl)) pa_nil))) pa_nil))))
      (pss_cons (ps_expr (pe_bm PySem.F.plainAttrs_list PySem.F.slot_list_append PySem.F.type_list_append mt_append (pv 4) (pa_cons (pe_tup (pa_cons (pe_op op_addU (pe_slice sl_str (pe_ix ix_seq (pv 1) pe_int (fun _ _ => rfl)) (po_some pe_int) po_none) (pe_slice sl_str (pe_ix ix_seq (pv 1) pe_int (fun _ _ => rfl)) po_none (po_some pe_int))) (pa_cons (pe_ix ix_seq (pv 1) pe_int (fun _ _ => rfl)) pa_nil))) pa_nil)))
      (pss_cons (ps_for PassesOwn.never rfl (pi_list (pv 4)) (pg_tup (by rfl) (pgs_cons (pg_name (i := 5) sc__law_forms_apart.nd rfl (.inl rfl)) (pgs_cons (pg_name (i := 6) sc__law_forms_apart.nd rfl (.inl rfl)) pgs_nil)))
        (pss_cons (ps_set (i := 7) sc__law_forms_apart.nd rfl (.inl rfl) (pe_piece T L N TS FC TK R Y PC PG XL hr (by decide) (pv 0) (pe_form2 T FC XI hr (by decide) (pv 5) (pv 6)) pe_non (pe_slice sl_list (pv 2) po_none (po_some pe_int)) pe_bl))
          (pss_one (ps_if (PW.pt (pw_or (pt_cmpR (op_eqOwn (ok_piece_eq (C := C) T TS FC PC PP PG PE' FQ) (hr.mono (by decide)) e1 e2 be pass0) (pv 3) (pv 7) (by rfl)) (pw_or1 (pt_cmpR (op_eqOwn (ok_piece_eq (C := C) T TS FC PC PP PG PE' FQ) (hr.mono (by decide)) e1 e2 be pass0) (pv 7) (pv 3) (by rfl))))) (pss_one (ps_ret pe_bl)) pss_nil))))
      (pss_one (ps_ret (pe_cmpR (op_eqOwn (ok_piece_eq (C := C) T TS FC PC PP PG PE' FQ) (hr.mono (by decide)) e1 e2 be pass0) (pv 3) (pe_piece T L N TS FC TK R Y PC PG XL hr (by decide) (pv 0) (pe_form2 T FC XI hr (by decide) (pe_ix ix_seq (pv 1) pe_int (fun _ _ => rfl)) (pe_ix ix_seq (pv 1) pe_int (fun _ _ => rfl))) pe_non (pe_slice sl_list (pv 2) po_none (po_some pe_int)) pe_bl) (by rfl)))))))), ?_⟩
    have cut1 : cutV (bs.map V.str) none (some 1) = (bs.take 1).map V.str := (cutV_take 1).trans List.map_take.symm
    have pin : ∀ {H2 : Hp} {fo q : Addr} {l' : Str} {c' : Int}, FormAt C H2 fo l' c' → Letters l' → 1 ≤ c' → H2 q = some (.lst ((bs.take 1).map V.str)) → PcIn C H2 f fo l' c' none q (bs.take 1) true := fun g1 g2 g3 g4 =>
      ⟨nf, g1, g2, g3, (fun z e => nomatch e), g4, by rw [List.length_take]; omega, fun z hz => nb z (List.mem_of_mem_take hz), rise_one, fun _ => rfl⟩
    have pcs : ∀ {l' : Str} {c' : Int}, Letters l' → 1 ≤ c' → PcS f l' c' none (bs.take 1) true := fun g2 g3 => ⟨nf, g2, g3, (fun z e => nomatch e), by rw [List.length_take]; omega, fun z hz => nb z (List.mem_of_mem_take hz)⟩
    k_extra "r_O5b"
    refine q_ixT (SqT.of hsp) (at_of (j := 0) rfl rfl) ?_
    k_extra "r_O5b"
    refine q_ixT (SqT.of hsp) (at_of (j := 1) rfl rfl) ?_
    k_extra "r_O5b"
    refine q_form ll c1 c2 fun fo H1 n1 S1 f1 => ?_
    k_extra "r_O5b"
    refine q_slL (SqL.of (S1 _ _ hn)) fun q H2 n2 S2 h2 => ?_
    rw [cut1] at h2
    k_extra "r_O5b"
    refine q_pieceA (m := none) (pin (f1.mono S2) ll c1 h2) fun p H3 n3 S3 pa => ?_
    have S03 := (S1.trans S2).trans S3
    have hsp3 := S03 _ _ hsp
    have hn3 := S03 _ _ hn
    clear n1 S1 f1 h2 n2 S2 n3 S3
    k_extra "r_O5b"
    refine q_ixT (SqT.of hsp3) (at_of (j := 0) rfl rfl) ?_
    k_extra "r_O5b"
    refine q_ixT (SqT.of hsp3) (at_of (j := 1) rfl rfl) ?_
    k_extra "r_O5b"
    refine q_newT (by show 2 ≤ sizeLine; decide) fun t1 H4 n4 S4 h4 => ?_
    k_extra "r_O5b"
    refine s_revS ?_
    k_extra "r_O5b"
    refine q_ixT (SqT.of (S4 _ _ hsp3)) (at_of (j := 0) rfl rfl) ?_
    refine ⟨l, rfl, sz (by rw [(letters_revT ll).len]; decide), ?_⟩
    k_extra "r_O5b"
    refine q_ixT (SqT.of (S4 _ _ hsp3)) (at_of (j := 1) rfl rfl) ?_
    k_extra "r_O5b"
    refine q_newT (by show 2 ≤ sizeLine; decide) fun t2 H5 n5 S5 h5 => ?_
    k_extra "r_O5b"
    refine q_newL (by show 2 ≤ sizeLine; decide) fun D H6 n6 S6 h6 => ?_
    have S46 := S5.trans S6
    have hsp6 := S46 _ _ (S4 _ _ hsp3)
    k_extra "r_O5b"
    refine ⟨.inl ⟨rfl, _, SqL.of h6⟩, ?_⟩
    k_extra "r_O5b"
    refine q_ixT (SqT.of hsp6) (at_of (j := 0) rfl rfl) ?_
    k_extra "r_O5b"
    have hl26 : l.length ≤ sizeLine := sz (by rw [ll.len]; decide)
    refine ⟨l, rfl, hl26, ?_⟩
    k_extra "r_O5b"
    refine q_ixT (SqT.of hsp6) (at_of (j := 0) rfl rfl) ?_
    k_extra "r_O5b"
    refine ⟨l, rfl, hl26, ?_⟩
    have ec1 := cut_from (z := l) (i := 1) (by decide)
    have ec2 := cut_to (z := l) (j := 1) (by decide)
    have lr := letters_rot ll ec1 ec2
    refine q_addS (by rw [← app_len, lr.len]; exact sz (by decide)) ?_
    k_extra "r_O5b"
    refine q_ixT (SqT.of hsp6) (at_of (j := 1) rfl rfl) ?_
    k_extra "r_O5b"
    refine q_newT (by show 2 ≤ sizeLine; decide) fun t3 H7 n7 S7 h7 => ?_
    k_extra "r_O5b"
    refine q_append (S7 _ _ h6) (by show 2 < sizeLine; decide) fun H8 b8 h8 => ?_
    have S38 : Same H3 H8 := fun z o h => b8 _ _ (ne_of_none h ((S4.trans S5).free n6)) (((S4.trans S5).trans (S6.trans S7)) _ _ h)
    have oth : ∀ x ∈ [V.ref t1, .ref t2] ++ [.ref t3], Oth H8 l c x := fun x hx => by
      simp only [List.cons_append, List.nil_append, List.mem_cons, List.not_mem_nil, or_false] at hx
      rcases hx with rfl | rfl | rfl
      · exact Oth.but (S7 _ _ h6) b8 ⟨t1, _, _, rfl, S7 _ _ (S46 _ _ h4), ll, by omega, by omega, by omega⟩
      · exact Oth.but (S7 _ _ h6) b8 ⟨t2, _, _, rfl, S7 _ _ (S6 _ _ h5), letters_revT ll, c1, c2, fun z => revT_ne ll z.1.symm⟩
      · exact Oth.but (S7 _ _ h6) b8 ⟨t3, _, _, rfl, h7, lr, c1, c2, fun z => rot_ne ll ec1 ec2 z.1.symm⟩
    have hsp8 := S38 _ _ hsp3
    have hn8 := S38 _ _ hn3
    have pa8 := pa.mono S38
    have S08 := S03.trans S38
    clear pa hsp3 hn3 h4 h5 h6 h7 b8 hsp6 S46 S03
    k_extra "r_O5b"
    refine ⟨D, rfl, ⟨_, SqL.of h8⟩, q_forL (K := K) (a := D) (xs := [.ref t1, .ref t2] ++ [.ref t3]) (fun j σ H' => ∃ v5 v6 v7, σ = [some (.str f), some (.ref sp), some (.ref n), some (.ref p), some (.ref D), v5, v6, v7] ∧ Same H8 H') ⟨_, _, _, rfl, Same.refl _⟩ (fun j σ H' _ ⟨_, _, _, _, h⟩ => SqL.of (h _ _ h8)) ?_ ?_⟩
    · rintro j y σ H9 hy ⟨v5, v6, v7, rfl, S9⟩
      obtain ⟨t, l', c', rfl, ht, ll', c1', c2', ne⟩ := (oth y (List.mem_of_getElem? hy)).mono S9
      k_extra "r_O5b"
      refine q_gtup (SqT.of ht) rfl ?_
      k_extra "r_O5b"
      refine q_form ll' c1' c2' fun fo H10 n10 S10 f10 => ?_
      k_extra "r_O5b"
      refine q_slL (SqL.of (S10 _ _ (S9 _ _ hn8))) fun q H11 n11 S11 h11 => ?_
      rw [cut1] at h11
      k_extra "r_O5b"
      refine q_pieceA (m := none) (pin (f10.mono S11) ll' c1' h11) fun p2 H12 n12 S12 pa2 => ?_
      have S912 := (S10.trans S11).trans S12
      have pa12 := (pa8.mono S9).mono S912
      k_extra "r_O5b"
      refine q_pcEq PC PE' PN pa12.at (pcs ll c1) pa2.at (pcs ll' c1') fun H13 S13 => ?_
      rw [decide_eq_false (fun z => ne z.2.1)]
      refine q_test (s_if0 rfl ?_)
      k_extra "r_O5b"
      refine q_pcEq PC PE' PN (pa2.at.mono S13) (pcs ll' c1') (pa12.at.mono S13) (pcs ll c1) fun H14 S14 => ?_
      rw [decide_eq_false (fun z => ne ⟨z.2.1.1.symm, z.2.1.2.symm⟩)]
      refine q_test (s_if0 rfl ?_)
      k_extra "r_O5b"
      exact ⟨_, _, _, rfl, S9.trans (S912.trans (S13.trans S14))⟩
    · rintro σ H9 ⟨v5, v6, v7, rfl, S9⟩
      have hsp9 := S9 _ _ hsp8
      k_extra "r_O5b"
      refine q_ixT (SqT.of hsp9) (at_of (j := 0) rfl rfl) ?_
      k_extra "r_O5b"
      refine q_ixT (SqT.of hsp9) (at_of (j := 1) rfl rfl) ?_
      k_extra "r_O5b"
      refine q_form ll c1 c2 fun fo H10 n10 S10 f10 => ?_
      k_extra "r_O5b"
      refine q_slL (SqL.of (S10 _ _ (S9 _ _ hn8))) fun q H11 n11 S11 h11 => ?_
      rw [cut1] at h11
      k_extra "r_O5b"
      refine q_pieceA (m := none) (pin (f10.mono S11) ll c1 h11) fun p2 H12 n12 S12 pa2 => ?_
      have S912 := (S10.trans S11).trans S12
      refine q_pcEq PC PE' PN ((pa8.mono S9).mono S912).at (pcs ll c1) pa2.at (pcs ll c1) fun H13 S13 => ?_
      rw [decide_eq_true ⟨rfl, ⟨rfl, rfl⟩, rfl, rfl, rfl⟩]
      exact k H13 (S08.trans (S9.trans (S912.trans S13)))
end
end Bt
namespace Bt
open PySem PySem.Spec PyProof.Rows L2 LamX NdefX
open PySem.W (dataLt dataLe alike AllAlike Sortable)
theorem words50_ : True := by
  k_with "s_LH5" => first
    | ((with_reducible refine' s_var ?hv ?_); (case hv => exact rfl))
    | with_reducible first
      | refine' s_c ?_ | refine' s_op ?_ | refine' s_asg ?_ | refine' s_gname ?_ | refine' s_seq ?_ | refine' s_next ?_ | refine' s_ret ?_ | refine' s_ifS ?_ | refine' s_drop ?_ | refine' s_retN ?_
      | refine' s_test ?_ | refine' s_B ?_ | refine' q_test ?_ | refine' s_int ?_ | refine' s_cons ?_ | refine' s_nil ?_ | refine' s_call ?_ | refine' s_CB ?_ | refine' s_andT ?_ | refine' s_orT ?_ | refine' s_notT ?_
      | refine' s_andV ?_ | refine' s_orV ?_ | refine' s_notV ?_ | refine' s_ifV ?_ | refine' s_chain ?_ | refine' s_sl ?_ | refine' s_noPart ?_ | refine' s_part ?_ | refine' s_gsub ?_ | refine' s_BM ?_ | refine' s_tup ?_ | refine' s_lst ?_
      | refine' q_add ?_ | refine' q_sub ?_ | refine' q_lt ?_ | refine' q_le ?_ | refine' q_gt ?_ | refine' q_ge ?_ | refine' s_ifT ?_ | refine' s_ifF ?_ | refine' s_yes ?_ | refine' s_prop ?_ | refine' s_iList ?_ | refine' s_callOS ?_ | refine' s_iStr ?_ | refine' s_M0 ?_ | refine' s_make ?_ | refine' s_makeS ?_ | refine' s_ownL ?_ | refine' s_ownR ?_ | refine' s_callSD ?_ | refine' s_fld ?_ | refine' s_prop ?_ | refine' s_meth ?_ | refine' s_raise1 ?_ | refine' s_for ?_ | refine' s_rng1 ?_ | refine' s_par ?_ | refine' s_gcons ?_ | refine' s_gnil ?_ | refine' s_iList ?_ | refine' s_iEnum ?_
      | (refine' q_mod ?hm ?_; (case hm => first | omega | decide)) | (refine' q_fdiv ?hm ?hn ?_; (case hm => first | omega | decide); (case hn => first | omega | decide))
      | (refine' q_mulR ?hm ?_; (case hm => first | omega | decide)) | (refine' q_mulL ?hm ?_; (case hm => first | omega | decide))
    | dsimp only
  k_with "r_LH5" => repeat (k_extra "s_LH5")
  trivial
/-! ### says, asked by the law -/
structure PieceT (K : PySem.W.Frag) (CP : Addr) : Prop where
  say : ∃ (f : Addr) (fd : FuncData), Meth K CP "says" f ∧ Fun K "says" "Piece.says" s_Piece_says f fd ∧ Binds K fd ["self", "place"] []
section
variable {X : Cx} {k : Nat} {C CP CL : Addr} {o e : Expr} {to te : TE} {pos apos : Pos}
theorem pe_saysS {W : WX} (T : Txt X.K X.mg) (L : TxtL X.K X.mg) (N : TxtN X.K X.mg) (I : TxtI X.K X.mg) (FC : FormC X.K X.mg C) (TK : TxtK X.K X.mg) (PC : PieceC X.K X.mg CP) (PM : PieceM X.K CP) (PT : PieceT X.K CP) (XP : ExcF X.K X.mg "InvalidPlace" "value" CL) (hr : Room k X.A) (hk : 6 ≤ k) (tk : Takes X W) (ho : PE X o to) (ha : PE X e te)
    {pl : Sem Bool} (ht : eval (.Call (.Attribute o "says" apos) [e] [] pos) X.env = (do
      let ov ← eval o X.env
      standAt apos.atName
      let (f, first) ← holding [ov] (getMethod ov "says" pl)
      callWith pos f first (backTo pos (starEach [e] X.env)) (backToKw pos (keywordEach [] X.env))) := by rfl)
    (he : starEach [e] X.env = (false, eval e X.env) :: starEach [] X.env := by rfl) (hpl : (backTo pos (starEach [] X.env)).any (·.1) = false := by rfl) :
    PE X (.Call (.Attribute o "says" apos) [e] [] pos) (tMethE CP "says" (spSays X.K C CP CL) (fun σ => WE W σ) to (tCons te tNil)) := by
  obtain ⟨f, fd, m, F, b⟩ := PT.say
  exact pe_methE (pl := pl) ho PC.cl m (ok_piece_says T L N I FC TK PC PM XP F) (hr.mono hk) b (fun σ => passAt tk σ) (pa_cons ha pa_nil he) ht he hpl
theorem pe_says (T : Txt X.K X.mg) (L : TxtL X.K X.mg) (N : TxtN X.K X.mg) (I : TxtI X.K X.mg) (FC : FormC X.K X.mg C) (TK : TxtK X.K X.mg) (PC : PieceC X.K X.mg CP) (PM : PieceM X.K CP) (PT : PieceT X.K CP) (XP : ExcF X.K X.mg "InvalidPlace" "value" CL) (hr : Room k X.A) (hk : 6 ≤ k) (ho : PE X o to) (ha : PE X e te)
    {pl : Sem Bool} (ht : eval (.Call (.Attribute o "says" apos) [e] [] pos) X.env = (do
      let ov ← eval o X.env
      standAt apos.atName
      let (f, first) ← holding [ov] (getMethod ov "says" pl)
      callWith pos f first (backTo pos (starEach [e] X.env)) (backToKw pos (keywordEach [] X.env))) := by rfl)
    (he : starEach [e] X.env = (false, eval e X.env) :: starEach [] X.env := by rfl) (hpl : (backTo pos (starEach [] X.env)).any (·.1) = false := by rfl) :
    PE X (.Call (.Attribute o "says" apos) [e] [] pos) (tMethE CP "says" (spSays X.K C CP CL) (fun _ => E0) to (tCons te tNil)) := by
  obtain ⟨f, fd, m, F, b⟩ := PT.say
  exact pe_methE (pl := pl) ho PC.cl m (ok_piece_says T L N I FC TK PC PM XP F) (hr.mono hk) b (fun σ pins H s e s' I q => passL pins σ H s e s' I q) (pa_cons ha pa_nil he) ht he hpl
end
theorem pcf_no {f a m n e lo hi : V} : (pcf f a m n e lo hi).lookup (Str.ofString "says") = none := by
  unfold pcf pcf5
  rw [lookup_putF, if_neg (by decide +kernel), lookup_putF, if_neg (by decide +kernel), lookup_putF, if_neg (by decide +kernel), lookup_putF, if_neg (by decide +kernel), lookup_putF, if_neg (by decide +kernel), lookup_putF, if_neg (by decide +kernel), lookup_putF, if_neg (by decide +kernel)]
  rfl
/-! ### the law -/
theorem SqL_but {K : PySem.W.Frag} {H H' : Hp} {a p : Addr} {xs : List V} (n : a ≠ p) (B : But p H H') (h : SqL K H a xs) : SqL K H' a xs := by
  rcases h with (h | ⟨o, h⟩) | h
  · exact .inl (.inl (B _ _ n h))
  · exact .inl (.inr ⟨o, B _ _ n h⟩)
  · exact .inr h
def Sc1 (K : PySem.W.Frag) (H : Hp) (p a : Addr) (xs : List V) : Prop := (a ≠ p ∧ SqL K H a xs) ∨ ∀ H', SqL K H' a xs
theorem Sc1.of {K : PySem.W.Frag} {H H' : Hp} {p a : Addr} {xs : List V} (h : SqL K H a xs) (n : H p = none) (S : Same H H') : Sc1 K H' p a xs := by
  rcases h with (h | ⟨o, h⟩) | h
  · exact .inl ⟨ne_of_none h n, .inl (.inl (S _ _ h))⟩
  · exact .inl ⟨ne_of_none h n, .inl (.inr ⟨o, S _ _ h⟩)⟩
  · exact .inr fun _ => .inr h
theorem Sc1.sq {K : PySem.W.Frag} {H : Hp} {p a : Addr} {xs : List V} (h : Sc1 K H p a xs) : SqL K H a xs := h.elim (fun z => z.2) fun z => z H
theorem Sc1.ext {K : PySem.W.Frag} {H H' : Hp} {p a : Addr} {xs : List V} (S : ExtN H H') (h : Sc1 K H p a xs) : Sc1 K H' p a xs := h.imp (fun z => ⟨z.1, SqL_monoN S z.2⟩) id
theorem Sc1.but {K : PySem.W.Frag} {H H' : Hp} {p a : Addr} {xs : List V} (B : But p H H') (h : Sc1 K H p a xs) : Sc1 K H' p a xs := h.imp (fun z => ⟨z.1, SqL_but z.1 B z.2⟩) id
theorem nil_ne {K : PySem.W.Frag} {H H' : Hp} {Q : VK} {D l0 : Addr} (S : Same H H') (h : H D = some (.lst [])) (h0 : H' l0 = some (.lst [])) (q : Q (.bl false) H') : rNeU K (.ref D) (.ref l0) H' Q := by
  refine q_neD (dp_lst_ints (ns := []) (S _ _ h)) (dp_lst_ints (ns := []) h0) (shaped_ints []) (shaped_ints []) ?_
  rw [SeqAt.eqv_refl _ (SeqAt.canLay_of_shaped (shaped_ints []))]
  exact q
theorem Sc1.buN {K : PySem.W.Frag} {H H' : Hp} {p a : Addr} {xs : List V} (B : BuN p H H') (h : Sc1 K H p a xs) : Sc1 K H' p a xs := h.imp (fun z => ⟨z.1, by
  rcases z.2 with (h | ⟨o, h⟩) | h
  · exact .inl (.inl (B _ _ z.1 h fun _ z => nomatch z))
  · exact .inl (.inr ⟨o, B _ _ z.1 h fun _ z => nomatch z⟩)
  · exact .inr h⟩) id
theorem worldOf_nodup : ∀ {fs ns : List Str}, fs.Nodup → ns.Nodup → (worldOf fs ns).Nodup
  | [], _, _, _ => .nil
  | f :: fs, ns, hf, hn => by
    have ih := worldOf_nodup (List.nodup_cons.mp hf).2 hn
    unfold worldOf at ih ⊢
    rw [List.flatMap_cons]
    refine List.nodup_append.mpr ⟨List.pairwise_map.mpr (hn.imp fun n e => n (Prod.mk.inj e).2), ih, fun a ha b hb e => ?_⟩
    obtain ⟨z, hz, rfl⟩ := List.mem_map.mp ha
    subst e
    obtain ⟨g, hg, hb⟩ := List.mem_flatMap.mp hb
    obtain ⟨y, hy, e⟩ := List.mem_map.mp hb
    exact (List.nodup_cons.mp hf).1 ((Prod.mk.inj e).1 ▸ hg)
theorem worldOf_mem {fs ns : List Str} {q : Str × Str} (h : q ∈ worldOf fs ns) : q.1 ∈ fs ∧ q.2 ∈ ns := by
  unfold worldOf at h
  obtain ⟨f, hf, hb⟩ := List.mem_flatMap.mp h
  obtain ⟨y, hy, rfl⟩ := List.mem_map.mp hb
  exact ⟨hf, hy⟩
structure St6 (K : PySem.W.Frag) (T : List NTab) (H : Hp) (a : Addr) (ns : List Int) (pu lp : Addr) (xs : List V) (ps : List (Str × Str)) : Prop where
  sc : Sc1 K H pu a (ns.map V.int)
  tb : TabsN T H
  pp : Purse H pu
  pl : H lp = some (.lst xs)
  al : All2 (PlAt H) xs ps
theorem St6.buN {K : PySem.W.Frag} {T : List NTab} {H H' : Hp} {a : Addr} {ns : List Int} {pu lp : Addr} {xs : List V} {ps : List (Str × Str)} (B : BuN pu H H') (p : Purse H' pu) (t : TabsN T H') (h : St6 K T H a ns pu lp xs ps) : St6 K T H' a ns pu lp xs ps :=
  ⟨h.sc.buN B, t, p, B.lst (h.pp.ne_pls h.pl h.al) h.pl, h.al.imp fun _ _ z => z.buN h.pp B⟩
theorem St6.but {K : PySem.W.Frag} {T : List NTab} {H H' : Hp} {a : Addr} {ns : List Int} {pu lp : Addr} {xs : List V} {ps : List (Str × Str)} (B : But pu H H') (p : Purse H' pu) (h : St6 K T H a ns pu lp xs ps) : St6 K T H' a ns pu lp xs ps :=
  h.buN (BuN.but B) p (tabs_butP h.tb h.pp B)
theorem St6.same {K : PySem.W.Frag} {T : List NTab} {H H' : Hp} {a : Addr} {ns : List Int} {pu lp : Addr} {xs : List V} {ps : List (Str × Str)} (S : Same H H') (h : St6 K T H a ns pu lp xs ps) : St6 K T H' a ns pu lp xs ps :=
  h.buN (BuN.same S) (h.pp.mono S) (h.tb.ext fun _ _ e => S _ _ e)
theorem Purse.ne_ins {H : Hp} {p a C dx : Addr} {fs : List (Str × V)} (h : Purse H p) (ha : H a = some (.ins C dx fs)) : a ≠ p := fun z => by
  obtain ⟨_, e⟩ := h.lst
  rw [z, e] at ha; cases ha
theorem LkAt.but {H H' : Hp} {pu t : Addr} {f l : Str} {c : Int} {m : Option Str} {bs : List Str} {e : Bool} (p : Purse H pu) (B : But pu H H') : LkAt H t f l c m bs e → LkAt H' t f l c m bs e :=
  fun ⟨a, n, h1, h2, h3⟩ => ⟨a, n, B _ _ (p.ne_tup h1) h1, B _ _ (p.ne_tup h2) h2, B _ _ (p.ne_strs h3) h3⟩
theorem KyAt.butP {l : Str} {c : Int} {H H' : Hp} {pu : Addr} {x : V} {z : Str} (p : Purse H pu) (B : But pu H H') : KyAt l c H x z → KyAt l c H' x z :=
  fun ⟨t, r, e, h1, h2⟩ => ⟨t, r, e, B _ _ (p.ne_tup h1) h1, B _ _ (p.ne_tup h2) h2⟩
theorem PcAt.but {C CP : Addr} {H H' : Hp} {pu p : Addr} {f l : Str} {c : Int} {m : Option Str} {bs : List Str} {e : Bool} (pp : Purse H pu) (B : But pu H H') : PcAt C CP H p f l c m bs e → PcAt C CP H' p f l c m bs e :=
  fun ⟨dx, a, n, lo, hi, h1, ⟨dx', h2⟩, h3, h4, h5⟩ => ⟨dx, a, n, lo, hi, B _ _ (pp.ne_ins h1) h1, ⟨dx', B _ _ (pp.ne_ins h2) h2⟩, B _ _ (pp.ne_strs h3) h3, h4.keep fun _ => KyAt.butP pp B, h5.keep fun _ => KyAt.butP pp B⟩
theorem pcf_nos {f a m n e lo hi : V} : (pcf f a m n e lo hi).lookup (Str.ofString "standing") = none := by
  unfold pcf pcf5
  rw [lookup_putF, if_neg (by decide +kernel), lookup_putF, if_neg (by decide +kernel), lookup_putF, if_neg (by decide +kernel), lookup_putF, if_neg (by decide +kernel), lookup_putF, if_neg (by decide +kernel), lookup_putF, if_neg (by decide +kernel), lookup_putF, if_neg (by decide +kernel)]
  rfl
theorem All2.dps {K : PySem.W.Frag} {H : Hp} {xs : List V} {ps : List (Str × Str)} (h : All2 (PlAt H) xs ps) : DpAll K H xs (ps.map dPl) := by
  induction h with
  | nil => exact .nil
  | cons h _ ih => exact .cons h.dp ih
theorem canLay_pls : ∀ {ps : List (Str × Str)}, (∀ q ∈ ps, Nm q.1 ∧ Nm q.2) → PyData.canLayAll0 (ps.map dPl) = true
  | [], _ => by simp [PyData.canLayAll0]
  | q :: ps, h => by
    have z1 : PyData.strOk q.1 = true := (h q List.mem_cons_self).1.asc.ok
    have z2 : PyData.strOk q.2 = true := (h q List.mem_cons_self).2.asc.ok
    simp only [List.map_cons, PyData.canLayAll0, canLay_pls fun z hz => h z (List.mem_cons_of_mem _ hz), Bool.and_true, dPl, PyData.canLay0, z1, z2]
theorem depth_pls : ∀ (ps : List (Str × Str)), PyData.depthAll (ps.map dPl) ≤ 5
  | [] => by simp [PyData.depthAll]
  | q :: ps => by
    have := depth_pls ps
    simp only [List.map_cons, PyData.depthAll, dPl, PyData.depth]
    omega
theorem same_nePl {K : PySem.W.Frag} {H : Hp} {Q : VK} {a b : Addr} {xs ys : List V} {f : Str} {bs : List Str} (nm1 : Nm f) (nm2 : ∀ z ∈ bs, Nm z) (h : H a = some (.lst xs)) (h0 : H b = some (.lst ys)) (hx : All2 (PlAt H) xs (plSort (bs.map fun z => (f, z)))) (hy : All2 (PlAt H) ys (plSort (bs.map fun z => (f, z)))) (q : Q (.bl false) H) : rNeU K (.ref a) (.ref b) H Q := by
  have nq : ∀ q ∈ plSort (bs.map fun z => (f, z)), Nm q.1 ∧ Nm q.2 := fun q hq => by
    have := (List.mergeSort_perm _ _).mem_iff.mp hq
    obtain ⟨z, hz, rfl⟩ := List.mem_map.mp this
    exact ⟨nm1, nm2 z hz⟩
  have sh : SeqAt.shaped (.list ((plSort (bs.map fun z => (f, z))).map dPl)) = true := by
    unfold SeqAt.shaped
    rw [Bool.and_eq_true, decide_eq_true_eq]
    have := depth_pls (plSort (bs.map fun z => (f, z)))
    refine ⟨by simp only [PyData.canLay0]; exact canLay_pls nq, ?_⟩
    simp only [PyData.depth]
    omega
  refine q_neD (.lst (SqL.of h) hx.dps) (.lst (SqL.of h0) hy.dps) sh sh ?_
  rw [SeqAt.eqv_refl _ (SeqAt.canLay_of_shaped sh)]
  exact q
structure PieceS (K : PySem.W.Frag) (CP : Addr) : Prop where
  std : ∃ (f : Addr) (fd : FuncData), Meth K CP "standing" f ∧ Fun K "standing" "Piece.standing" s_Piece_standing f fd ∧ Binds K fd ["self"] []
end Bt
namespace Bt
open PySem PySem.Spec PyProof.Rows L2 LamX NdefX
open PySem.W (dataLt dataLe alike AllAlike Sortable)
theorem words52_ : True := by
  k_with "s_A5" => first
    | ((with_reducible refine' s_var ?hv ?_); (case hv => exact rfl))
    | with_reducible first
      | refine' s_c ?_ | refine' s_op ?_ | refine' s_asg ?_ | refine' s_gname ?_ | refine' s_seq ?_ | refine' s_next ?_ | refine' s_ret ?_ | refine' s_ifS ?_ | refine' s_drop ?_ | refine' s_retN ?_
      | refine' s_test ?_ | refine' s_B ?_ | refine' q_test ?_ | refine' s_int ?_ | refine' s_cons ?_ | refine' s_nil ?_ | refine' s_call ?_ | refine' s_CB ?_ | refine' s_andT ?_ | refine' s_orT ?_ | refine' s_notT ?_
      | refine' s_andV ?_ | refine' s_orV ?_ | refine' s_notV ?_ | refine' s_ifV ?_ | refine' s_chain ?_ | refine' s_sl ?_ | refine' s_noPart ?_ | refine' s_part ?_ | refine' s_gsub ?_ | refine' s_BM ?_ | refine' s_tup ?_ | refine' s_lst ?_
      | refine' q_add ?_ | refine' q_sub ?_ | refine' q_lt ?_ | refine' q_le ?_ | refine' q_gt ?_ | refine' q_ge ?_ | refine' s_ifT ?_ | refine' s_ifF ?_ | refine' s_yes ?_ | refine' s_prop ?_ | refine' s_iList ?_ | refine' s_callOS ?_ | refine' s_iStr ?_ | refine' s_M0 ?_ | refine' s_make ?_ | refine' s_makeS ?_ | refine' s_ownL ?_ | refine' s_ownR ?_ | refine' s_callSD ?_ | refine' s_fld ?_ | refine' s_prop ?_ | refine' s_meth ?_ | refine' s_raise1 ?_ | refine' s_for ?_ | refine' s_rng1 ?_ | refine' s_par ?_ | refine' s_gcons ?_ | refine' s_gnil ?_ | refine' s_iList ?_ | refine' s_iEnum ?_
      | (refine' q_mod ?hm ?_; (case hm => first | omega | decide)) | (refine' q_fdiv ?hm ?hn ?_; (case hm => first | omega | decide); (case hn => first | omega | decide))
      | (refine' q_mulR ?hm ?_; (case hm => first | omega | decide)) | (refine' q_mulL ?hm ?_; (case hm => first | omega | decide))
    | dsimp only
  k_with "r_A5" => repeat (k_extra "s_A5")
  trivial
/-! ### Ask([]) -/
def tDead : TE := fun _ _ _ => False
theorem pe_dead {X : Cx} {e : Expr} : PE X e tDead := ⟨fun _ _ _ _ _ _ h => h.elim⟩
theorem pss_deadA {X : Cx} {b : List Stmt} : PSs X b (fun _ _ _ => False) := ⟨fun _ _ _ _ _ _ h => h.elim⟩
def rLenB (w : World) : List V → Hp → VK → Prop := fun xs H Q => ∃ (a : Addr) (S : Bool → Bool) (n : Nat), xs = [V.ref a] ∧ H a = some (PpSet.SetBO w a S n) ∧ Q (.int n) H
theorem call_lenB {X : Cx} : CallR X (.builtin "len") (rLenB X.w) := by
  intro pins s σ H xs us Q I r h
  obtain ⟨a, S, n, rfl, ha, q⟩ := h
  obtain ⟨u, rfl, ru⟩ := vals1 r
  cases ru
  obtain ⟨o, es, ep, t, ho, hx, hd, _, _, _, hb, hf, hn, _⟩ := PpSet.setBO_get I ha
  have z : es.size < 4096 := hb
  exact call_len_set ho hx hd hf (by omega) ⟨.int n, H, I.tok _, ⟨_, by rw [hn]⟩, q⟩
theorem s_sc {w : World} {wi : TI} {g : TG} {tt : TT} {te : TE} {vs : List Nat} {σ : L2.St} {H : Hp} {Q : VK} (h : wi σ H fun J H1 => ∀ D, H1 D = none → ∃ W : Nat → Nat → Hp → Prop, (∃ m, W 0 m (upd H1 D (PpSet.SetBO w D (fun _ => false) 0))) ∧ ∀ i m H, W i m H →
  (J.stop i H ∧ Q (.ref D) H) ∨ (J.go i H ∧ ∃ Nx : Hp → Prop, (∀ H', Nx H' → ∃ m', m' < m ∧ W (i + 1) m' H') ∧ ∀ x H', J.yld i H x H' → g x (wipe σ vs) H' fun σ2 H2 => wipe σ2 vs = wipe σ vs ∧ tt σ2 H2 fun b H3 =>
    if b = true then te σ2 H3 fun y H4 => ∃ (c : Bool) (S : Bool → Bool) (n : Nat), y = .bl c ∧ H4 D = some (PpSet.SetBO w D S n) ∧ n + 1 < scanBound ∧ Nx (upd H4 D (PpSet.SetBO w D (fun j => S j || decide (j = c)) (if S c = true then n else n + 1))) else Nx H3)) : PpSet.tSc w wi g tt te vs σ H Q := h
structure AskC (K : PySem.W.Frag) (mg : Str → Option Value) (CA : Addr) : Prop where
  cl : Cls K CA
  n1 : NoAttr K CA "_stands"
  g : mg "Ask" = some (.ref CA)
  makes : PySem.W.makesIn K CA = true
  kp : PySem.W.keepIn K (.ref CA) = true
  init : ∃ (f : Addr) (fd : FuncData), PySem.W.findIn K (.ref CA) "__init__" = some (some (.ref f)) ∧ PySem.W.isFn K (.ref f) = true ∧ Fun K "__init__" "Ask.__init__" s_Ask___init__ f fd ∧ Binds K fd ["self", "answers"] []
  i1 : PySem.W.findIn K (.ref CA) "__class__" = some (some (.builtin "object.__class__"))
  i2 : PySem.W.specialIn K (.builtin "object.__class__") "__get__" = some (some (.builtin "getset_descriptor.__get__"))
  i3 : PySem.W.takesIn K (.builtin "object.__class__") = some true
  i4 : PySem.W.mroIn K CA (.type "object") = some true
structure TxtA5 (K : PySem.W.Frag) (mg : Str → Option Value) : Prop where
  n_dict : mg "dict" = none
  d__are_answers : Df K mg "_are_answers" s__are_answers ["value"]
section
variable {P : Program} {w : World} {K : PySem.W.Frag} {mg : Str → Option Value} {base : Heap} {C CP CL CA : Addr}
def spAre0 : Sp := fun vs H Q _ => ∃ q, vs = [.ref q] ∧ H q = some (.lst []) ∧ ∀ H', Same H H' → Q (.bl true) H'
theorem ok__are_answers (T : Txt K mg) (N : TxtN K mg) (TS : TxtS K mg) (A5 : TxtA5 K mg) : Cal P w K mg base 3 "_are_answers" spAre0 := by
  refine A5.d__are_answers.cal sc__are_answers (fun vs H Q E h => ?_) (fun fn cdv A outer s H vs Q E hr h => ?_)
  · obtain ⟨q, rfl, _⟩ := h
    rfl
  · obtain ⟨q, rfl, hq, k⟩ := h
    have hu := hr.units
    refine ⟨_, (pss_cons (ps_if (pt_not (PW.pt (pw_and (pt_val (pe_callB call_isi (by rfl) T.n_isinstance (by decide +kernel) (pa_cons (pv 0) (pa_cons (pe_bltn (v := .ty "list") (by rfl) TS.n_list (by decide +kernel) rfl) pa_nil)))) (pw_and1 (pt_val (pe_callB (call_allB rfl) (by rfl) N.n_all (by decide +kernel) (pa_cons (pe_lc (own := [("item", 1)]) (g := gName 1) (tt := tYes) (te := tDead) rfl sc__are_answers.nd (pi_list (pv 0)) (blkOk_by (own := [("item", 1)]) (N := ["value", "item", "place", "_"]) (sc := defScope s__are_answers) (by decide +kernel)) (fun _ _ _ _ _ => pg_name (i := 1) sc__are_answers.nd rfl (Or.inl rfl)) (fun _ _ _ _ _ => pts_nil) (fun _ _ _ _ _ => pe_dead)) pa_nil))))))) (pss_one (ps_ret pe_bl)) pss_nil)
      (pss_one (ps_ret (pe_cmpR op_eq (pe_callB call_lenB (by rfl) N.n_len (by decide +kernel) (pa_cons (PpSet.pe_sc (own := [("place", 2), ("_", 3)]) (g := gTup K 2 (gCons (gName 2) (gCons (gName 3) gNil))) (tt := tYes) (te := tVar 2) rfl sc__are_answers.nd (pi_list (pv 0)) (blkOk_by (own := [("place", 2), ("_", 3)]) (N := ["value", "item", "place", "_"]) (sc := defScope s__are_answers) (by decide +kernel)) (fun _ _ _ _ _ => pg_tup (by rfl) (pgs_cons (pg_name (i := 2) sc__are_answers.nd rfl (Or.inl rfl)) (pgs_cons (pg_name (i := 3) sc__are_answers.nd rfl (Or.inl rfl)) pgs_nil))) (fun _ _ _ _ _ => pts_nil) (fun _ _ _ _ _ => (pv 2))) pa_nil)) (pe_callB call_lenQ (by rfl) N.n_len (by decide +kernel) (pa_cons (pv 0) pa_nil)) (by rfl))))), ?_⟩
    k_extra "r_A5"
    refine q_isi (Pl.lst hq) .lst ?_
    refine q_test (s_if1 rfl ?_)
    k_extra "r_A5"
    refine s_lc ?_
    k_extra "r_A5"
    refine ⟨q, rfl, ⟨_, SqL.of hq⟩, fun D nD => lc_list (K := K) (a := q) (xs := []) (fun i H' => Same H H' ∧ H' D = some (.lst [])) ⟨Same.new nD, upd_same⟩ (fun i H' _ h => SqL.of (h.1 _ _ hq)) (fun i x H hj => absurd hj (by simp)) ?_⟩
    rintro H1 ⟨S1, h1⟩
    have hq1 := S1 _ _ hq
    k_extra "r_A5"
    refine q_allB (bs := []) (SqL.of h1) ?_
    refine q_test (s_if0 rfl ?_)
    k_extra "r_A5"
    refine s_sc ?_
    k_extra "r_A5"
    refine ⟨q, rfl, ⟨_, SqL.of hq1⟩, fun D2 nD2 => ⟨fun i m H' => i = 0 ∧ H' = upd H1 D2 (PpSet.SetBO w D2 (fun _ => false) 0), ⟨0, rfl, rfl⟩, ?_⟩⟩
    rintro i m H2 ⟨rfl, rfl⟩
    have S2 : Same H1 (upd H1 D2 (PpSet.SetBO w D2 (fun _ => false) 0)) := Same.new nD2
    refine .inl ⟨⟨[], SqL.of (S2 _ _ hq1), by simp⟩, ?_⟩
    k_extra "r_A5"
    refine ⟨D2, _, 0, rfl, upd_same, ?_⟩
    k_extra "r_A5"
    refine q_lenL (SqL.of (S2 _ _ hq1)) ⟨rfl, ?_⟩
    exact k _ (S1.trans S2)
def spAskInit (CA : Addr) : Sp := fun vs H Q _ => ∃ x q dx, vs = [.ref x, .ref q] ∧ H x = some (.ins CA dx []) ∧ H q = some (.lst []) ∧ ∀ H' d, H' x = some (.ins CA dx (putF "_stands" (.ref d) [])) → But x H H' → Q .non H'
theorem ok_ask_init {f : Addr} {fd : FuncData} (T : Txt K mg) (N : TxtN K mg) (TS : TxtS K mg) (A5 : TxtA5 K mg) (AC : AskC K mg CA) (F : Fun K "__init__" "Ask.__init__" s_Ask___init__ f fd) : FnOk P w K mg base CX0 4 f fd ["self", "answers"] (spAskInit CA) := by
  refine F.ok sc_Ask___init__ (fun vs H Q E h => ?_) (fun cdv A outer s H vs Q E hr h => ?_)
  · obtain ⟨x, q, dx, rfl, _⟩ := h
    rfl
  · obtain ⟨x, q, dx, rfl, hx, hq, k⟩ := h
    have hu := hr.units
    refine ⟨_, (pss_cons (ps_if (pt_not (pt_val (pe_c (ok__are_answers T N TS A5) hr (by decide) rfl (pa_cons (pv 1) pa_nil)))) pss_deadA pss_nil)
      (pss_one (ps_fld (pv 0) (pe_callTy (call_dictP rfl) (by rfl) A5.n_dict (by decide +kernel) (pa_cons (pe_callB (cr_sortD hu) (by rfl) T.n_sorted (by decide +kernel) (pa_cons (pv 1) pa_nil)) pa_nil)) rfl))), ?_⟩
    k_extra "r_A5"
    refine ⟨q, rfl, hq, fun H1 S1 => ?_⟩
    k_extra "r_A5"
    refine s_if0 rfl ?_
    k_extra "r_A5"
    refine s_sFld ?_
    k_extra "r_A5"
    refine q_sortD [] (SqL.of (S1 _ _ hq)) (fun z hz => by cases hz) (by simp [AllAlike]) (by simp [Sortable]) fun D H2 nD S2 hD => ?_
    refine ⟨D, [], [], rfl, SqL.of (by rw [hD]; simp), .nil, fun d nd => ?_⟩
    k_extra "r_A5"
    have S3 : Same H2 (upd H2 d (.dK (mergeK [] []))) := Same.new nd
    refine ⟨x, CA, dx, [], rfl, S3 _ _ (S2 _ _ (S1 _ _ hx)), AC.cl, AC.n1, by decide, ?_⟩
    k_extra "r_A5"
    exact k _ d upd_same fun b o n e => (upd_ne n).trans (((S1.trans S2).trans S3) _ _ e)
end
section
variable {X : Cx} {CA : Addr} {k : Nat} {p pos : Pos} {e1 : Expr} {t1 : TE}
theorem pe_ask (T : Txt X.K X.mg) (N : TxtN X.K X.mg) (TS : TxtS X.K X.mg) (A5 : TxtA5 X.K X.mg) (AC : AskC X.K X.mg CA) (hr : Room k X.A) (hk : 5 ≤ k) (h1 : PE X e1 t1) (hg : Gl X "Ask" := by rfl)
    (s1 : starEach (e1 :: []) X.env = (false, eval e1 X.env) :: starEach [] X.env := by rfl) (s6 : (backTo pos (starEach [] X.env)).any (·.1) = false := by rfl) :
    PE X (.Call (.Name "Ask" p) [e1] [] pos) (tMake CA (spAskInit CA) [] E0 (tCons t1 tNil)) := by
  obtain ⟨f, fd, i1, i2, F, b⟩ := AC.init
  exact pe_make ⟨AC.makes, i1, i2, AC.kp⟩ (ok_ask_init T N TS A5 AC F) (hr.mono hk) hg AC.g b .nil pass0 (pa_cons h1 pa_nil s1) (by decide) s1 s6
theorem q_ask {H : Hp} {Q : Addr → Hp → Prop} {E : XK} {q : Addr} (hq : H q = some (.lst [])) (k : ∀ x H' dx d, H x = none → Same H H' → H' x = some (.ins CA dx (putF "_stands" (.ref d) [])) → Q x H') : ∀ x dx, H x = none → H dx = none → dx ≠ x → spAskInit CA [.ref x, .ref q] (upd (upd H dx (.own x)) x (.ins CA dx [])) (fun v H2 => v = .non ∧ Q x H2) E :=
  fun x dx nx nd ne => ⟨x, q, dx, rfl, upd_same, same_made nx nd _ _ hq, fun H' d hx b => ⟨rfl, k x H' dx d nx (fun b' o e => b _ _ (ne_of_none e nx) (same_made nx nd _ _ e)) hx⟩⟩
end
end Bt
namespace Bt
open PySem PySem.Spec PyProof.Rows L2 LamX NdefX
open PySem.W (dataLt dataLe alike AllAlike Sortable)
theorem words51_ : True := by
  k_with "s_T5" => first
    | ((with_reducible refine' s_var ?hv ?_); (case hv => exact rfl))
    | with_reducible first
      | refine' s_c ?_ | refine' s_op ?_ | refine' s_asg ?_ | refine' s_gname ?_ | refine' s_seq ?_ | refine' s_next ?_ | refine' s_ret ?_ | refine' s_ifS ?_ | refine' s_drop ?_ | refine' s_retN ?_
      | refine' s_test ?_ | refine' s_B ?_ | refine' q_test ?_ | refine' s_int ?_ | refine' s_cons ?_ | refine' s_nil ?_ | refine' s_call ?_ | refine' s_CB ?_ | refine' s_andT ?_ | refine' s_orT ?_ | refine' s_notT ?_
      | refine' s_andV ?_ | refine' s_orV ?_ | refine' s_notV ?_ | refine' s_ifV ?_ | refine' s_chain ?_ | refine' s_sl ?_ | refine' s_noPart ?_ | refine' s_part ?_ | refine' s_gsub ?_ | refine' s_BM ?_ | refine' s_tup ?_ | refine' s_lst ?_
      | refine' q_add ?_ | refine' q_sub ?_ | refine' q_lt ?_ | refine' q_le ?_ | refine' q_gt ?_ | refine' q_ge ?_ | refine' s_ifT ?_ | refine' s_ifF ?_ | refine' s_yes ?_ | refine' s_prop ?_ | refine' s_iList ?_ | refine' s_callOS ?_ | refine' s_iStr ?_ | refine' s_M0 ?_ | refine' s_make ?_ | refine' s_makeS ?_ | refine' s_ownL ?_ | refine' s_ownR ?_ | refine' s_callSD ?_ | refine' s_fld ?_ | refine' s_prop ?_ | refine' s_meth ?_ | refine' s_raise1 ?_ | refine' s_for ?_ | refine' s_rng1 ?_ | refine' s_par ?_ | refine' s_gcons ?_ | refine' s_gnil ?_ | refine' s_iList ?_ | refine' s_iEnum ?_
      | (refine' q_mod ?hm ?_; (case hm => first | omega | decide)) | (refine' q_fdiv ?hm ?hn ?_; (case hm => first | omega | decide); (case hn => first | omega | decide))
      | (refine' q_mulR ?hm ?_; (case hm => first | omega | decide)) | (refine' q_mulL ?hm ?_; (case hm => first | omega | decide))
    | dsimp only
  k_with "r_T5" => repeat (k_extra "s_T5")
  trivial
/-! ### _law_long -/
structure TxtT5 (K : PySem.W.Frag) (mg : Str → Option Value) : Prop where
  d__law_long : Df K mg "_law_long" s__law_long ["_law_folder", "_law_spec", "_law_many"]
section
variable {P : Program} {w : World} {K : PySem.W.Frag} {mg : Str → Option Value} {base : Heap} {T : List NTab} {C CP CL CI CX cL PL : Addr}
def longT (n : Int) : Str := cutS (Str.ofString "qbcdnfghijkla") none (some n)
def longS (n : Int) : List Str := (longT n).cps.toList.map fun c => ⟨#[c]⟩
instance {z : Str} : Decidable (Nm z) := by unfold Nm; infer_instance
theorem long_nm {n : Int} (h : n = 12 ∨ n = 13) : ∀ z ∈ longS n, Nm z := by rcases h with rfl | rfl <;> decide +kernel
theorem long_nd {n : Int} (h : n = 12 ∨ n = 13) : (longS n).Nodup := by rcases h with rfl | rfl <;> decide +kernel
theorem long_len {n : Int} (h : n = 12 ∨ n = 13) : (longS n).length ≤ 13 ∧ longS n ≠ [] := by rcases h with rfl | rfl <;> decide +kernel
def spLong (T : List NTab) : Sp := fun vs H Q _ => ∃ (f : Str) (sp : Addr) (n : Int) (l : Str) (c : Int), vs = [.str f, .ref sp, .int n] ∧ Nm f ∧ H sp = some (.tup [.str l, .int c]) ∧ Letters l ∧ 1 ≤ c ∧ c ≤ 1000 ∧ (n = 12 ∨ n = 13) ∧ TabsN T H ∧ ∀ H', ExtN H H' → TabsN T H' → Q (.bl true) H'
theorem ok__law_long (X0 : Txt K mg) (L : TxtL K mg) (N : TxtN K mg) (TS : TxtS K mg) (I : TxtI K mg) (FC : FormC K mg C) (TK : TxtK K mg) (R : TxtR K mg) (Y : TxtC K mg) (Y' : TxtY K mg cL) (B : Tb1 base mg T cL PL) (PC : PieceC K mg CP) (PG : PieceG K mg CP) (PP : PieceP K CP) (PM : PieceM K CP) (PT : PieceT K CP) (PS : PieceS K CP) (XL : ExcF K mg "InvalidLook" "value" CL) (XI : ExcF K mg "InvalidForm" "value" CI) (XP : ExcF K mg "InvalidPlace" "value" CX) (M : TxtT5 K mg) : Cal P w K mg base 10 "_law_long" (spLong T) := by
  obtain ⟨fs, fds, s1, Fs, sb⟩ := PS.std
  refine M.d__law_long.cal sc__law_long (fun vs H Q E h => ?_) (fun fn cdv A outer s H vs Q E hr h => ?_)
  · obtain ⟨f, sp, n, l, c, rfl, _⟩ := h
    rfl
  · obtain ⟨f, sp, n, l, c, rfl, nf, hsp, ll, c1, c2, hn, ht, k⟩ := h
    have hu := hr.units
    refine ⟨_, (pss_cons (ps_set (i := 3) sc__law_long.nd rfl (.inl rfl) (pe_c (ok__law_ordered X0 L TK Y' B) hr (by decide) rfl (pa_cons (pv 1) (pa_cons (pe_lc (own := [("_law_letter", 7)]) (g := gName 7) (tt := tYes) (te := tVar 7) rfl sc__law_long.nd (pi_str (pe_slice sl_str pe_str po_none (po_some (pv 2)))) (blkOk_by (own := [("_law_letter", 7)]) (N := ["_law_folder", "_law_spec", "_law_many", "_law_names_here", "_law_form_here", "_law_piece_here", "_law_spots", "_law_letter", "_law_name_here", "_law_spot"]) (sc := defScope s__law_long) (by decide +kernel)) (fun _ _ _ _ _ => pg_name (i := 7) sc__law_long.nd rfl (Or.inl rfl)) (fun _ _ _ _ _ => pts_nil) (fun _ _ _ _ _ => (pv 7))) pa_nil))))
      (pss_cons (ps_set (i := 4) sc__law_long.nd rfl (.inl rfl) (pe_form2 X0 FC XI hr (by decide) (pe_ix ix_seq (pv 1) pe_int (fun _ _ => rfl)) (pe_ix ix_seq (pv 1) pe_int (fun _ _ => rfl))))
      (pss_cons (ps_set (i := 5) sc__law_long.nd rfl (.inr rfl) (pe_piece X0 L N TS FC TK R Y PC PG XL hr (by decide) (pv 0) (pv 4) pe_non (pe_callTy call_listOf (by rfl) TS.n_list (by decide +kernel) (pa_cons (pv 3) pa_nil)) (pe_cmpR op_eq (pv 2) pe_int (by rfl))))
      (pss_cons (ps_setLc (i := 6) (own := [("_law_name_here", 8)]) (g := gName 8) (tt := tYes) (te := tTup (tCons (tVar 0) (tCons (tVar 8) tNil))) rfl sc__law_long.nd rfl rfl (sw_true rfl rfl rfl (by decide +kernel)) (pi_list (pv 3)) (blkOk_by (own := [("_law_name_here", 8)]) (N := ["_law_folder", "_law_spec", "_law_many", "_law_names_here", "_law_form_here", "_law_piece_here", "_law_spots", "_law_letter", "_law_name_here", "_law_spot"]) (sc := defScope s__law_long) (by decide +kernel)) (fun _ _ _ _ _ => pg_name (i := 8) sc__law_long.nd rfl (Or.inl rfl)) (fun _ _ _ _ _ => pts_nil) (fun _ _ _ _ _ => (pe_tup (pa_cons (pv 0) (pa_cons (pv 8) pa_nil)))))
      (pss_cons (ps_if (PW.pt (pw_or (pt_cmpR (op_neU hu) (pe_namesP (C := C) TS PC PP hr (by decide) (pv 5)) (pv 3) (by rfl)) (pw_or1 (pt_cmpR (op_neU hu) (pe_meth0 (pv 5) PC.cl s1 (ok_piece_standing (C := C) X0 PC Fs) (hr.mono (by decide)) sb .nil pass0) (pe_callB (cr_sortD hu) (by rfl) X0.n_sorted (by decide +kernel) (pa_cons (pv 6) pa_nil)) (by rfl))))) (pss_one (ps_ret pe_bl)) pss_nil)
      (pss_one (ps_ret (pe_cmpR (op_eqU hu) (pe_lc (own := [("_law_spot", 9)]) (g := gName 9) (tt := tTest (tOp rNotB (tMethE CP "says" (spSays K C CP CX) (fun _ => E0) (tVar 5) (tCons (tVar 9) tNil)) (tC (.bl true)))) (te := tVar 9) rfl sc__law_long.nd (pi_list (pv 6)) (blkOk_by (own := [("_law_spot", 9)]) (N := ["_law_folder", "_law_spec", "_law_many", "_law_names_here", "_law_form_here", "_law_piece_here", "_law_spots", "_law_letter", "_law_name_here", "_law_spot"]) (sc := defScope s__law_long) (by decide +kernel)) (fun _ _ _ _ _ => pg_name (i := 9) sc__law_long.nd rfl (Or.inl rfl)) (fun _ _ _ _ _ => by exact pts_one (pt_cmpR op_notBl (pe_says X0 L N I FC TK PC PM PT XP hr (by decide) (pv 5) (pv 9)) pe_bl (by rfl))) (fun _ _ _ _ _ => (pv 9))) (pe_lst pa_nil) (by rfl))))))))), ?_⟩
    k_extra "r_T5"
    refine s_lc ?_
    k_extra "r_T5"
    refine ⟨_, rfl, by decide +kernel, ?_⟩
    have lz : (longT n).cps.toList.length = (longS n).length := by unfold longS; rw [List.length_map]
    have l13 := (long_len hn).1
    refine ⟨longT n, rfl, fun D nD => lc_str (z := longT n) (fun i H' => Same H H' ∧ H' D = some (.lst (((longT n).cps.toList.take i).map fun c => V.str ⟨#[c]⟩))) ⟨Same.new nD, upd_same⟩ ?_ ?_⟩
    · rintro j d H' hj ⟨S', hD⟩
      k_extra "r_T5"
      refine ⟨rfl, ?_⟩
      k_extra "r_T5"
      refine ⟨_, hD, ?_, same_mut S' nD, ?_⟩
      · rw [List.length_map, List.length_take]
        exact szlt (by omega)
      · rw [upd_same, take_map_more (f := fun c => V.str ⟨#[c]⟩) hj]
    · rintro H1 ⟨S1, h1⟩
      rw [take_all] at h1
      have h1' : H1 D = some (.lst ((longS n).map V.str)) := by
        rw [h1]
        unfold longS
        rw [List.map_map]
        rfl
      k_extra "r_T5"
      refine ⟨sp, D, l, c, longS n, rfl, S1 _ _ hsp, ll, c1, SqL.of h1', by omega, long_nm hn, ht.ext fun _ _ e => S1 _ _ e, fun D2 H2 n2 x2 t2 h2 => ?_⟩
      have hsp2 := ext_tup x2 (S1 _ _ hsp)
      have nb : ∀ z ∈ srt l c (longS n), Nm z := fun z hz => long_nm hn z ((List.mergeSort_perm _ _).mem_iff.mp hz)
      have pw := kk_pw (c := c) ll (long_nm hn) (long_nd hn)
      have lb : (srt l c (longS n)).length ≤ 13 := by
        unfold srt
        rw [List.length_mergeSort]
        exact l13
      have nb0 : srt l c (longS n) ≠ [] := fun z => by
        have := congrArg List.length z
        unfold srt at this
        rw [List.length_mergeSort] at this
        exact (long_len hn).2 (List.length_eq_zero_iff.mp this)
      obtain ⟨bs, ebs⟩ : ∃ bs, bs = srt l c (longS n) := ⟨_, rfl⟩
      rw [← ebs] at h2 nb pw lb nb0
      have X2 : ExtN H H2 := (ext_same S1).trans x2
      clear ebs h1 h1' x2 n2
      have ri : riseB l c (rowOf none bs) = true := rise_pw pw
      k_extra "r_T5"
      refine q_ixT (SqT.of hsp2) (at_of (j := 0) rfl rfl) ?_
      k_extra "r_T5"
      refine q_ixT (SqT.of hsp2) (at_of (j := 1) rfl rfl) ?_
      k_extra "r_T5"
      refine q_form ll c1 c2 fun fo H3 n3 S3 f3 => ?_
      k_extra "r_T5"
      refine q_listL (SqL.of (S3 _ _ h2)) fun q H4 n4 S4 h4 => ?_
      k_extra "r_T5"
      refine ⟨rfl, ?_⟩
      k_extra "r_T5"
      obtain ⟨e, ee⟩ : ∃ e, e = decide (V.int n = V.int 12) := ⟨_, rfl⟩
      rw [← ee]
      have pcs : PcS f l c none bs e := ⟨nf, ll, c1, (fun z e => nomatch e), by omega, nb⟩
      refine q_pieceA (m := none) ⟨nf, f3.mono S4, ll, c1, (fun z e => nomatch e), h4, by omega, nb, ri, fun z => absurd z nb0⟩ fun p H5 n5 S5 pa => ?_
      have S25 := (S3.trans S4).trans S5
      have h25 := S25 _ _ h2
      clear ee f3 h4 n3 n4 n5
      k_extra "r_T5"
      refine s_lc ?_
      k_extra "r_T5"
      refine ⟨D2, rfl, ⟨_, SqL.of h25⟩, fun D6 nD => lc_list (K := K) (a := D2) (xs := bs.map V.str) (fun i H' => Same H5 H' ∧ ∃ ys, H' D6 = some (.lst ys) ∧ All2 (PlAt H') ys ((bs.take i).map fun z => (f, z))) ⟨Same.new nD, [], upd_same, .nil⟩ (fun i H' _ h => SqL.of (h.1 _ _ h25)) ?_ ?_⟩
      · rintro j y H' hj ⟨S', ys, hD, dk⟩
        rw [List.getElem?_map] at hj
        obtain ⟨z, ez, rfl⟩ := Option.map_eq_some_iff.mp hj
        k_extra "r_T5"
        refine ⟨rfl, ?_⟩
        k_extra "r_T5"
        refine q_newT (by show 2 ≤ sizeLine; decide) fun t4 H6 n6 S6 h6 => ?_
        refine ⟨ys, S6 _ _ hD, ?_, same_mut (S'.trans S6) nD, ys ++ [.ref t4], upd_same, ?_⟩
        · rw [dk.len, List.length_map, List.length_take]
          exact szlt (by omega)
        · rw [take_map_more (f := fun z => (f, z)) ez]
          have b : But D6 H6 (upd H6 D6 (.lst (ys ++ [.ref t4]))) := But.upd
          exact (dk.imp fun _ _ h => (h.mono S6).but (S6 _ _ hD) b).snoc (PlAt.but (S6 _ _ hD) b ⟨t4, rfl, h6⟩)
      · rintro H6 ⟨S6, ys, h6, dk⟩
        rw [List.length_map, List.take_length] at dk
        have pa6 := pa.mono S6
        k_extra "r_T5"
        refine q_namesP pa6.at fun N7 H7 n7 S7 h7 => ?_
        k_extra "r_T5"
        refine q_neD (dp_lst_strs h7) (dp_lst_strs (S7 _ _ (S6 _ _ h25))) (shaped_strs fun y hy => (nb y hy).asc) (shaped_strs fun y hy => (nb y hy).asc) ?_
        rw [eqv_strs]
        refine q_test (s_if0 (by simp) ?_)
        have pa7 := pa6.at.mono S7
        obtain ⟨dx6, a6, n8, lo6, hi6, q1, q2, q3, q4, q5⟩ := id pa7
        k_extra "r_T5"
        refine ⟨p, dx6, _, rfl, q1, pcf_nos, ?_⟩
        k_extra "r_T5"
        refine ⟨p, f, l, c, none, bs, e, rfl, pa7, pcs, fun D8 H8 ys1 nD1 S8 h8 al8 => ?_⟩
        k_extra "r_T5"
        refine q_sortPl (SqL.of (S8 _ _ (S7 _ _ h6))) (dk.imp fun _ _ h => h.mono (S7.trans S8)) fun D9 H9 zs n9 S9 h9 a9 => ?_
        refine same_nePl (nm1 := nf) (nm2 := nb) (S9 _ _ h8) h9 (al8.imp fun _ _ => PlAt.mono S9) a9 (q_test (s_if0 rfl ?_))
        have S79 := S8.trans S9
        have pa9 := pa7.mono S79
        have dk9 := dk.imp fun _ _ h => h.mono (S7.trans S79)
        have h69 := S79 _ _ (S7 _ _ h6)
        have X9 : ExtN H H9 := X2.trans (ext_same (S25.trans (S6.trans (S7.trans S79))))
        have t9 : TabsN T H9 := t2.ext fun _ _ e => (S25.trans (S6.trans (S7.trans S79))) _ _ e
        clear pa pa6 pa7 h7 h8 al8 h9 a9 q1 q2 q3 q4 q5
        k_extra "r_T5"
        refine s_lc ?_
        k_extra "r_T5"
        refine ⟨D6, rfl, ⟨_, SqL.of h69⟩, fun D10 nD10 => lc_list (K := K) (a := D6) (xs := ys) (fun i H' => Same H9 H' ∧ H' D10 = some (.lst [])) ⟨Same.new nD10, upd_same⟩ (fun i H' _ h => SqL.of (h.1 _ _ h69)) ?_ ?_⟩
        · rintro j y H' hj ⟨S', hD⟩
          obtain ⟨q, eq, a5, rfl, ha5⟩ := dk9.get hj
          obtain ⟨z, ez, rfl⟩ := List.mem_map.mp (List.mem_of_getElem? eq)
          have pa' := pa9.mono S'
          have ha' := S' _ _ ha5
          obtain ⟨dx6, a6, n8, lo6, hi6, q1, q2, q3, q4, q5⟩ := id pa'
          have pl : PlaceV H' (.ref a5) := ⟨a5, _, _, rfl, ha', ⟨f, rfl, nf⟩, ⟨z, rfl, nb z ez⟩⟩
          k_extra "r_T5"
          refine ⟨rfl, ?_⟩
          k_extra "r_T5"
          refine ⟨.ref p, rfl, p, dx6, _, rfl, q1, pcf_no, ?_⟩
          k_extra "r_T5"
          refine ⟨p, .ref a5, "tuple", f, l, c, none, bs, e, rfl, pa', pcs, Pl.tup ha', fun _ => ⟨a5, _, rfl, ha', fun y hy => ?_⟩, fun _ => rfl, fun np => absurd pl np, fun u v pl' nu' nv' H11 S11 => ?_⟩
          · simp only [List.mem_cons, List.not_mem_nil, or_false] at hy
            rcases hy with rfl | rfl
            · exact nm_arg nf
            · exact nm_arg (nb z ez)
          obtain ⟨a2, z1, z2⟩ := pl'
          injection z1 with z1
          subst z1
          have z3 := z2.symm.trans ha'
          simp only [Option.some.injEq, HO.tup.injEq, List.cons.injEq, V.str.injEq, and_true] at z3
          obtain ⟨rfl, rfl⟩ := z3
          rw [inB_own ri ez, if_pos rfl, decide_eq_true ez]
          k_extra "r_T5"
          refine ⟨true, true, rfl, rfl, q_test (s_if0 rfl ⟨S'.trans S11, S11 _ _ hD⟩)⟩
        · rintro H10 ⟨S10, h10⟩
          k_extra "r_T5"
          refine q_newL (by show 0 ≤ sizeLine; decide) fun l11 H11 n11 S11 h11 => ?_
          refine q_eqD (dp_lst_ints (ns := []) (S11 _ _ h10)) (dp_lst_ints (ns := []) h11) (shaped_ints []) (shaped_ints []) ?_
          rw [SeqAt.eqv_refl _ (SeqAt.canLay_of_shaped (shaped_ints []))]
          have S911 := S10.trans S11
          exact k H11 (X9.trans (ext_same S911)) (t9.ext fun _ _ e => S911 _ _ e)
end
end Bt
namespace Bt
open PySem PySem.Spec PyProof.Rows L2 LamX NdefX
open PySem.W (dataLt dataLe alike AllAlike Sortable)
theorem words53_ : True := by
  k_with "s_U5" => first
    | ((with_reducible refine' s_var ?hv ?_); (case hv => exact rfl))
    | with_reducible first
      | refine' s_c ?_ | refine' s_op ?_ | refine' s_asg ?_ | refine' s_gname ?_ | refine' s_seq ?_ | refine' s_next ?_ | refine' s_ret ?_ | refine' s_ifS ?_ | refine' s_drop ?_ | refine' s_retN ?_
      | refine' s_test ?_ | refine' s_B ?_ | refine' q_test ?_ | refine' s_int ?_ | refine' s_cons ?_ | refine' s_nil ?_ | refine' s_call ?_ | refine' s_CB ?_ | refine' s_andT ?_ | refine' s_orT ?_ | refine' s_notT ?_
      | refine' s_andV ?_ | refine' s_orV ?_ | refine' s_notV ?_ | refine' s_ifV ?_ | refine' s_chain ?_ | refine' s_sl ?_ | refine' s_noPart ?_ | refine' s_part ?_ | refine' s_gsub ?_ | refine' s_BM ?_ | refine' s_tup ?_ | refine' s_lst ?_
      | refine' q_add ?_ | refine' q_sub ?_ | refine' q_lt ?_ | refine' q_le ?_ | refine' q_gt ?_ | refine' q_ge ?_ | refine' s_ifT ?_ | refine' s_ifF ?_ | refine' s_yes ?_ | refine' s_prop ?_ | refine' s_iList ?_ | refine' s_callOS ?_ | refine' s_iStr ?_ | refine' s_M0 ?_ | refine' s_make ?_ | refine' s_makeS ?_ | refine' s_ownL ?_ | refine' s_ownR ?_ | refine' s_callSD ?_ | refine' s_fld ?_ | refine' s_prop ?_ | refine' s_meth ?_ | refine' s_raise1 ?_ | refine' s_for ?_ | refine' s_rng1 ?_ | refine' s_par ?_ | refine' s_gcons ?_ | refine' s_gnil ?_ | refine' s_iList ?_ | refine' s_iEnum ?_
      | (refine' q_mod ?hm ?_; (case hm => first | omega | decide)) | (refine' q_fdiv ?hm ?hn ?_; (case hm => first | omega | decide); (case hn => first | omega | decide))
      | (refine' q_mulR ?hm ?_; (case hm => first | omega | decide)) | (refine' q_mulL ?hm ?_; (case hm => first | omega | decide))
    | dsimp only
  k_with "r_U5" => repeat (k_extra "s_U5")
  trivial
/-! ### _law_changed -/
/-- a heap without what stands at D -/
def er (D : Addr) (H : Hp) : Hp := fun b => if b = D then none else H b
theorem er_ne {D b : Addr} {H : Hp} (n : b ≠ D) : er D H b = H b := if_neg n
theorem er_at {D : Addr} {H : Hp} : er D H D = none := if_pos rfl
theorem er_sub {D : Addr} {H : Hp} : Same (er D H) H := fun b o e => by
  by_cases z : b = D
  · rw [z, er_at] at e; cases e
  · rwa [er_ne z] at e
theorem er_mono {D : Addr} {H H' : Hp} (S : Same H H') : Same (er D H) (er D H') := fun b o e => by
  by_cases z : b = D
  · rw [z, er_at] at e; cases e
  · rw [er_ne z] at e ⊢; exact S _ _ e
theorem er_but {D : Addr} {H H' : Hp} (B : But D H H') : Same (er D H) (er D H') := fun b o e => by
  by_cases z : b = D
  · rw [z, er_at] at e; cases e
  · rw [er_ne z] at e ⊢; exact B _ _ z e
theorem er_new {D : Addr} {H1 H : Hp} (n : H1 D = none) (S : Same H1 H) : Same H1 (er D H) := fun b o e => by rw [er_ne (ne_of_none e n)]; exact S _ _ e
section
variable {K : PySem.W.Frag} {mg : Str → Option Value} {C CP CL : Addr} {H H' : Hp} {p a : Addr} {f l : Str} {c : Int} {m : Option Str} {bs : List Str} {e : Bool}
theorem q_pieceD {q : Addr} {Q : Addr → Hp → Prop} {E : XK} (h : PcIn C H f a l c m q bs e) (k : ∀ p H', H p = none → Same H H' → PcAtA C CP H' p f a l c m bs e → (∀ D zs, H D = some (.lst zs) → PcAtA C CP (er D H') p f a l c m bs e) → Q p H') : ∀ x dx, H x = none → H dx = none → dx ≠ x → spPcInit K C CP CL [.ref x, .str f, .ref a, mkV m, .ref q, .bl e] (upd (upd H dx (.own x)) x (.ins CP dx [])) (fun v H2 => v = .non ∧ Q x H2) E := fun x dx nx nd ne => by
  have S0 : Same H _ := same_made (C := CP) nx nd
  have h' := h.mono S0
  obtain ⟨g1, g2, g3, g4, g5⟩ := pcArgs (K := K) h'
  refine ⟨x, dx, _, _, _, _, _, "bool", rfl, upd_same, g1, g2, g3, g4, g5, fun f' a' l' c' m' q' bs' e' z1 z2 z3 z4 z5 p H' n lo hi k1 k2 k3 k4 k5 B => ?_, fun no => absurd ⟨f, a, l, c, m, q, bs, e, rfl, rfl, rfl, rfl, rfl, h'⟩ no⟩
  injection z1 with z1; injection z2 with z2; injection z4 with z4; injection z5 with z5
  have z3 := mkV_inj z3
  subst z1 z2 z3 z4 z5
  have hb := p.hq
  rw [h'.hq] at hb
  injection hb with hb; injection hb with hb
  have hb := map_str_inj hb
  subst hb
  obtain ⟨w1, w2⟩ := form_inj h'.fa p.fa
  subst w1 w2
  have S' : Same H H' := fun b o e => B b o (ne_of_none e nx) (S0 _ _ e)
  obtain ⟨dx', ea⟩ := h.fa
  refine ⟨rfl, k x H' nx S' ⟨dx, n, lo, hi, k1, ⟨dx', S' _ _ ea⟩, k3, k4, k5⟩ fun D zs hD => ?_⟩
  have hD' := S' _ _ hD
  have nt : ∀ {t : Addr} {xs : List V}, H' t = some (.tup xs) → er D H' t = some (.tup xs) := fun {t xs} e => by rw [er_ne (fun z => by rw [z, hD'] at e; cases e)]; exact e
  have kt : ∀ z, ∀ {x : V}, KyAt l c H' x z → KyAt l c (er D H') x z := fun z x ⟨t, r, e, h1, h2⟩ => ⟨t, r, e, nt h1, nt h2⟩
  refine ⟨dx, n, lo, hi, ?_, ⟨dx', ?_⟩, ?_, k4.keep fun z => kt z, k5.keep fun z => kt z⟩
  · rw [er_ne (fun z => by rw [z, hD'] at k1; cases k1)]; exact k1
  · rw [er_ne (fun z => by rw [z, hD] at ea; cases ea)]; exact S' _ _ ea
  · have nn : H n = none := S0.free k2
    rw [er_ne (fun z => by rw [z, hD] at nn; cases nn)]; exact k3
end
/-- what the law hands on: five values that make a piece, and the form's letters and chains -/
structure Par (C : Addr) (H : Hp) (pt sp : Addr) (f : Str) (a : Addr) (l : Str) (c : Int) (m : Option Str) (n : Addr) (bs : List Str) (e : Bool) : Prop where
  hp : H pt = some (.lst [.str f, .ref a, mkV m, .ref n, .bl e])
  hs : H sp = some (.tup [.str l, .int c])
  c2 : c ≤ 1000
  lz : bs.length ≤ 18
  pc : PcIn C H f a l c m n bs e
theorem Par.mono {C : Addr} {H H' : Hp} {pt sp : Addr} {f : Str} {a : Addr} {l : Str} {c : Int} {m : Option Str} {n : Addr} {bs : List Str} {e : Bool} (S : Same H H') (h : Par C H pt sp f a l c m n bs e) : Par C H' pt sp f a l c m n bs e := ⟨S _ _ h.hp, S _ _ h.hs, h.c2, h.lz, h.pc.mono S⟩
def Chg (C CP : Addr) (H : Hp) (f : Str) (a : Addr) (l : Str) (c : Int) (x : V) : Prop := ∃ p f' a' l' c' m' bs' e', x = .ref p ∧ PcAtA C CP H p f' a' l' c' m' bs' e' ∧ PcS f' l' c' m' bs' e' ∧ ((a' = a ∧ l' = l ∧ c' = c) ∨ (f' = f ∧ a' ≠ a ∧ ¬ (l' = l ∧ c' = c)))
theorem Chg.mono {C CP : Addr} {H H' : Hp} {f : Str} {a : Addr} {l : Str} {c : Int} {x : V} (S : Same H H') : Chg C CP H f a l c x → Chg C CP H' f a l c x := fun ⟨p, f', a', l', c', m', bs', e', h1, h2, h3⟩ => ⟨p, f', a', l', c', m', bs', e', h1, h2.mono S, h3⟩
/-- the list under construction -/
def ChgL (C CP D : Addr) (H1 H : Hp) (f : Str) (a : Addr) (l : Str) (c : Int) (k : Nat) : Prop := ∃ xs, H D = some (.lst xs) ∧ xs.length ≤ k ∧ Same H1 (er D H) ∧ ∀ x ∈ xs, Chg C CP (er D H) f a l c x
theorem ChgL.up {C CP D : Addr} {H1 H : Hp} {f : Str} {a : Addr} {l : Str} {c : Int} {k k' : Nat} (h : ChgL C CP D H1 H f a l c k) (n : k ≤ k') : ChgL C CP D H1 H f a l c k' := let ⟨xs, h1, h2, h3⟩ := h; ⟨xs, h1, Nat.le_trans h2 n, h3⟩
theorem ChgL.par {C CP D : Addr} {H1 H : Hp} {f : Str} {a : Addr} {l : Str} {c : Int} {k : Nat} (h : ChgL C CP D H1 H f a l c k) : Same H1 H := let ⟨xs, h1, h2, h3, _⟩ := h; h3.trans er_sub
theorem ChgL.same {C CP D : Addr} {H1 H H' : Hp} {f : Str} {a : Addr} {l : Str} {c : Int} {k : Nat} (S : Same H H') (h : ChgL C CP D H1 H f a l c k) : ChgL C CP D H1 H' f a l c k := let ⟨xs, h1, h2, h3, h4⟩ := h; ⟨xs, S _ _ h1, h2, h3.trans (er_mono S), fun x hx => (h4 x hx).mono (er_mono S)⟩
theorem q_chg {C CP D : Addr} {H1 H : Hp} {Q : VK} {f : Str} {a : Addr} {l : Str} {c : Int} {k : Nat} {p : Addr} (h : ChgL C CP D H1 H f a l c k) (hk : k ≤ 1000) (hx : Chg C CP (er D H) f a l c (.ref p)) (q : ∀ H', ChgL C CP D H1 H' f a l c (k + 1) → Q .non H') : rAppend (.ref D) [.ref p] H Q := by
  obtain ⟨xs, h1, h2, h3, h4⟩ := h
  refine q_append h1 (szlt (by omega)) fun H' b h' => q H' ⟨_, h', by rw [List.length_append, List.length_singleton]; omega, h3.trans (er_but b), fun x hx' => ?_⟩
  rcases List.mem_append.mp hx' with hx' | hx'
  · exact (h4 x hx').mono (er_but b)
  · rw [List.mem_singleton.mp hx']
    exact hx.mono (er_but b)
theorem s_unI {f : Int → V} {te : TE} {σ : L2.St} {H : Hp} {Q : VK} (h : te σ H fun x H1 => ∃ i, x = .int i ∧ Q (f i) H1) : tUn (rU f) te σ H Q := h
structure TxtU5 (K : PySem.W.Frag) (mg : Str → Option Value) : Prop where
  d__law_changed : Df K mg "_law_changed" s__law_changed ["_law_parts", "_law_spec"]
section
variable {P : Program} {w : World} {K : PySem.W.Frag} {mg : Str → Option Value} {base : Heap} {C CP CL CI : Addr}
def spChanged (C CP : Addr) : Sp := fun vs H Q _ => ∃ pt sp f a l c m n bs e, vs = [.ref pt, .ref sp] ∧ Par C H pt sp f a l c m n bs e ∧ ∀ D H' xs, Same H H' → H D = none → H' D = some (.lst xs) → xs.length ≤ 10 → (∀ x ∈ xs, Chg C CP (er D H') f a l c x) → Q (.ref D) H'
theorem nm_x {f : Str} (h : Nm f) : (f.length ≠ 8 → Nm (f ++ Str.ofString "x")) ∧ Nm (Str.ofString "x") := by
  refine ⟨fun n => ?_, by decide +kernel⟩
  obtain ⟨h1, h2, h3⟩ := h
  have ex : (Str.ofString "x").length = 1 := by decide +kernel
  refine ⟨by rw [app_len]; omega, by rw [app_len]; omega, fun c hc => ?_⟩
  rw [app_cps] at hc
  rcases List.mem_append.mp hc with hc | hc
  · exact h3 c hc
  · have : (Str.ofString "x").cps.toList = [120] := by decide +kernel
    rw [this, List.mem_singleton] at hc
    subst hc
    decide
theorem ok__law_changed (T : Txt K mg) (L : TxtL K mg) (N : TxtN K mg) (TS : TxtS K mg) (FC : FormC K mg C) (TK : TxtK K mg) (R : TxtR K mg) (Y : TxtC K mg) (PC : PieceC K mg CP) (PG : PieceG K mg CP) (XL : ExcF K mg "InvalidLook" "value" CL) (XI : ExcF K mg "InvalidForm" "value" CI) (M : TxtU5 K mg) : Cal P w K mg base 9 "_law_changed" (spChanged C CP) := by
  refine M.d__law_changed.cal sc__law_changed (fun vs H Q E h => ?_) (fun fn cdv A outer s H vs Q E hr h => ?_)
  · obtain ⟨pt, sp, f, a, l, c, m, n, bs, e, rfl, _⟩ := h
    rfl
  · obtain ⟨pt, sp, f, a, l, c, m, n, bs, e, rfl, pr, k⟩ := h
    have hu := hr.units
    refine ⟨_, (pss_cons (ps_asg (pv 0) (pg_lst (by rfl) (pgs_cons (pg_name (i := 2) sc__law_changed.nd rfl (.inl rfl)) (pgs_cons (pg_name (i := 3) sc__law_changed.nd rfl (.inl rfl)) (pgs_cons (pg_name (i := 4) sc__law_changed.nd rfl (.inl rfl)) (pgs_cons (pg_name (i := 5) sc__law_changed.nd rfl (.inl rfl)) (pgs_cons (pg_name (i := 6) sc__law_changed.nd rfl (.inl rfl)) pgs_nil)))))))
      (pss_cons (ps_set (i := 7) sc__law_changed.nd rfl (.inl rfl) (pe_lst (pa_cons (pe_piece T L N TS FC TK R Y PC PG XL hr (by decide) (pe_ix ix_seq (pe_lst (pa_cons (pe_op op_addU (pv 2) pe_str) (pa_cons pe_str pa_nil))) (pe_callTy call_int1 (by rfl) T.n_int (by decide +kernel) (pa_cons (pe_cmpR op_eq (pe_callB call_lenS (by rfl) N.n_len (by decide +kernel) (pa_cons (pv 2) pa_nil)) pe_int (by rfl)) pa_nil)) (fun _ _ => rfl)) (pv 3) (pv 4) (pv 5) (pv 6)) pa_nil)))
      (C8.pss_cut (ps_if (pt_cmpR (op_neU hu) (pv 5) (pe_lst pa_nil) (by rfl)) (pss_cons (ps_expr (pe_bm PySem.F.plainAttrs_list PySem.F.slot_list_append PySem.F.type_list_append mt_append (pv 7) (pa_cons (pe_piece T L N TS FC TK R Y PC PG XL hr (by decide) (pv 2) (pv 3) (pv 4) (pv 5) (pe_not (pv 6))) pa_nil)))
        (pss_one (ps_if (pt_cmpR op_gtI (pe_callB call_lenQ (by rfl) N.n_len (by decide +kernel) (pa_cons (pv 5) pa_nil)) pe_int (by rfl)) (pss_cons (ps_expr (pe_bm PySem.F.plainAttrs_list PySem.F.slot_list_append PySem.F.type_list_append mt_append (pv 7) (pa_cons (pe_piece T L N TS FC TK R Y PC PG XL hr (by decide) (pv 2) (pv 3) (pv 4) (pe_slice sl_list (pv 5) (po_some pe_int) po_none) (pv 6)) pa_nil)))
          (pss_cons (ps_expr (pe_bm PySem.F.plainAttrs_list PySem.F.slot_list_append PySem.F.type_list_append mt_append (pv 7) (pa_cons (pe_piece T L N TS FC TK R Y PC PG XL hr (by decide) (pv 2) (pv 3) (pv 4) (pe_slice sl_list (pv 5) po_none (po_some (pe_un un_neg pe_int))) (pv 6)) pa_nil)))
          (pss_one (ps_expr (pe_bm PySem.F.plainAttrs_list PySem.F.slot_list_append PySem.F.type_list_append mt_append (pv 7) (pa_cons (pe_piece T L N TS FC TK R Y PC PG XL hr (by decide) (pv 2) (pv 3) (pe_ix ix_seq (pv 5) pe_int (fun _ _ => rfl)) (pe_slice sl_list (pv 5) (po_some pe_int) po_none) (pv 6)) pa_nil)))))) pss_nil))) pss_nil)
      (C8.pss_cut (ps_if (pt_cmpR op_isNotNon (pv 4) pe_non (by rfl)) (pss_one (ps_expr (pe_bm PySem.F.plainAttrs_list PySem.F.slot_list_append PySem.F.type_list_append mt_append (pv 7) (pa_cons (pe_piece T L N TS FC TK R Y PC PG XL hr (by decide) (pv 2) (pv 3) pe_non (pv 5) (pv 6)) pa_nil)))) pss_nil)
      (C8.pss_cut (ps_if (pt_val (pv 6)) (pss_cons (ps_expr (pe_bm PySem.F.plainAttrs_list PySem.F.slot_list_append PySem.F.type_list_append mt_append (pv 7) (pa_cons (pe_piece T L N TS FC TK R Y PC PG XL hr (by decide) (pv 2) (pe_form2 T FC XI hr (by decide) (pe_ix ix_seq (pv 1) pe_int (fun _ _ => rfl)) (pe_op op_addU (pe_op op_modU (pe_ix ix_seq (pv 1) pe_int (fun _ _ => rfl)) pe_int) pe_int)) pe_non (pe_lst pa_nil) pe_bl) pa_nil)))
        (pss_one (ps_expr (pe_bm PySem.F.plainAttrs_list PySem.F.slot_list_append PySem.F.type_list_append mt_append (pv 7) (pa_cons (pe_piece T L N TS FC TK R Y PC PG XL hr (by decide) (pv 2) (pv 3) pe_str (pe_lst pa_nil) pe_bl) pa_nil))))) pss_nil)
      (pss_one (ps_ret (pv 7)))))))), ?_⟩
    have pc := pr.pc
    have hu8 : f.length ≤ 8 := pc.nf.2.1
    have lz := pr.lz
    have pin : ∀ {H' : Hp} {f' : Str} {m' : Option Str} {bs' : List Str} {e' : Bool} {q : Addr}, Same H H' → Nm f' → (∀ z, m' = some z → Nm z) → H' q = some (.lst (bs'.map V.str)) → bs'.Sublist bs → riseB l c (rowOf m' bs') = true → (bs' = [] → e' = true) → PcIn C H' f' a l c m' q bs' e' := fun S g1 g2 g3 g4 g5 g6 =>
      ⟨g1, pc.fa.mono S, pc.ll, pc.c1, g2, g3, by have := g4.length_le; omega, fun z hz => pc.nb z (g4.subset hz), g5, g6⟩
    have pcs : ∀ {f' : Str} {m' : Option Str} {bs' : List Str} {e' : Bool}, Nm f' → (∀ z, m' = some z → Nm z) → bs'.Sublist bs → PcS f' l c m' bs' e' := fun g1 g2 g4 => ⟨g1, pc.ll, pc.c1, g2, by have := g4.length_le; omega, fun z hz => pc.nb z (g4.subset hz)⟩
    k_extra "r_U5"
    refine ⟨pt, _, rfl, SqL.of pr.hp, rfl, ?_⟩
    k_extra "r_U5"
    have ex : (Str.ofString "x").length = 1 := by decide +kernel
    refine q_addS (by rw [ex]; exact sz (by omega)) ?_
    k_extra "r_U5"
    refine q_newL (by show 2 ≤ sizeLine; decide) fun d1 H1 n1 S1 h1 => ?_
    k_extra "r_U5"
    refine q_lenS (sz (by omega)) ?_
    k_extra "r_U5"
    refine ⟨rfl, ?_⟩
    k_extra "r_U5"
    refine .inr ⟨_, rfl, ?_⟩
    have hf : ∃ f', Nm f' ∧ atI [V.str (f ++ Str.ofString "x"), V.str (Str.ofString "x")] (if decide (V.int ((f.length : Nat) : Int) = V.int 8) = true then 1 else 0) = some (.str f') := by
      by_cases z : f.length = 8
      · refine ⟨_, (nm_x pc.nf).2, ?_⟩
        rw [decide_eq_true (by rw [z]; rfl), if_pos rfl]
        exact at_of (j := 1) rfl rfl
      · refine ⟨_, (nm_x pc.nf).1 z, ?_⟩
        rw [decide_eq_false (fun h => z (by injection h with h; omega)), if_neg (by decide)]
        exact at_of (j := 0) rfl rfl
    obtain ⟨f', nf', ef⟩ := hf
    refine q_ixL (SqL.of h1) ef ?_
    k_extra "r_U5"
    refine q_pieceD (pin S1 nf' pc.nm (S1 _ _ pc.hq) (List.Sublist.refl _) pc.ri pc.ne) fun p H2 n2 S2 pa pD => ?_
    k_extra "r_U5"
    refine q_newL (by show 1 ≤ sizeLine; decide) fun D H3 n3 S3 h3 => ?_
    have nD : H D = none := (S1.trans S2).free n3
    have cl : ChgL C CP D H H3 f a l c 1 := ⟨_, h3, by simp, er_new nD (S1.trans (S2.trans S3)), fun x hx => by
      rw [List.mem_singleton.mp hx]
      exact ⟨p, f', a, l, c, m, bs, e, rfl, pa.mono (er_new n3 S3), pcs nf' pc.nm (List.Sublist.refl _), .inl ⟨rfl, rfl, rfl⟩⟩⟩
    clear h1 n1 S1 n2 S2 pa pD h3 n3 S3 ef
    k_extra "r_U5"
    refine ⟨fun σ H' => σ = [some (.ref pt), some (.ref sp), some (.str f), some (.ref a), some (mkV m), some (.ref n), some (.bl e), some (.ref D)] ∧ ChgL C CP D H H' f a l c 5, ?_, ?_⟩
    · k_extra "r_U5"
      refine q_newL (by show 0 ≤ sizeLine; decide) fun l0 H4 n4 S4 h4 => ?_
      have cl4 := cl.same S4
      refine q_neD (dp_lst_strs (cl4.par _ _ pc.hq)) (dp_lst_strs (ys := []) h4) (shaped_strs fun y hy => (pc.nb y hy).asc) (shaped_strs fun y hy => by cases hy) ?_
      rw [eqv_strs]
      by_cases eb : bs = []
      · refine q_test (s_if0 (by simp [eb]) ?_)
        k_extra "r_U5"
        exact ⟨rfl, cl4.up (by decide)⟩
      · refine q_test (s_if1 (by simp [eb]) ?_)
        obtain ⟨xs4, hD4, _⟩ := id cl4
        k_extra "r_U5"
        refine ⟨.inl ⟨rfl, _, SqL.of hD4⟩, ?_⟩
        k_extra "r_U5"
        refine q_pieceD (pin cl4.par pc.nf pc.nm (cl4.par _ _ pc.hq) (List.Sublist.refl _) pc.ri fun z => absurd z eb) fun p5 H5 n5 S5 pa5 pD5 => ?_
        k_extra "r_U5"
        refine q_chg (cl4.same S5) (by decide) ⟨p5, f, a, l, c, m, bs, !e, rfl, pD5 D _ hD4, pcs pc.nf pc.nm (List.Sublist.refl _), .inl ⟨rfl, rfl, rfl⟩⟩ fun H6 cl6 => ?_
        clear n5 S5 pa5 pD5 hD4 h4 S4 n4 cl4
        k_extra "r_U5"
        refine q_lenL (SqL.of (cl6.par _ _ pc.hq)) ?_
        k_extra "r_U5"
        refine s_ifD (fun lt => ?_) (fun _ => ?_)
        rotate_left
        · k_extra "r_U5"
          exact ⟨rfl, cl6.up (by decide)⟩
        · have l2 : 2 ≤ bs.length := by rw [List.length_map] at lt; omega
          obtain ⟨b0, eb0⟩ : ∃ b0, bs[0]? = some b0 := ⟨bs[0]'(by omega), List.getElem?_eq_getElem _⟩
          have eb1 : bs = b0 :: bs.drop 1 := by
            cases bs with
            | nil => cases eb0
            | cons y ys =>
              injection eb0 with eb0
              rw [eb0]
              rfl
          have d1 : bs.drop 1 ≠ [] := fun z => by
            have := congrArg List.length z
            rw [List.length_drop, List.length_nil] at this
            omega
          obtain ⟨xs6, hD6, _⟩ := id cl6
          k_extra "r_U5"
          refine ⟨.inl ⟨rfl, _, SqL.of hD6⟩, ?_⟩
          k_extra "r_U5"
          refine q_slL (SqL.of (cl6.par _ _ pc.hq)) fun q7 H7 n7 S7 h7 => ?_
          rw [show cutV (bs.map V.str) (some 1) none = (bs.drop 1).map V.str from (cutV_drop 1).trans List.map_drop.symm] at h7
          have cl7 := cl6.same S7
          k_extra "r_U5"
          refine q_pieceD (pin cl7.par pc.nf pc.nm h7 (List.drop_sublist _ _) (rise_row (List.drop_sublist _ _) pc.ri) fun z => absurd z d1) fun p8 H8 n8 S8 pa8 pD8 => ?_
          k_extra "r_U5"
          refine q_chg (cl7.same S8) (by decide) ⟨p8, f, a, l, c, m, bs.drop 1, e, rfl, pD8 D _ (S7 _ _ hD6), pcs pc.nf pc.nm (List.drop_sublist _ _), .inl ⟨rfl, rfl, rfl⟩⟩ fun H9 cl9 => ?_
          clear h7 n7 S7 cl7 n8 S8 pa8 pD8 hD6 cl6
          obtain ⟨xs9, hD9, _⟩ := id cl9
          k_extra "r_U5"
          refine ⟨.inl ⟨rfl, _, SqL.of hD9⟩, ?_⟩
          k_extra "r_U5"
          refine s_unI ⟨1, rfl, ?_⟩
          k_extra "r_U5"
          refine q_slL (SqL.of (cl9.par _ _ pc.hq)) fun q10 H10 n10 S10 h10 => ?_
          rw [show cutV (bs.map V.str) none (some (-1)) = (bs.take (bs.length - 1)).map V.str from (cutV_init 1 rfl (by decide)).trans (by rw [List.length_map, List.map_take])] at h10
          have cl10 := cl9.same S10
          have t1 : bs.take (bs.length - 1) ≠ [] := fun z => by
            have := congrArg List.length z
            rw [List.length_take, List.length_nil] at this
            omega
          k_extra "r_U5"
          refine q_pieceD (pin cl10.par pc.nf pc.nm h10 (List.take_sublist _ _) (rise_row (List.take_sublist _ _) pc.ri) fun z => absurd z t1) fun p8 H8 n8 S8 pa8 pD8 => ?_
          k_extra "r_U5"
          refine q_chg (cl10.same S8) (by decide) ⟨p8, f, a, l, c, m, bs.take (bs.length - 1), e, rfl, pD8 D _ (S10 _ _ hD9), pcs pc.nf pc.nm (List.take_sublist _ _), .inl ⟨rfl, rfl, rfl⟩⟩ fun H11 cl11 => ?_
          clear h10 n10 S10 cl10 n8 S8 pa8 pD8 hD9 cl9
          obtain ⟨xs11, hD11, _⟩ := id cl11
          k_extra "r_U5"
          refine ⟨.inl ⟨rfl, _, SqL.of hD11⟩, ?_⟩
          k_extra "r_U5"
          refine q_ixL (SqL.of (cl11.par _ _ pc.hq)) (at_of (j := 0) rfl (by rw [List.getElem?_map, eb0]; rfl)) ?_
          k_extra "r_U5"
          refine q_slL (SqL.of (cl11.par _ _ pc.hq)) fun q12 H12 n12 S12 h12 => ?_
          rw [show cutV (bs.map V.str) (some 1) none = (bs.drop 1).map V.str from (cutV_drop 1).trans List.map_drop.symm] at h12
          have cl12 := cl11.same S12
          have nb0 : ∀ z, some b0 = some z → Nm z := fun z h => by cases h; exact pc.nb _ (List.mem_of_getElem? eb0)
          have r0 : riseB l c (rowOf (some b0) (bs.drop 1)) = true := rise_head (m := m) (by rw [← eb1]; exact pc.ri)
          k_extra "r_U5"
          refine q_pieceD (m := some b0) (pin cl12.par pc.nf nb0 h12 (List.drop_sublist _ _) r0 fun z => absurd z d1) fun p8 H8 n8 S8 pa8 pD8 => ?_
          k_extra "r_U5"
          refine q_chg (cl12.same S8) (by decide) ⟨p8, f, a, l, c, some b0, bs.drop 1, e, rfl, pD8 D _ (S12 _ _ hD11), pcs pc.nf nb0 (List.drop_sublist _ _), .inl ⟨rfl, rfl, rfl⟩⟩ fun H13 cl13 => ?_
          k_extra "r_U5"
          exact ⟨rfl, cl13⟩
    · rintro σ H4 ⟨rfl, cl4⟩
      refine ⟨fun σ H' => σ = [some (.ref pt), some (.ref sp), some (.str f), some (.ref a), some (mkV m), some (.ref n), some (.bl e), some (.ref D)] ∧ ChgL C CP D H H' f a l c 6, ?_, ?_⟩
      · k_extra "r_U5"
        refine q_isNotNon ?_
        by_cases em : m = none
        · subst em
          refine q_test (s_if0 (by simp [mkV]) ?_)
          k_extra "r_U5"
          exact ⟨rfl, cl4.up (by decide)⟩
        · refine q_test (s_if1 (by cases m with | none => exact absurd rfl em | some z => simp [mkV]) ?_)
          obtain ⟨xs4, hD4, _⟩ := id cl4
          k_extra "r_U5"
          refine ⟨.inl ⟨rfl, _, SqL.of hD4⟩, ?_⟩
          k_extra "r_U5"
          refine q_pieceD (m := none) (pin cl4.par pc.nf (fun z e => nomatch e) (cl4.par _ _ pc.hq) (List.Sublist.refl _) (rise_none pc.ri) pc.ne) fun p5 H5 n5 S5 pa5 pD5 => ?_
          k_extra "r_U5"
          refine q_chg (cl4.same S5) (by decide) ⟨p5, f, a, l, c, none, bs, e, rfl, pD5 D _ hD4, pcs pc.nf (fun z e => nomatch e) (List.Sublist.refl _), .inl ⟨rfl, rfl, rfl⟩⟩ fun H6 cl6 => ?_
          k_extra "r_U5"
          exact ⟨rfl, cl6⟩
      · clear cl4 H4 cl H3
        rintro σ H4 ⟨rfl, cl4⟩
        refine ⟨fun σ H' => σ = [some (.ref pt), some (.ref sp), some (.str f), some (.ref a), some (mkV m), some (.ref n), some (.bl e), some (.ref D)] ∧ ChgL C CP D H H' f a l c 8, ?_, ?_⟩
        · k_extra "r_U5"
          cases e with
          | false =>
            refine s_if0 rfl ?_
            k_extra "r_U5"
            exact ⟨rfl, cl4.up (by decide)⟩
          | true =>
            refine s_if1 rfl ?_
            obtain ⟨xs4, hD4, _⟩ := id cl4
            k_extra "r_U5"
            refine ⟨.inl ⟨rfl, _, SqL.of hD4⟩, ?_⟩
            k_extra "r_U5"
            refine q_ixT (SqT.of (cl4.par _ _ pr.hs)) (at_of (j := 0) rfl rfl) ?_
            k_extra "r_U5"
            refine q_ixT (SqT.of (cl4.par _ _ pr.hs)) (at_of (j := 1) rfl rfl) ?_
            k_extra "r_U5"
            have c1 := pc.c1
            have c2 := pr.c2
            refine q_form pc.ll (by omega) (by omega) fun fo H5 n5 S5 f5 => ?_
            k_extra "r_U5"
            refine q_newL (by show 0 ≤ sizeLine; decide) fun q6 H6 n6 S6 h6 => ?_
            have cl6 := (cl4.same S5).same S6
            k_extra "r_U5"
            refine q_pieceD (m := none) (bs := []) ⟨pc.nf, f5.mono S6, pc.ll, by omega, (fun z e => nomatch e), h6, by simp, (fun z hz => by cases hz), rfl, fun _ => rfl⟩ fun p7 H7 n7 S7 pa7 pD7 => ?_
            k_extra "r_U5"
            have fne : fo ≠ a := fun z => by
              obtain ⟨dx, ea⟩ := pc.fa
              have := cl4.par _ _ ea
              rw [← z, n5] at this
              cases this
            refine q_chg (cl6.same S7) (by decide) ⟨p7, f, fo, l, c % 1000 + 1, none, [], true, rfl, pD7 D _ (S6 _ _ (S5 _ _ hD4)), ⟨pc.nf, pc.ll, by omega, (fun z e => nomatch e), by simp, fun z hz => by cases hz⟩, .inr ⟨rfl, fne, fun z => by omega⟩⟩ fun H8 cl8 => ?_
            obtain ⟨xs8, hD8, _⟩ := id cl8
            k_extra "r_U5"
            refine ⟨.inl ⟨rfl, _, SqL.of hD8⟩, ?_⟩
            k_extra "r_U5"
            refine q_newL (by show 0 ≤ sizeLine; decide) fun q9 H9 n9 S9 h9 => ?_
            have cl9 := cl8.same S9
            have nz : ∀ z, some (Str.ofString "zzzzzzz") = some z → Nm z := fun z h => by cases h; decide +kernel
            k_extra "r_U5"
            refine q_pieceD (m := some (Str.ofString "zzzzzzz")) (bs := []) (pin cl9.par pc.nf nz h9 (List.nil_sublist _) rfl fun _ => rfl) fun p10 H10 n10 S10 pa10 pD10 => ?_
            k_extra "r_U5"
            refine q_chg (cl9.same S10) (by decide) ⟨p10, f, a, l, c, some (Str.ofString "zzzzzzz"), [], true, rfl, pD10 D _ (S9 _ _ hD8), pcs pc.nf nz (List.nil_sublist _), .inl ⟨rfl, rfl, rfl⟩⟩ fun H11 cl11 => ?_
            k_extra "r_U5"
            exact ⟨rfl, cl11⟩
        · rintro σ H5 ⟨rfl, cl5⟩
          obtain ⟨xs, hD, hx, S, al⟩ := id cl5
          k_extra "r_U5"
          exact k D H5 xs cl5.par nD hD (by omega) al
end
end Bt
namespace Bt
open PySem PySem.Spec PyProof.Rows L2 LamX NdefX
open PySem.W (dataLt dataLe alike AllAlike Sortable)
theorem words54_ : True := by
  k_with "s_BB5" => first
    | ((with_reducible refine' s_var ?hv ?_); (case hv => exact rfl))
    | with_reducible first
      | refine' s_c ?_ | refine' s_op ?_ | refine' s_asg ?_ | refine' s_gname ?_ | refine' s_seq ?_ | refine' s_next ?_ | refine' s_ret ?_ | refine' s_ifS ?_ | refine' s_drop ?_ | refine' s_retN ?_
      | refine' s_test ?_ | refine' s_B ?_ | refine' q_test ?_ | refine' s_int ?_ | refine' s_cons ?_ | refine' s_nil ?_ | refine' s_call ?_ | refine' s_CB ?_ | refine' s_andT ?_ | refine' s_orT ?_ | refine' s_notT ?_
      | refine' s_andV ?_ | refine' s_orV ?_ | refine' s_notV ?_ | refine' s_ifV ?_ | refine' s_chain ?_ | refine' s_sl ?_ | refine' s_noPart ?_ | refine' s_part ?_ | refine' s_gsub ?_ | refine' s_BM ?_ | refine' s_tup ?_ | refine' s_lst ?_
      | refine' q_add ?_ | refine' q_sub ?_ | refine' q_lt ?_ | refine' q_le ?_ | refine' q_gt ?_ | refine' q_ge ?_ | refine' s_ifT ?_ | refine' s_ifF ?_ | refine' s_yes ?_ | refine' s_prop ?_ | refine' s_iList ?_ | refine' s_callOS ?_ | refine' s_iStr ?_ | refine' s_M0 ?_ | refine' s_make ?_ | refine' s_makeS ?_ | refine' s_ownL ?_ | refine' s_ownR ?_ | refine' s_callSD ?_ | refine' s_fld ?_ | refine' s_prop ?_ | refine' s_meth ?_ | refine' s_raise1 ?_ | refine' s_for ?_ | refine' s_rng1 ?_ | refine' s_par ?_ | refine' s_gcons ?_ | refine' s_gnil ?_ | refine' s_iList ?_ | refine' s_iEnum ?_
      | (refine' q_mod ?hm ?_; (case hm => first | omega | decide)) | (refine' q_fdiv ?hm ?hn ?_; (case hm => first | omega | decide); (case hn => first | omega | decide))
      | (refine' q_mulR ?hm ?_; (case hm => first | omega | decide)) | (refine' q_mulL ?hm ?_; (case hm => first | omega | decide))
    | dsimp only
  k_with "r_BB5" => repeat (k_extra "s_BB5")
  trivial
theorem asc_app' {a b : Str} (ha : Asc a) (hb : Asc b) : Asc (a ++ b) := fun c hc => by
  rw [app_cps, List.mem_append] at hc
  rcases hc with hc | hc
  · exact ha c hc
  · exact hb c hc
theorem nn_mem {z : Str} {c : Nat} (h : c ∈ z.cps.toList) (n : ¬ (97 ≤ c ∧ c ≤ 122)) : ¬ Nm z := fun m => n (mem_alpha.mp (m.2.2 c h))
theorem nn_long {z : Str} (h : 9 ≤ z.length) : ¬ Nm z := fun m => by have := m.2.1; omega
theorem mem_r {a b : Str} {c : Nat} (h : c ∈ b.cps.toList) : c ∈ (a ++ b).cps.toList := by rw [app_cps]; exact List.mem_append.mpr (.inr h)
theorem mem_l {a b : Str} {c : Nat} (h : c ∈ a.cps.toList) : c ∈ (a ++ b).cps.toList := by rw [app_cps]; exact List.mem_append.mpr (.inl h)
theorem no_nmV {x : V} (h : ∀ z, x ≠ .str z) : ¬ NmV x := fun v => by obtain ⟨z, e, _⟩ := v; exact h z e
theorem up_cps {z : Str} (nz : Nm z) : (Txt.upper z).cps.toList = z.cps.toList.map PyProof.Rows.up1 := by
  have e : z = SX.S z.cps.toList := rfl
  have hA : z.cps.toList.all (· < 128) = true := List.all_eq_true.mpr fun c hc => decide_eq_true (nz.asc c hc)
  rw [show Txt.upper z = Txt.upper (SX.S z.cps.toList) from rfl, SX.upper_S hA]
theorem upper_nm {z : Str} (nz : Nm z) : (Txt.upper z).length < 64 ∧ Asc (Txt.upper z) ∧ ¬ Nm (Txt.upper z) := by
  have e := up_cps nz
  have up : ∀ c ∈ z.cps.toList, PyProof.Rows.up1 c = c - 32 ∧ 97 ≤ c ∧ c ≤ 122 := fun c hc => by
    have := mem_alpha.mp (nz.2.2 c hc)
    unfold PyProof.Rows.up1
    rw [if_pos this]
    exact ⟨rfl, this⟩
  have hl : (Txt.upper z).length = z.length := by rw [len_cps, e, List.length_map, ← len_cps]
  refine ⟨by have := nz.2.1; omega, fun c hc => ?_, fun m => ?_⟩
  · rw [e, List.mem_map] at hc
    obtain ⟨b, hb, rfl⟩ := hc
    have := up b hb
    omega
  · have hpos : 0 < z.cps.toList.length := by rw [← len_cps]; exact nz.1
    have hb : z.cps.toList[0] ∈ z.cps.toList := List.getElem_mem hpos
    have h1 := m.2.2 (PyProof.Rows.up1 z.cps.toList[0]) (by rw [e]; exact List.mem_map.mpr ⟨_, hb, rfl⟩)
    have := mem_alpha.mp h1
    have := up _ hb
    omega


instance {z : Str} : Decidable (Asc z) := by unfold Asc; infer_instance
/-! ### values that make no piece -/
section
variable {K : PySem.W.Frag} {C CP : Addr} {H H' : Hp}
def NmC (K : PySem.W.Frag) (H : Hp) (x : V) : Prop := NameArg K H x ∧ SelfV K H x ∧ ∀ b, x = .ref b → ∃ o, H b = some o
def FoC (K : PySem.W.Frag) (C : Addr) (H : Hp) (x : V) : Prop := FoArg K C H x ∧ SelfV K H x ∧ ∀ b, x = .ref b → ∃ o, H b = some o
def LiC (K : PySem.W.Frag) (H : Hp) (x : V) : Prop := ∃ T, LiArg K H x ∧ Pl K H x T ∧ SelfN K H x T ∧ ∀ b, x = .ref b → ∃ o, H b = some o
def EnC (K : PySem.W.Frag) (H : Hp) (x : V) : Prop := ∃ T, Pl K H x T ∧ SelfV K H x
theorem ob_mono {x : V} (S : Same H H') (h : ∀ b, x = .ref b → ∃ o, H b = some o) : ∀ b, x = .ref b → ∃ o, H' b = some o := fun b e => let ⟨o, eo⟩ := h b e; ⟨o, S _ _ eo⟩
theorem NmC.mono {x : V} (S : Same H H') (h : NmC K H x) : NmC K H' x := ⟨h.1.mono S, h.2.1.mono S, ob_mono S h.2.2⟩
theorem FoC.mono {x : V} (S : Same H H') (h : FoC K C H x) : FoC K C H' x := ⟨h.1.mono S h.2.2, h.2.1.mono S, ob_mono S h.2.2⟩
theorem LiC.mono {x : V} (S : Same H H') (h : LiC K H x) : LiC K H' x := let ⟨T, h1, h2, h3, h4⟩ := h; ⟨T, h1.mono S h4, h2.mono S, h3.mono S, ob_mono S h4⟩
theorem EnC.mono {x : V} (S : Same H H') (h : EnC K H x) : EnC K H' x := let ⟨T, h1, h2⟩ := h; ⟨T, h1.mono S, h2.mono S⟩
theorem nc_str {z : Str} (h : Asc z) (hl : z.length < 64) : NmC K H (.str z) := ⟨⟨"str", Pl.str, fun y e => by cases e; exact hl⟩, .str h.ok, fun b e => nomatch e⟩
theorem nc_non : NmC K H .non := ⟨⟨_, Pl.non, fun y e => nomatch e⟩, .non, fun b e => nomatch e⟩
theorem nc_int {i : Int} : NmC K H (.int i) := ⟨⟨_, Pl.int, fun y e => nomatch e⟩, .int, fun b e => nomatch e⟩
theorem nc_bl {i : Bool} : NmC K H (.bl i) := ⟨⟨_, Pl.bl, fun y e => nomatch e⟩, .bl, fun b e => nomatch e⟩
theorem nc_lst {a : Addr} {xs : List V} (h : H a = some (.lst xs)) : NmC K H (.ref a) := ⟨⟨_, Pl.lst h, fun y e => nomatch e⟩, .ref a, fun b e => by cases e; exact ⟨_, h⟩⟩
theorem nc_tup {a : Addr} {xs : List V} (h : H a = some (.tup xs)) : NmC K H (.ref a) := ⟨⟨_, Pl.tup h, fun y e => nomatch e⟩, .ref a, fun b e => by cases e; exact ⟨_, h⟩⟩
theorem nc_dct {a : Addr} (h : H a = some (.dK [])) : NmC K H (.ref a) := ⟨⟨"dict", ⟨.base (.dK h), .dct⟩, fun y e => nomatch e⟩, .ref a, fun b e => by cases e; exact ⟨_, h⟩⟩
theorem NmC.nm {z : Str} (h : Nm z) : NmC K H (.str z) := nc_str h.asc (by have := h.2.1; omega)
theorem NmC.mk {m : Option Str} (h : ∀ z, m = some z → Nm z) : NmC K H (mkV m) := by
  cases m with
  | none => exact nc_non
  | some z => exact .nm (h z rfl)
theorem NmC.fo {x : V} (h : NmC K H x) (n : ∀ b, x = .ref b → ∀ C' dx fs, H b ≠ some (.ins C' dx fs)) : FoC K C H x := by
  obtain ⟨⟨T, p, _⟩, s, o⟩ := h
  exact ⟨.inr ⟨T, p, fun a l c e ⟨dx, g⟩ => n a e _ _ _ g⟩, s, o⟩
theorem NmC.en {x : V} (h : NmC K H x) : EnC K H x := let ⟨⟨T, p, _⟩, s, _⟩ := h; ⟨T, p, s⟩
theorem LiC.lst {a : Addr} {xs : List V} (h : H a = some (.lst xs)) (hz : xs.length ≤ 100) (hx : ∀ y ∈ xs, NmC K H y) : LiC K H (.ref a) :=
  ⟨"list", ⟨"list", Pl.lst h, fun _ _ n => absurd rfl n, fun _ => ⟨a, xs, rfl, h, hz, fun y hy => (hx y hy).1⟩⟩, Pl.lst h, .lst rfl h fun y hy => (hx y hy).2.1, fun b e => by cases e; exact ⟨_, h⟩⟩
theorem LiC.tup {a : Addr} {xs : List V} (h : H a = some (.tup xs)) (hx : ∀ y ∈ xs, NmC K H y) : LiC K H (.ref a) :=
  ⟨"tuple", ⟨"tuple", Pl.tup h, (fun b e n ys g => by cases e; rw [h] at g; cases g), fun e => absurd e (by decide)⟩, Pl.tup h, .tup rfl h fun y hy => (hx y hy).2.1, fun b e => by cases e; exact ⟨_, h⟩⟩
theorem LiC.dct {a : Addr} (h : H a = some (.dK [])) : LiC K H (.ref a) :=
  ⟨"dict", ⟨"dict", ⟨.base (.dK h), .dct⟩, (fun b e n ys g => by cases e; rw [h] at g; cases g), fun e => absurd e (by decide)⟩, ⟨.base (.dK h), .dct⟩, .dct rfl h, fun b e => by cases e; exact ⟨_, h⟩⟩
theorem LiC.non : LiC K H .non := ⟨"NoneType", ⟨"NoneType", Pl.non, (fun b e => nomatch e), fun e => absurd e (by decide)⟩, Pl.non, .flat rfl (by decide) .non, fun b e => nomatch e⟩
theorem LiC.str {z : Str} (h : Asc z) : LiC K H (.str z) := ⟨"str", ⟨"str", Pl.str, (fun b e => nomatch e), fun e => absurd e (by decide)⟩, Pl.str, .flat rfl (by decide) (.str h.ok), fun b e => nomatch e⟩
theorem mk_bad {xf xa xm xn xe : V} (h1 : NmC K H xf) (h2 : FoC K C H xa) (h3 : NmC K H xm) (h4 : LiC K H xn) (h5 : EnC K H xe) (no : ¬ PcOk C H xf xa xm xn xe) : ∃ Tn Te, BadP K C H xf xa xm xn xe Tn Te :=
  let ⟨Tn, n1, n2, n3, _⟩ := h4; let ⟨Te, e1, e2⟩ := h5
  ⟨Tn, Te, ⟨h1.1, h2.1, h3.1, n1, e1, n2, n3, h1.2.1, h2.2.1, h3.2.1, e2, h2.2.2, no⟩⟩
/-- an item of the law's list -/
def BadAt (K : PySem.W.Frag) (C : Addr) (H : Hp) (x : V) : Prop := ∃ t xf xa xm xn xe Tn Te, x = .ref t ∧ H t = some (.lst [xf, xa, xm, xn, xe]) ∧ BadP K C H xf xa xm xn xe Tn Te
theorem BadAt.mono {x : V} (S : Same H H') : BadAt K C H x → BadAt K C H' x := fun ⟨t, xf, xa, xm, xn, xe, Tn, Te, h1, h2, h3⟩ => ⟨t, xf, xa, xm, xn, xe, Tn, Te, h1, S _ _ h2, h3.mono S⟩
def Bads (K : PySem.W.Frag) (C : Addr) (H : Hp) (D : Addr) (k : Nat) : Prop := ∃ xs, H D = some (.lst xs) ∧ xs.length ≤ k ∧ ∀ x ∈ xs, BadAt K C H x
theorem Bads.mono {D : Addr} {k : Nat} (S : Same H H') : Bads K C H D k → Bads K C H' D k := fun ⟨xs, h1, h2, h3⟩ => ⟨xs, S _ _ h1, h2, fun x hx => (h3 x hx).mono S⟩
theorem Bads.up {D : Addr} {k k' : Nat} (n : k ≤ k') : Bads K C H D k → Bads K C H D k' := fun ⟨xs, h1, h2, h3⟩ => ⟨xs, h1, Nat.le_trans h2 n, h3⟩
theorem q_bads {Q : VK} {D N : Addr} {k j : Nat} (h : Bads K C H D k) (h' : Bads K C H N j) (hz : k + j ≤ 1000) (q : ∀ D' H', Same H H' → Bads K C H' D' (k + j) → Q (.ref D') H') : rAddU (.ref D) (.ref N) H Q := by
  obtain ⟨xs, h1, h2, h3⟩ := h
  obtain ⟨ys, g1, g2, g3⟩ := h'
  refine q_cat h1 g1 (sz (by omega)) fun D' H' n S hD => q D' H' S ⟨_, hD, by rw [List.length_append]; omega, fun x hx => ?_⟩
  rcases List.mem_append.mp hx with hx | hx
  · exact (h3 x hx).mono S
  · exact (g3 x hx).mono S
/-- a comprehension that makes items -/
theorem lc_bads {a : Addr} {xs : List V} {g : TG} {te : TE} {vs : List Nat} {σ : L2.St} {H1 : Hp} {D : Addr} {Qd : Hp → Prop} (nD : H1 D = none) (hs : SqL K H1 a xs) (hz : xs.length ≤ 100)
    (st : ∀ (i : Nat) (x : V) (H' : Hp), xs[i]? = some x → Same H1 (er D H') → (∃ zs, H' D = some (.lst zs)) → ∀ (N : VK) (Z : Hp → Prop), (∀ y H4, Same H' H4 → BadAt K C (er D H4) y → N y H4) →
      g x (wipe σ vs) H' fun σ2 H2 => wipe σ2 vs = wipe σ vs ∧ tYes σ2 H2 fun b H3 => if b = true then te σ2 H3 N else Z H3)
    (hd : ∀ H', Same H1 H' → Bads K C H' D xs.length → Qd H') :
    ∃ W : Nat → Nat → Hp → Prop, (∃ m, W 0 m (upd H1 D (.lst []))) ∧ ∀ i m H, W i m H →
      ((Itl K a).stop i H ∧ Qd H) ∨ ((Itl K a).go i H ∧ ∃ Nx : Hp → Prop, (∀ H', Nx H' → ∃ m', m' < m ∧ W (i + 1) m' H') ∧ ∀ x H', (Itl K a).yld i H x H' → g x (wipe σ vs) H' fun σ2 H2 => wipe σ2 vs = wipe σ vs ∧ tYes σ2 H2 fun b H3 =>
        if b = true then te σ2 H3 fun y H4 => ∃ acc, H4 D = some (.lst acc) ∧ acc.length < sizeLine ∧ Nx (upd H4 D (.lst (acc ++ [y]))) else Nx H3) := by
  refine lc_list (K := K) (a := a) (xs := xs) (fun i H' => ∃ zs, H' D = some (.lst zs) ∧ zs.length ≤ i ∧ i ≤ xs.length ∧ Same H1 (er D H') ∧ ∀ z ∈ zs, BadAt K C (er D H') z) ⟨[], upd_same, Nat.le_refl _, Nat.zero_le _, er_new nD (Same.new nD), fun z hz => by cases hz⟩ (fun i H' _ ⟨zs, _, _, _, S, _⟩ => SqL_monoN (ext_same (S.trans er_sub)) hs) ?_ ?_
  · rintro i x H' hx ⟨zs, hD, lz, li, S, al⟩
    refine st i x H' hx S ⟨zs, hD⟩ _ _ fun y H4 S4 b => ?_
    have lx := (List.getElem?_eq_some_iff.mp hx).1
    refine ⟨zs, S4 _ _ hD, szlt (by omega), zs ++ [y], upd_same, by rw [List.length_append, List.length_singleton]; omega, by omega, ?_, fun z hz => ?_⟩
    · exact S.trans ((er_mono S4).trans (er_but But.upd))
    · rcases List.mem_append.mp hz with hz | hz
      · exact (al z hz).mono ((er_mono S4).trans (er_but But.upd))
      · rw [List.mem_singleton.mp hz]
        exact b.mono (er_but But.upd)
  · rintro H' ⟨zs, hD, lz, _, S, al⟩
    exact hd H' (S.trans er_sub) ⟨zs, hD, lz, fun z hz => (al z hz).mono er_sub⟩
theorem s_dnew {σ : L2.St} {Q : VK} (h : ∀ p H', H p = none → Same H H' → H' p = some (.dK []) → Q (.ref p) H') : tDNewK σ H Q := fun p n => h p _ n (Same.new n) upd_same
/-! why they make none -/
theorem no_f {xf xa xm xn xe : V} (h : ∀ z, xf = .str z → ¬ Nm z) : ¬ PcOk C H xf xa xm xn xe := fun ⟨f, _, _, _, _, _, _, _, e, _, _, _, _, p⟩ => h f e p.nf
theorem no_a {xf xa xm xn xe : V} (h : ∀ a l c, xa = .ref a → ¬ FormAt C H a l c) : ¬ PcOk C H xf xa xm xn xe := fun ⟨_, a, l, c, _, _, _, _, _, e, _, _, _, p⟩ => h a l c e p.fa
theorem no_m {xf xa xm xn xe : V} (n : xm ≠ .non) (h : ∀ z, xm = .str z → ¬ Nm z) : ¬ PcOk C H xf xa xm xn xe := fun ⟨_, _, _, _, m, _, _, _, _, _, e, _, _, p⟩ => by
  cases m with
  | none => exact n e
  | some z => exact h z e (p.nm z rfl)
theorem no_e {xf xa xm xn xe : V} (h : ∀ b, xe ≠ .bl b) : ¬ PcOk C H xf xa xm xn xe := fun ⟨_, _, _, _, _, _, _, e, _, _, _, _, z, _⟩ => h e z
theorem no_n {xf xm xn xe : V} {a : Addr} {l : Str} {c : Int} (fa : FormAt C H a l c) (h : ∀ q bs' m', xn = .ref q → H q = some (.lst (bs'.map V.str)) → (∀ z ∈ bs', Nm z) → xm = mkV m' → riseB l c (rowOf m' bs') = true → (bs' = [] → xe = .bl true) → False) : ¬ PcOk C H xf (.ref a) xm xn xe := fun ⟨_, a', l', c', m', q, bs', e, _, ea, em, en, ee, p⟩ => by
  injection ea with ea
  subst ea
  obtain ⟨rfl, rfl⟩ := form_inj fa p.fa
  exact h q bs' m' en p.hq p.nb em p.ri fun z => by rw [ee, p.ne z]
theorem no_lst {xf xm xe : V} {a q : Addr} {l : Str} {c : Int} {ys : List V} (fa : FormAt C H a l c) (hq : H q = some (.lst ys)) {y : V} (my : y ∈ ys) (n : ∀ z, y = .str z → ¬ Nm z) : ¬ PcOk C H xf (.ref a) xm (.ref q) xe :=
  no_n fa fun q' bs' m' e1 e2 e3 _ _ _ => by
    injection e1 with e1
    subst e1
    rw [hq] at e2
    injection e2 with e2; injection e2 with e2
    rw [e2] at my
    obtain ⟨z, mz, rfl⟩ := List.mem_map.mp my
    exact n z rfl (e3 z mz)
theorem no_rise {xf xe : V} {a q : Addr} {l : Str} {c : Int} {m : Option Str} {bs' : List Str} (fa : FormAt C H a l c) (hq : H q = some (.lst (bs'.map V.str))) (n : riseB l c (rowOf m bs') ≠ true) : ¬ PcOk C H xf (.ref a) (mkV m) (.ref q) xe :=
  no_n fa fun q' bs2 m' e1 e2 _ e4 e5 _ => by
    injection e1 with e1
    subst e1
    rw [hq] at e2
    injection e2 with e2; injection e2 with e2
    have e2 := map_str_inj e2
    subst e2
    rw [← mkV_inj e4] at e5
    exact n e5
end
/-! ### _law_bad_folders -/
structure TxtB5b (K : PySem.W.Frag) (mg : Str → Option Value) : Prop where
  d__law_bad_folders : Df K mg "_law_bad_folders" s__law_bad_folders ["_law_folder"]
  d__law_bad : Df K mg "_law_bad" s__law_bad ["_law_parts", "_law_spec"]
section
variable {P : Program} {w : World} {K : PySem.W.Frag} {mg : Str → Option Value} {base : Heap} {C CP CL : Addr}
def spBadF (K : PySem.W.Frag) : Sp := fun vs H Q _ => ∃ f, vs = [.str f] ∧ Nm f ∧ ∀ D H' xs, Same H H' → H' D = some (.lst xs) → xs.length ≤ 9 → (∀ x ∈ xs, NmC K H' x ∧ ∀ z, x = .str z → ¬ Nm z) → Q (.ref D) H'
theorem ok__law_bad_folders (M : TxtB5b K mg) : Cal P w K mg base 2 "_law_bad_folders" (spBadF K) := by
  refine M.d__law_bad_folders.cal sc__law_bad_folders (fun vs H Q E h => ?_) (fun fn cdv A outer s H vs Q E hr h => ?_)
  · obtain ⟨f, rfl, _⟩ := h
    rfl
  · obtain ⟨f, rfl, nf, k⟩ := h
    have hu := hr.units
    refine ⟨_, (pss_one (ps_ret (pe_lst (pa_cons pe_str (pa_cons (pe_op op_addU (pv 0) pe_str) (pa_cons (pe_upper (pv 0)) (pa_cons pe_non (pa_cons pe_int (pa_cons (pe_lst (pa_cons (pv 0) pa_nil)) (pa_cons (pe_tup (pa_cons (pv 0) pa_nil)) (pa_cons pe_str (pa_cons (pe_op op_addU (pe_slice sl_str (pv 0) po_none (po_some pe_int)) pe_str) pa_nil)))))))))))), ?_⟩
    k_extra "r_BB5"
    have fl := nf.2.1
    have l8 : (Str.ofString "abcdefgh").length = 8 := by decide +kernel
    have l1 : (Str.ofString "/").length = 1 := by decide +kernel
    refine q_addS (by rw [l8]; exact sz (by omega)) ?_
    k_extra "r_BB5"
    refine ⟨⟨f, rfl⟩, f, rfl, rfl, by omega, ?_⟩
    k_extra "r_BB5"
    refine q_newL (by show 1 ≤ sizeLine; decide) fun p1 H1 n1 S1 h1 => ?_
    k_extra "r_BB5"
    refine q_newT (by show 1 ≤ sizeLine; decide) fun p2 H2 n2 S2 h2 => ?_
    k_extra "r_BB5"
    refine ⟨f, rfl, sz (by omega), ?_⟩
    have cl : (cutS f none (some 7)).length ≤ 8 := by
      rw [len_cps, cut_cps, List.length_take, List.length_drop, ← len_cps]
      omega
    have ca : Asc (cutS f none (some 7)) := fun c hc => nf.asc c (by
      rw [cut_cps] at hc
      exact List.mem_of_mem_drop (List.mem_of_mem_take hc))
    refine q_addS (by rw [l1]; exact sz (by omega)) ?_
    k_extra "r_BB5"
    refine q_newL (by show 9 ≤ sizeLine; decide) fun D H3 n3 S3 h3 => ?_
    refine k D H3 _ (S1.trans (S2.trans S3)) h3 (by show 9 ≤ 9; decide) fun x hx => ?_
    obtain ⟨u1, u2, u3⟩ := upper_nm nf
    simp only [List.mem_cons, List.not_mem_nil, or_false] at hx
    rcases hx with rfl | rfl | rfl | rfl | rfl | rfl | rfl | rfl | rfl
    · exact ⟨nc_str (by decide +kernel) (by decide +kernel), fun z e => by cases e; decide +kernel⟩
    · exact ⟨nc_str (asc_app' nf.asc (by decide +kernel)) (by rw [app_len, l8]; omega), fun z e => by cases e; exact nn_long (by rw [app_len, l8]; have := nf.1; omega)⟩
    · exact ⟨nc_str u2 u1, fun z e => by cases e; exact u3⟩
    · exact ⟨nc_non, fun z e => nomatch e⟩
    · exact ⟨nc_int, fun z e => nomatch e⟩
    · exact ⟨nc_lst ((S2.trans S3) _ _ h1), fun z e => nomatch e⟩
    · exact ⟨nc_tup (S3 _ _ h2), fun z e => nomatch e⟩
    · exact ⟨nc_str (by decide +kernel) (by decide +kernel), fun z e => by cases e; decide +kernel⟩
    · exact ⟨nc_str (asc_app' ca (by decide +kernel)) (by rw [app_len, l1]; omega), fun z e => by
        cases e
        exact nn_mem (c := 47) (mem_r (by decide +kernel)) (by omega)⟩
end
end Bt
namespace Bt
open PySem PySem.Spec PyProof.Rows L2 LamX NdefX
open PySem.W (dataLt dataLe alike AllAlike Sortable)
theorem words55_ : True := by
  k_with "s_BB5c" => first
    | ((with_reducible refine' s_var ?hv ?_); (case hv => exact rfl))
    | with_reducible first
      | refine' s_c ?_ | refine' s_op ?_ | refine' s_asg ?_ | refine' s_gname ?_ | refine' s_seq ?_ | refine' s_next ?_ | refine' s_ret ?_ | refine' s_ifS ?_ | refine' s_drop ?_ | refine' s_retN ?_
      | refine' s_test ?_ | refine' s_B ?_ | refine' q_test ?_ | refine' s_int ?_ | refine' s_cons ?_ | refine' s_nil ?_ | refine' s_call ?_ | refine' s_CB ?_ | refine' s_andT ?_ | refine' s_orT ?_ | refine' s_notT ?_
      | refine' s_andV ?_ | refine' s_orV ?_ | refine' s_notV ?_ | refine' s_ifV ?_ | refine' s_chain ?_ | refine' s_sl ?_ | refine' s_noPart ?_ | refine' s_part ?_ | refine' s_gsub ?_ | refine' s_BM ?_ | refine' s_tup ?_ | refine' s_lst ?_
      | refine' q_add ?_ | refine' q_sub ?_ | refine' q_lt ?_ | refine' q_le ?_ | refine' q_gt ?_ | refine' q_ge ?_ | refine' s_ifT ?_ | refine' s_ifF ?_ | refine' s_yes ?_ | refine' s_prop ?_ | refine' s_iList ?_ | refine' s_callOS ?_ | refine' s_iStr ?_ | refine' s_M0 ?_ | refine' s_make ?_ | refine' s_makeS ?_ | refine' s_ownL ?_ | refine' s_ownR ?_ | refine' s_callSD ?_ | refine' s_fld ?_ | refine' s_prop ?_ | refine' s_meth ?_ | refine' s_raise1 ?_ | refine' s_for ?_ | refine' s_rng1 ?_ | refine' s_par ?_ | refine' s_gcons ?_ | refine' s_gnil ?_ | refine' s_iList ?_ | refine' s_iEnum ?_
      | (refine' q_mod ?hm ?_; (case hm => first | omega | decide)) | (refine' q_fdiv ?hm ?hn ?_; (case hm => first | omega | decide); (case hn => first | omega | decide))
      | (refine' q_mulR ?hm ?_; (case hm => first | omega | decide)) | (refine' q_mulL ?hm ?_; (case hm => first | omega | decide))
    | dsimp only
  k_with "r_BB5c" => repeat (k_extra "s_BB5c")
  trivial
/-! ### _law_bad -/
section
variable {P : Program} {w : World} {K : PySem.W.Frag} {mg : Str → Option Value} {base : Heap} {C CP CL : Addr}
def spBad (K : PySem.W.Frag) (C : Addr) : Sp := fun vs H Q _ => ∃ pt sp f a l c m n bs e, vs = [.ref pt, .ref sp] ∧ Par C H pt sp f a l c m n bs e ∧ ∀ D H', Same H H' → Bads K C H' D 400 → Q (.ref D) H'
def rRevL (K : PySem.W.Frag) (Q : VK) (x : V) (H : Hp) : Prop := ∃ a xs, x = .ref a ∧ SqL K H a xs ∧ ∀ p, H p = none → Q (.ref p) (upd H p (.lst xs.reverse))
theorem s_revL {K : PySem.W.Frag} {te : TE} {σ : L2.St} {H : Hp} {Q : VK} (h : te σ H fun x H1 => rRevL K Q x H1) : tRevL K te σ H Q := h
theorem q_revL {K : PySem.W.Frag} {H : Hp} {Q : VK} {a : Addr} {xs : List V} (h : SqL K H a xs) (q : ∀ p H', H p = none → Same H H' → H' p = some (.lst xs.reverse) → Q (.ref p) H') : rRevL K Q (.ref a) H := ⟨a, xs, rfl, h, fun p n => q p _ n (Same.new n) upd_same⟩
section
variable {pt sp : Addr} {f : Str} {a : Addr} {l : Str} {c : Int} {m : Option Str} {n : Addr} {bs : List Str} {e : Bool} {H H' H4 : Hp} {D t : Addr} {x xf xa xm xn xe : V}
theorem Par.gf (p : Par C H pt sp f a l c m n bs e) : NmC K H (.str f) := .nm p.pc.nf
theorem Par.ga (p : Par C H pt sp f a l c m n bs e) : FoC K C H (.ref a) := ⟨.inl ⟨a, l, c, rfl, p.pc.fa, p.pc.ll, p.pc.c1⟩, .ref a, fun b e => by cases e; obtain ⟨dx, g⟩ := p.pc.fa; exact ⟨_, g⟩⟩
theorem Par.gm (p : Par C H pt sp f a l c m n bs e) : NmC K H (mkV m) := .mk p.pc.nm
theorem Par.gn (p : Par C H pt sp f a l c m n bs e) : LiC K H (.ref n) := .lst p.pc.hq (by have := p.lz; rw [List.length_map]; omega) fun y hy => by
  obtain ⟨z, mz, rfl⟩ := List.mem_map.mp hy
  exact .nm (p.pc.nb z mz)
theorem Par.ge (p : Par C H pt sp f a l c m n bs e) : EnC K H (.bl e) := nc_bl.en
theorem bad5 (nt : t ≠ D) (ht : H4 t = some (.lst [xf, xa, xm, xn, xe])) (h : ∃ Tn Te, BadP K C (er D H4) xf xa xm xn xe Tn Te) : BadAt K C (er D H4) (.ref t) := let ⟨Tn, Te, b⟩ := h; ⟨t, _, _, _, _, _, Tn, Te, rfl, by rw [er_ne nt]; exact ht, b⟩
theorem bad6 (ht : H4 t = some (.lst [xf, xa, xm, xn, xe])) (h : ∃ Tn Te, BadP K C H4 xf xa xm xn xe Tn Te) : BadAt K C H4 (.ref t) := let ⟨Tn, Te, b⟩ := h; ⟨t, _, _, _, _, _, Tn, Te, rfl, ht, b⟩
theorem ne_D (hD : ∃ zs, H D = some (.lst zs)) (nt : H t = none) : t ≠ D := fun z => by
  obtain ⟨zs, e⟩ := hD
  rw [← z, nt] at e; cases e
/-- no instance -/
def NoI (H : Hp) (x : V) : Prop := ∀ b, x = .ref b → ∃ o, H b = some o ∧ ∀ C' dx fs, o ≠ .ins C' dx fs
theorem NoI.mono (S : Same H H') (h : NoI H x) : NoI H' x := fun b e => let ⟨o, h1, h2⟩ := h b e; ⟨o, S _ _ h1, h2⟩
theorem NoI.no (h : NoI H x) : ∀ a l c, x = .ref a → ¬ FormAt C H a l c := fun a l c e ⟨dx, g⟩ => by
  obtain ⟨o, h1, h2⟩ := h a e
  rw [g] at h1
  exact h2 _ _ _ (Option.some.inj h1).symm
theorem NmC.fo' (h : NmC K H x) (n : NoI H x) : FoC K C H x := h.fo fun b e C' dx fs g => by
  obtain ⟨o, h1, h2⟩ := n b e
  rw [g] at h1
  exact h2 _ _ _ (Option.some.inj h1).symm
/-- no list of names -/
def NoL (H : Hp) (x : V) : Prop := (∀ b, x ≠ .ref b) ∨ (∃ b o, x = .ref b ∧ H b = some o ∧ ∀ ys, o ≠ .lst ys) ∨ ∃ b ys y, x = .ref b ∧ H b = some (.lst ys) ∧ y ∈ ys ∧ ∀ z, y = .str z → ¬ Nm z
theorem NoL.mono (S : Same H H') : NoL H x → NoL H' x
  | .inl h => .inl h
  | .inr (.inl ⟨b, o, e, h, h2⟩) => .inr (.inl ⟨b, o, e, S _ _ h, h2⟩)
  | .inr (.inr ⟨b, ys, y, e, h, h2⟩) => .inr (.inr ⟨b, ys, y, e, S _ _ h, h2⟩)
theorem NoL.no (h : NoL H x) (p : Par C H pt sp f a l c m n bs e) : ¬ PcOk C H xf (.ref a) xm x xe := by
  rcases h with h | ⟨b, o, rfl, h, h2⟩ | ⟨b, ys, y, rfl, h, h2, h3⟩
  · exact no_n p.pc.fa fun q bs' m' e1 _ _ _ _ _ => h q e1
  · exact no_n p.pc.fa fun q bs' m' e1 e2 _ _ _ _ => by
      cases e1
      rw [h] at e2
      exact h2 _ (Option.some.inj e2)
  · exact no_lst p.pc.fa h h2 h3
def PL (K : PySem.W.Frag) (H : Hp) (x : V) : Prop := LiC K H x ∧ NoL H x
theorem PL.mono (S : Same H H') (h : PL K H x) : PL K H' x := ⟨h.1.mono S, h.2.mono S⟩
theorem nms (p : Par C H pt sp f a l c m n bs e) : ∀ y ∈ bs.map V.str, NmC K H y := fun y hy => by
  obtain ⟨z, mz, rfl⟩ := List.mem_map.mp hy
  exact .nm (p.pc.nb z mz)
theorem pl_r {r : Addr} {y : V} (p : Par C H pt sp f a l c m n bs e) (h : H r = some (.lst (bs.map V.str ++ [y]))) (hy : NmC K H y) (no : ∀ z, y = .str z → ¬ Nm z) : PL K H (.ref r) :=
  ⟨.lst h (by have := p.lz; rw [List.length_append, List.length_map, List.length_singleton]; omega) fun u hu => by
    rcases List.mem_append.mp hu with hu | hu
    · exact nms p u hu
    · rw [List.mem_singleton.mp hu]; exact hy, .inr (.inr ⟨r, _, y, rfl, h, List.mem_append.mpr (.inr List.mem_cons_self), no⟩)⟩
theorem pl_l {r : Addr} {y : V} (p : Par C H pt sp f a l c m n bs e) (h : H r = some (.lst ([y] ++ bs.map V.str))) (hy : NmC K H y) (no : ∀ z, y = .str z → ¬ Nm z) : PL K H (.ref r) :=
  ⟨.lst h (by have := p.lz; rw [List.length_append, List.length_map, List.length_singleton]; omega) fun u hu => by
    rcases List.mem_append.mp hu with hu | hu
    · rw [List.mem_singleton.mp hu]; exact hy
    · exact nms p u hu, .inr (.inr ⟨r, _, y, rfl, h, List.mem_append.mpr (.inl List.mem_cons_self), no⟩)⟩
theorem atI_neg {α : Type} {xs : List α} {k : Nat} {i : Int} {v : α} (e : i = -(k : Int)) (h0 : 0 < k) (hk : k ≤ xs.length) (h : xs[xs.length - k]? = some v) : atI xs i = some v := by
  unfold atI ixN
  rw [if_neg (by omega), if_pos (by omega), Option.bind_some, show (i + (xs.length : Int)).toNat = xs.length - k by omega]
  exact h
/-- names that are no row: their items as a bad five -/
theorem LiC.ns {r : Addr} {bs' : List Str} (p : Par C H pt sp f a l c m n bs e) (h : H r = some (.lst (bs'.map V.str))) (hz : bs'.length ≤ 100) (hs : ∀ z ∈ bs', z ∈ bs ∨ Nm z) : LiC K H (.ref r) :=
  .lst h (by rw [List.length_map]; exact hz) fun y hy => by
    obtain ⟨z, mz, rfl⟩ := List.mem_map.mp hy
    exact .nm ((hs z mz).elim (p.pc.nb z) id)
theorem bad_row {r : Addr} {bs' : List Str} (p : Par C H pt sp f a l c m n bs e) (h : H r = some (.lst (bs'.map V.str))) (hz : bs'.length ≤ 100) (hs : ∀ z ∈ bs', z ∈ bs ∨ Nm z) (no : riseB l c (rowOf m bs') ≠ true) : ∃ Tn Te, BadP K C H (.str f) (.ref a) (mkV m) (.ref r) (.bl e) Tn Te :=
  mk_bad p.gf p.ga p.gm (.ns p h hz hs) p.ge (no_rise p.pc.fa h no)
end

theorem ok__law_bad (T : Txt K mg) (N : TxtN K mg) (M : TxtB5b K mg) : Cal P w K mg base 4 "_law_bad" (spBad K C) := by
  refine M.d__law_bad.cal sc__law_bad (fun vs H Q E h => ?_) (fun fn cdv A outer s H vs Q E hr h => ?_)
  · obtain ⟨pt, sp, f, a, l, c, m, n, bs, e, rfl, _⟩ := h
    rfl
  · obtain ⟨pt, sp, f, a, l, c, m, n, bs, e, rfl, pr, k⟩ := h
    have hu := hr.units
    refine ⟨_, (pss_cons (ps_asg (pv 0) (pg_lst (by rfl) (pgs_cons (pg_name (i := 2) sc__law_bad.nd rfl (.inr rfl)) (pgs_cons (pg_name (i := 3) sc__law_bad.nd rfl (.inr rfl)) (pgs_cons (pg_name (i := 4) sc__law_bad.nd rfl (.inr rfl)) (pgs_cons (pg_name (i := 5) sc__law_bad.nd rfl (.inr rfl)) (pgs_cons (pg_name (i := 6) sc__law_bad.nd rfl (.inr rfl)) pgs_nil)))))))
      (pss_cons (ps_setLc (i := 7) (own := [("_law_one", 9)]) (g := gName 9) (tt := tYes) (te := (tLst (tCons (tVar 9) (tCons (tVar 3) (tCons (tVar 4) (tCons (tVar 5) (tCons (tVar 6) tNil))))))) rfl sc__law_bad.nd rfl rfl (sw_true rfl rfl rfl (by decide +kernel)) (pi_list (pe_c (ok__law_bad_folders M) hr (by decide) rfl (pa_cons (pv 2) pa_nil))) (blkOk_by (own := [("_law_one", 9)]) (N := ["_law_parts", "_law_spec", "_law_folder", "_law_form_here", "_law_mark", "_law_names_here", "_law_ended", "_law_bad_here", "_law_lists", "_law_one", "_law_name_here"]) (sc := defScope s__law_bad) (by decide +kernel)) (fun _ _ _ _ _ => pg_name (i := 9) sc__law_bad.nd rfl (Or.inl rfl)) (fun _ _ _ _ _ => pts_nil) (fun _ _ _ _ _ => (pe_lst (pa_cons (pv 9) (pa_cons (pv 3) (pa_cons (pv 4) (pa_cons (pv 5) (pa_cons (pv 6) pa_nil))))))))
      (C8.pss_cut (ps_set (i := 7) sc__law_bad.nd rfl (.inl rfl) (pe_op op_addU (pv 7) (pe_lc (own := [("_law_one", 9)]) (g := gName 9) (tt := tYes) (te := (tLst (tCons (tVar 2) (tCons (tVar 9) (tCons (tVar 4) (tCons (tVar 5) (tCons (tVar 6) tNil))))))) rfl sc__law_bad.nd (pi_list (pe_lst (pa_cons pe_non (pa_cons (pv 1) (pa_cons (pe_ix ix_seq (pv 1) pe_int (fun _ _ => rfl)) (pa_cons (pe_ix ix_seq (pv 1) pe_int (fun _ _ => rfl)) (pa_cons (pe_lst (pa_cons (pv 3) pa_nil)) pa_nil))))))) (blkOk_by (own := [("_law_one", 9)]) (N := ["_law_parts", "_law_spec", "_law_folder", "_law_form_here", "_law_mark", "_law_names_here", "_law_ended", "_law_bad_here", "_law_lists", "_law_one", "_law_name_here"]) (sc := defScope s__law_bad) (by decide +kernel)) (fun _ _ _ _ _ => pg_name (i := 9) sc__law_bad.nd rfl (Or.inl rfl)) (fun _ _ _ _ _ => pts_nil) (fun _ _ _ _ _ => (pe_lst (pa_cons (pv 2) (pa_cons (pv 9) (pa_cons (pv 4) (pa_cons (pv 5) (pa_cons (pv 6) pa_nil))))))))))
      (C8.pss_cut (ps_set (i := 7) sc__law_bad.nd rfl (.inl rfl) (pe_op op_addU (pv 7) (pe_lc (own := [("_law_one", 9)]) (g := gName 9) (tt := tYes) (te := (tLst (tCons (tVar 2) (tCons (tVar 3) (tCons (tVar 9) (tCons (tVar 5) (tCons (tVar 6) tNil))))))) rfl sc__law_bad.nd (pi_list (pe_lst (pa_cons pe_str (pa_cons pe_int (pa_cons pe_bl (pa_cons (pe_lst pa_nil) (pa_cons pe_str (pa_cons (pe_tup (pa_cons (pv 2) pa_nil)) (pa_cons pe_str pa_nil))))))))) (blkOk_by (own := [("_law_one", 9)]) (N := ["_law_parts", "_law_spec", "_law_folder", "_law_form_here", "_law_mark", "_law_names_here", "_law_ended", "_law_bad_here", "_law_lists", "_law_one", "_law_name_here"]) (sc := defScope s__law_bad) (by decide +kernel)) (fun _ _ _ _ _ => pg_name (i := 9) sc__law_bad.nd rfl (Or.inl rfl)) (fun _ _ _ _ _ => pts_nil) (fun _ _ _ _ _ => (pe_lst (pa_cons (pv 2) (pa_cons (pv 3) (pa_cons (pv 9) (pa_cons (pv 5) (pa_cons (pv 6) pa_nil))))))))))
      (C8.pss_cut (ps_set (i := 8) sc__law_bad.nd rfl (.inl rfl) (pe_lst (pa_cons (pe_callTy call_tupL (by rfl) T.n_tuple (by decide +kernel) (pa_cons (pv 5) pa_nil)) (pa_cons pe_non (pa_cons (pv 2) (pa_cons (pe_op op_addU (pv 5) (pe_lst (pa_cons pe_str pa_nil))) (pa_cons (pe_op op_addU (pv 5) (pe_lst (pa_cons pe_str pa_nil))) (pa_cons (pe_op op_addU (pv 5) (pe_lst (pa_cons (pe_lst (pa_cons pe_str pa_nil)) pa_nil))) (pa_cons (pe_op op_addU (pe_lst (pa_cons (pe_lst (pa_cons (pv 2) pa_nil)) pa_nil)) (pv 5)) (pa_cons pe_dnewK pa_nil))))))))))
      (C8.pss_cut (ps_set (i := 8) sc__law_bad.nd rfl (.inl rfl) (pe_op op_addU (pv 8) (pe_lst (pa_cons (pe_op op_addU (pv 5) (pe_lst (pa_cons pe_dnewK pa_nil))) (pa_cons (pe_op op_addU (pv 5) (pe_lst (pa_cons (pe_tup (pa_cons (pv 2) pa_nil)) pa_nil))) (pa_cons (pe_op op_addU (pe_lst (pa_cons (pv 5) pa_nil)) (pv 5)) (pa_cons (pe_op op_addU (pv 5) (pe_lst (pa_cons pe_int pa_nil))) (pa_cons (pe_op op_addU (pv 5) (pe_lst (pa_cons pe_bl pa_nil))) pa_nil))))))))
      (C8.pss_cut (ps_set (i := 7) sc__law_bad.nd rfl (.inl rfl) (pe_op op_addU (pv 7) (pe_lc (own := [("_law_one", 9)]) (g := gName 9) (tt := tYes) (te := (tLst (tCons (tVar 2) (tCons (tVar 3) (tCons (tVar 4) (tCons (tVar 9) (tCons (tVar 6) tNil))))))) rfl sc__law_bad.nd (pi_list (pv 8)) (blkOk_by (own := [("_law_one", 9)]) (N := ["_law_parts", "_law_spec", "_law_folder", "_law_form_here", "_law_mark", "_law_names_here", "_law_ended", "_law_bad_here", "_law_lists", "_law_one", "_law_name_here"]) (sc := defScope s__law_bad) (by decide +kernel)) (fun _ _ _ _ _ => pg_name (i := 9) sc__law_bad.nd rfl (Or.inl rfl)) (fun _ _ _ _ _ => pts_nil) (fun _ _ _ _ _ => (pe_lst (pa_cons (pv 2) (pa_cons (pv 3) (pa_cons (pv 4) (pa_cons (pv 9) (pa_cons (pv 6) pa_nil))))))))))
      (C8.pss_cut (ps_set (i := 7) sc__law_bad.nd rfl (.inl rfl) (pe_op op_addU (pv 7) (pe_lc (own := [("_law_one", 9)]) (g := gName 9) (tt := tYes) (te := (tLst (tCons (tVar 2) (tCons (tVar 3) (tCons (tVar 4) (tCons (tVar 5) (tCons (tVar 9) tNil))))))) rfl sc__law_bad.nd (pi_list (pe_lst (pa_cons pe_non (pa_cons pe_int (pa_cons pe_int (pa_cons pe_str (pa_cons (pe_lst (pa_cons (pv 6) pa_nil)) pa_nil))))))) (blkOk_by (own := [("_law_one", 9)]) (N := ["_law_parts", "_law_spec", "_law_folder", "_law_form_here", "_law_mark", "_law_names_here", "_law_ended", "_law_bad_here", "_law_lists", "_law_one", "_law_name_here"]) (sc := defScope s__law_bad) (by decide +kernel)) (fun _ _ _ _ _ => pg_name (i := 9) sc__law_bad.nd rfl (Or.inl rfl)) (fun _ _ _ _ _ => pts_nil) (fun _ _ _ _ _ => (pe_lst (pa_cons (pv 2) (pa_cons (pv 3) (pa_cons (pv 4) (pa_cons (pv 5) (pa_cons (pv 9) pa_nil))))))))))
      (C8.pss_cut (ps_set (i := 7) sc__law_bad.nd rfl (.inl rfl) (pe_op op_addU (pv 7) (pe_lst (pa_cons (pe_lst (pa_cons (pv 2) (pa_cons (pv 3) (pa_cons (pv 4) (pa_cons (pe_lst pa_nil) (pa_cons pe_bl pa_nil)))))) pa_nil))))
      (C8.pss_cut (ps_if (pt_cmpR (op_neU hu) (pv 5) (pe_lst pa_nil) (by rfl)) (C8.pss_cut (ps_set (i := 7) sc__law_bad.nd rfl (.inl rfl) (pe_op op_addU (pv 7) (pe_lc (own := [("_law_name_here", 10)]) (g := gName 10) (tt := tYes) (te := (tLst (tCons (tVar 2) (tCons (tVar 3) (tCons (tVar 10) (tCons (tVar 5) (tCons (tVar 6) tNil))))))) rfl sc__law_bad.nd (pi_list (pv 5)) (blkOk_by (own := [("_law_name_here", 10)]) (N := ["_law_parts", "_law_spec", "_law_folder", "_law_form_here", "_law_mark", "_law_names_here", "_law_ended", "_law_bad_here", "_law_lists", "_law_one", "_law_name_here"]) (sc := defScope s__law_bad) (by decide +kernel)) (fun _ _ _ _ _ => pg_name (i := 10) sc__law_bad.nd rfl (Or.inl rfl)) (fun _ _ _ _ _ => pts_nil) (fun _ _ _ _ _ => (pe_lst (pa_cons (pv 2) (pa_cons (pv 3) (pa_cons (pv 10) (pa_cons (pv 5) (pa_cons (pv 6) pa_nil))))))))))
        (C8.pss_cut (ps_set (i := 7) sc__law_bad.nd rfl (.inl rfl) (pe_op op_addU (pv 7) (pe_lc (own := [("_law_name_here", 10)]) (g := gName 10) (tt := tYes) (te := (tLst (tCons (tVar 2) (tCons (tVar 3) (tCons (tVar 4) (tCons (tOp rAddU (tLst (tCons (tVar 10) tNil)) (tVar 5)) (tCons (tVar 6) tNil))))))) rfl sc__law_bad.nd (pi_list (pv 5)) (blkOk_by (own := [("_law_name_here", 10)]) (N := ["_law_parts", "_law_spec", "_law_folder", "_law_form_here", "_law_mark", "_law_names_here", "_law_ended", "_law_bad_here", "_law_lists", "_law_one", "_law_name_here"]) (sc := defScope s__law_bad) (by decide +kernel)) (fun _ _ _ _ _ => pg_name (i := 10) sc__law_bad.nd rfl (Or.inl rfl)) (fun _ _ _ _ _ => pts_nil) (fun _ _ _ _ _ => (pe_lst (pa_cons (pv 2) (pa_cons (pv 3) (pa_cons (pv 4) (pa_cons (pe_op op_addU (pe_lst (pa_cons (pv 10) pa_nil)) (pv 5)) (pa_cons (pv 6) pa_nil))))))))))
        (C8.pss_cut (ps_set (i := 7) sc__law_bad.nd rfl (.inl rfl) (pe_op op_addU (pv 7) (pe_lc (own := [("_law_name_here", 10)]) (g := gName 10) (tt := tYes) (te := (tLst (tCons (tVar 2) (tCons (tVar 3) (tCons (tVar 4) (tCons (tOp rAddU (tVar 5) (tLst (tCons (tVar 10) tNil))) (tCons (tVar 6) tNil))))))) rfl sc__law_bad.nd (pi_list (pv 5)) (blkOk_by (own := [("_law_name_here", 10)]) (N := ["_law_parts", "_law_spec", "_law_folder", "_law_form_here", "_law_mark", "_law_names_here", "_law_ended", "_law_bad_here", "_law_lists", "_law_one", "_law_name_here"]) (sc := defScope s__law_bad) (by decide +kernel)) (fun _ _ _ _ _ => pg_name (i := 10) sc__law_bad.nd rfl (Or.inl rfl)) (fun _ _ _ _ _ => pts_nil) (fun _ _ _ _ _ => (pe_lst (pa_cons (pv 2) (pa_cons (pv 3) (pa_cons (pv 4) (pa_cons (pe_op op_addU (pv 5) (pe_lst (pa_cons (pv 10) pa_nil))) (pa_cons (pv 6) pa_nil))))))))))
        (pss_one (ps_set (i := 7) sc__law_bad.nd rfl (.inl rfl) (pe_op op_addU (pv 7) (pe_lst (pa_cons (pe_lst (pa_cons (pv 2) (pa_cons (pv 3) (pa_cons (pv 4) (pa_cons (pe_op op_addU (pv 5) (pe_lst (pa_cons (pe_ix ix_seq (pv 5) pe_int (fun _ _ => rfl)) pa_nil))) (pa_cons (pv 6) pa_nil)))))) (pa_cons (pe_lst (pa_cons (pv 2) (pa_cons (pv 3) (pa_cons (pv 4) (pa_cons (pe_op op_addU (pv 5) (pe_lst (pa_cons pe_non pa_nil))) (pa_cons (pv 6) pa_nil)))))) pa_nil))))))))) pss_nil)
      (C8.pss_cut (ps_if (pt_cmpR op_gtI (pe_callB call_lenQ (by rfl) N.n_len (by decide +kernel) (pa_cons (pv 5) pa_nil)) pe_int (by rfl)) (C8.pss_cut (ps_set (i := 7) sc__law_bad.nd rfl (.inl rfl) (pe_op op_addU (pv 7) (pe_lst (pa_cons (pe_lst (pa_cons (pv 2) (pa_cons (pv 3) (pa_cons (pv 4) (pa_cons (pe_revL (pv 5)) (pa_cons (pv 6) pa_nil)))))) (pa_cons (pe_lst (pa_cons (pv 2) (pa_cons (pv 3) (pa_cons (pv 4) (pa_cons (pe_op op_addU (pe_slice sl_list (pv 5) (po_some pe_int) po_none) (pe_slice sl_list (pv 5) po_none (po_some pe_int))) (pa_cons (pv 6) pa_nil)))))) pa_nil)))))
        (pss_one (ps_set (i := 7) sc__law_bad.nd rfl (.inl rfl) (pe_op op_addU (pv 7) (pe_lst (pa_cons (pe_lst (pa_cons (pv 2) (pa_cons (pv 3) (pa_cons (pv 4) (pa_cons (pe_op op_addU (pe_slice sl_list (pv 5) po_none (po_some (pe_un un_neg pe_int))) (pe_lst (pa_cons (pe_ix ix_seq (pv 5) (pe_un un_neg pe_int) (fun _ _ => rfl)) (pa_cons (pe_ix ix_seq (pv 5) (pe_un un_neg pe_int) (fun _ _ => rfl)) pa_nil)))) (pa_cons (pv 6) pa_nil)))))) pa_nil)))))) pss_nil)
      (C8.pss_cut (ps_if (pt_cmpR op_isNotNon (pv 4) pe_non (by rfl)) (pss_one (ps_set (i := 7) sc__law_bad.nd rfl (.inl rfl) (pe_op op_addU (pv 7) (pe_lst (pa_cons (pe_lst (pa_cons (pv 2) (pa_cons (pv 3) (pa_cons (pv 4) (pa_cons (pe_op op_addU (pe_lst (pa_cons (pv 4) pa_nil)) (pv 5)) (pa_cons (pv 6) pa_nil)))))) pa_nil))))) pss_nil)
      (pss_one (ps_ret (pv 7))))))))))))))), ?_⟩
    have pc := pr.pc
    have lz := pr.lz
    have hc : ∀ y : V, (bs.map V.str).length + [y].length ≤ sizeLine := fun y => by rw [List.length_map]; exact sz (by show bs.length + 1 ≤ _; omega)
    have hc' : ∀ y : V, [y].length + (bs.map V.str).length ≤ sizeLine := fun y => by rw [List.length_map]; exact sz (by show 1 + bs.length ≤ _; omega)
    k_extra "r_BB5c"
    refine ⟨pt, _, rfl, SqL.of pr.hp, rfl, ?_⟩
    k_extra "r_BB5c"
    refine s_lc ?_
    k_extra "r_BB5c"
    refine ⟨f, rfl, pc.nf, fun L H1 xs S1 hL lx al => ?_⟩
    refine ⟨L, rfl, ⟨_, SqL.of hL⟩, fun D nD => lc_bads (K := K) (C := C) (a := L) (xs := xs) nD (SqL.of hL) (by omega) ?_ ?_⟩
    · intro i x H' hx S' hD N Z hN
      k_extra "r_BB5c"
      refine ⟨rfl, ?_⟩
      k_extra "r_BB5c"
      refine q_newL (by show 5 ≤ sizeLine; decide) fun t H4 nt S4 ht => hN _ _ S4 ?_
      have S14 := S'.trans (er_mono (D := D) S4)
      have p4 := pr.mono (S1.trans S14)
      obtain ⟨g1, g2⟩ := al x (List.mem_of_getElem? hx)
      exact bad5 (ne_D hD nt) ht (mk_bad (g1.mono S14) p4.ga p4.gm p4.gn p4.ge (no_f g2))
    intro H2 S2 B2
    replace B2 := B2.up (k' := 9) (by omega)
    have S02 := S1.trans S2
    clear S1 S2 hL lx al nD
    k_extra "r_BB5c"
    refine ⟨fun σ H' => ∃ (D : Addr), σ = [some (.ref pt), some (.ref sp), some (.str f), some (.ref a), some (mkV m), some (.ref n), some (.bl e), some (.ref D), none, none, none] ∧ Same H H' ∧ Bads K C H' D 14, ?_, ?_⟩
    · k_extra "r_BB5c"
      refine s_lc ?_
      k_extra "r_BB5c"
      refine q_ixT (SqT.of (S02 _ _ pr.hs)) (at_of (j := 0) rfl rfl) ?_
      k_extra "r_BB5c"
      refine q_ixT (SqT.of (S02 _ _ pr.hs)) (at_of (j := 1) rfl rfl) ?_
      k_extra "r_BB5c"
      refine q_newL (by show 1 ≤ sizeLine; decide) fun lf H3 n3 S3 h3 => ?_
      k_extra "r_BB5c"
      refine q_newL (by show 5 ≤ sizeLine; decide) fun L3 H4 n4 S4 hL => ?_
      have al : ∀ x ∈ [V.non, .ref sp, .str l, .int c, .ref lf], NmC K H4 x ∧ NoI H4 x := fun x hx => by
        have hs4 := S4 _ _ (S3 _ _ (S02 _ _ pr.hs))
        simp only [List.mem_cons, List.not_mem_nil, or_false] at hx
        rcases hx with rfl | rfl | rfl | rfl | rfl
        · exact ⟨nc_non, fun b e => nomatch e⟩
        · exact ⟨nc_tup hs4, fun b e => by cases e; exact ⟨_, hs4, fun _ _ _ z => nomatch z⟩⟩
        · exact ⟨nc_str pc.ll.asc (by rw [pc.ll.len]; decide), fun b e => nomatch e⟩
        · exact ⟨nc_int, fun b e => nomatch e⟩
        · exact ⟨nc_lst (S4 _ _ h3), fun b e => by cases e; exact ⟨_, S4 _ _ h3, fun _ _ _ z => nomatch z⟩⟩
      have S24 := S3.trans S4
      have S04 := S02.trans S24
      refine ⟨L3, rfl, ⟨_, SqL.of hL⟩, fun D5 nD5 => lc_bads (K := K) (C := C) (a := L3) (xs := _) nD5 (SqL.of hL) (by show 5 ≤ 100; decide) ?_ ?_⟩
      · intro i x H' hx S' hD N Z hN
        k_extra "r_BB5c"
        refine ⟨rfl, ?_⟩
        k_extra "r_BB5c"
        refine q_newL (by show 5 ≤ sizeLine; decide) fun t H5 nt S5 ht => hN _ _ S5 ?_
        have S14 := S'.trans (er_mono (D := D5) S5)
        have p4 := pr.mono (S04.trans S14)
        obtain ⟨g1, g2⟩ := al x (List.mem_of_getElem? hx)
        exact bad5 (ne_D hD nt) ht (mk_bad p4.gf ((g1.mono S14).fo' (g2.mono S14)) p4.gm p4.gn p4.ge (no_a (g2.mono S14).no))
      · intro H5 S5 B5
        refine q_bads (B2.mono (S24.trans S5)) (B5.up (k' := 5) (by exact Nat.le_refl _)) (by decide) fun D6 H6 S6 B6 => ?_
        k_extra "r_BB5c"
        exact ⟨_, rfl, S04.trans (S5.trans S6), B6⟩
    clear B2 S02
    rintro σ H2 ⟨D, rfl, S02, B2⟩
    refine ⟨fun σ H' => ∃ (D : Addr), σ = [some (.ref pt), some (.ref sp), some (.str f), some (.ref a), some (mkV m), some (.ref n), some (.bl e), some (.ref D), none, none, none] ∧ Same H H' ∧ Bads K C H' D 21, ?_, ?_⟩
    · k_extra "r_BB5c"
      refine s_lc ?_
      k_extra "r_BB5c"
      refine q_newL (by show 0 ≤ sizeLine; decide) fun l0 H7 n7 S7 h7 => ?_
      k_extra "r_BB5c"
      refine q_newT (by show 1 ≤ sizeLine; decide) fun t0 H8 n8 S8 h8 => ?_
      k_extra "r_BB5c"
      refine q_newL (by show 7 ≤ sizeLine; decide) fun L9 H9 n9 S9 hL => ?_
      have S24 := S7.trans (S8.trans S9)
      have S04 := S02.trans S24
      have al : ∀ x ∈ [V.str (Str.ofString ""), .int 0, .bl false, .ref l0, .str (Str.ofString "A"), .ref t0, .str (Str.ofString "abcdefghi")], NmC K H9 x ∧ x ≠ .non ∧ ∀ z, x = .str z → ¬ Nm z := fun x hx => by
        simp only [List.mem_cons, List.not_mem_nil, or_false] at hx
        rcases hx with rfl | rfl | rfl | rfl | rfl | rfl | rfl
        · exact ⟨nc_str (by decide +kernel) (by decide +kernel), (fun e => nomatch e), fun z e => by cases e; decide +kernel⟩
        · exact ⟨nc_int, (fun e => nomatch e), fun z e => nomatch e⟩
        · exact ⟨nc_bl, (fun e => nomatch e), fun z e => nomatch e⟩
        · exact ⟨nc_lst ((S8.trans S9) _ _ h7), (fun e => nomatch e), fun z e => nomatch e⟩
        · exact ⟨nc_str (by decide +kernel) (by decide +kernel), (fun e => nomatch e), fun z e => by cases e; decide +kernel⟩
        · exact ⟨nc_tup (S9 _ _ h8), (fun e => nomatch e), fun z e => nomatch e⟩
        · exact ⟨nc_str (by decide +kernel) (by decide +kernel), (fun e => nomatch e), fun z e => by cases e; decide +kernel⟩
      refine ⟨L9, rfl, ⟨_, SqL.of hL⟩, fun D5 nD5 => lc_bads (K := K) (C := C) (a := L9) (xs := _) nD5 (SqL.of hL) (by show 7 ≤ 100; decide) ?_ ?_⟩
      · intro i x H' hx S' hD N Z hN
        k_extra "r_BB5c"
        refine ⟨rfl, ?_⟩
        k_extra "r_BB5c"
        refine q_newL (by show 5 ≤ sizeLine; decide) fun t H5 nt S5 ht => hN _ _ S5 ?_
        have S14 := S'.trans (er_mono (D := D5) S5)
        have p4 := pr.mono (S04.trans S14)
        obtain ⟨g1, g2, g3⟩ := al x (List.mem_of_getElem? hx)
        exact bad5 (ne_D hD nt) ht (mk_bad p4.gf p4.ga (g1.mono S14) p4.gn p4.ge (no_m g2 g3))
      · intro H5 S5 B5
        refine q_bads (B2.mono (S24.trans S5)) (B5.up (k' := 7) (by exact Nat.le_refl _)) (by decide) fun D6 H6 S6 B6 => ?_
        k_extra "r_BB5c"
        exact ⟨_, rfl, S04.trans (S5.trans S6), B6⟩
    rintro σ H2 ⟨D, rfl, S02, B2⟩
    refine ⟨fun σ H' => ∃ (D : Addr) (M1 : Addr), σ = [some (.ref pt), some (.ref sp), some (.str f), some (.ref a), some (mkV m), some (.ref n), some (.bl e), some (.ref D), some (.ref M1), none, none] ∧ Same H H' ∧ Bads K C H' D 21 ∧ ∃ Ls, H' M1 = some (.lst Ls) ∧ Ls.length = 8 ∧ ∀ x ∈ Ls, PL K H' x, ?_, ?_⟩
    · k_extra "r_BB5c"
      have p11 := pr.mono S02
      refine q_tupL (SqL.of p11.pc.hq) fun tn H12 n12 S12 h12 => ?_
      have p12 := p11.mono S12
      have e1 : PL K H12 (.ref tn) := ⟨.tup h12 (nms p12), .inr (.inl ⟨tn, _, rfl, h12, fun _ z => nomatch z⟩)⟩
      k_extra "r_BB5c"
      refine q_newL (by show 1 ≤ sizeLine; decide) fun u1 H13 _ S13 g1 => ?_
      have p13 := p12.mono S13
      refine q_cat p13.pc.hq g1 (hc _) fun r1 H14 _ S14 h14 => ?_
      have p14 := p13.mono S14
      have e2 : PL K H14 (.ref r1) := pl_r p14 h14 (nc_str (by decide +kernel) (by decide +kernel)) (fun z e => by cases e; decide +kernel)
      k_extra "r_BB5c"
      refine q_newL (by show 1 ≤ sizeLine; decide) fun u2 H15 _ S15 g2 => ?_
      have p15 := p14.mono S15
      refine q_cat p15.pc.hq g2 (hc _) fun r2 H16 _ S16 h16 => ?_
      have p16 := p15.mono S16
      have e3 : PL K H16 (.ref r2) := pl_r p16 h16 (nc_str (by decide +kernel) (by decide +kernel)) (fun z e => by cases e; decide +kernel)
      k_extra "r_BB5c"
      refine q_newL (by show 1 ≤ sizeLine; decide) fun u3 H17 _ S17 g3 => ?_
      k_extra "r_BB5c"
      refine q_newL (by show 1 ≤ sizeLine; decide) fun u4 H18 _ S18 g4 => ?_
      have p18 := p16.mono (S17.trans S18)
      refine q_cat p18.pc.hq g4 (hc _) fun r3 H19 _ S19 h19 => ?_
      have p19 := p18.mono S19
      have e4 : PL K H19 (.ref r3) := pl_r p19 h19 (nc_lst (S19 _ _ (S18 _ _ g3))) (fun z e => nomatch e)
      k_extra "r_BB5c"
      refine q_newL (by show 1 ≤ sizeLine; decide) fun u5 H20 _ S20 g5 => ?_
      k_extra "r_BB5c"
      refine q_newL (by show 1 ≤ sizeLine; decide) fun u6 H21 _ S21 g6 => ?_
      k_extra "r_BB5c"
      have p21 := p19.mono (S20.trans S21)
      refine q_cat g6 p21.pc.hq (hc' _) fun r4 H22 _ S22 h22 => ?_
      have p22 := p21.mono S22
      have e5 : PL K H22 (.ref r4) := pl_l p22 h22 (nc_lst (S22 _ _ (S21 _ _ g5))) (fun z e => nomatch e)
      k_extra "r_BB5c"
      refine s_dnew fun d1 H23 _ S23 g7 => ?_
      have e6 : PL K H23 (.ref d1) := ⟨.dct g7, .inr (.inl ⟨d1, _, rfl, g7, fun _ z => nomatch z⟩)⟩
      k_extra "r_BB5c"
      refine q_newL (by show 8 ≤ sizeLine; decide) fun M1 H24 _ S24 hM => ?_
      have al : ∀ x ∈ [V.ref tn, .non, .str f, .ref r1, .ref r2, .ref r3, .ref r4, .ref d1], PL K H24 x := fun x hx => by
        have z5 := S23.trans S24
        have z4 := S20.trans (S21.trans (S22.trans z5))
        have z3 := S17.trans (S18.trans (S19.trans z4))
        have z2 := S15.trans (S16.trans z3)
        have z1 := S13.trans (S14.trans z2)
        simp only [List.mem_cons, List.not_mem_nil, or_false] at hx
        rcases hx with rfl | rfl | rfl | rfl | rfl | rfl | rfl | rfl
        · exact e1.mono z1
        · exact ⟨.non, .inl fun b e => nomatch e⟩
        · exact ⟨.str pc.nf.asc, .inl fun b e => nomatch e⟩
        · exact e2.mono z2
        · exact e3.mono z3
        · exact e4.mono z4
        · exact e5.mono z5
        · exact e6.mono S24
      have S1124 : Same H2 H24 := S12.trans (S13.trans (S14.trans (S15.trans (S16.trans (S17.trans (S18.trans (S19.trans (S20.trans (S21.trans (S22.trans (S23.trans S24)))))))))))
      k_extra "r_BB5c"
      exact ⟨_, _, rfl, S02.trans S1124, B2.mono S1124, _, hM, rfl, al⟩
    rintro σ H2 ⟨D, M1, rfl, S02, B2, Ls, hLs, lLs, all⟩
    refine ⟨fun σ H' => ∃ (D : Addr) (M3 : Addr), σ = [some (.ref pt), some (.ref sp), some (.str f), some (.ref a), some (mkV m), some (.ref n), some (.bl e), some (.ref D), some (.ref M3), none, none] ∧ Same H H' ∧ Bads K C H' D 21 ∧ ∃ Ls, H' M3 = some (.lst Ls) ∧ Ls.length = 13 ∧ ∀ x ∈ Ls, PL K H' x, ?_, ?_⟩
    · k_extra "r_BB5c"
      have p24 := pr.mono S02
      refine s_dnew fun d2 H25 _ S25 g1 => ?_
      k_extra "r_BB5c"
      refine q_newL (by show 1 ≤ sizeLine; decide) fun u1 H26 _ S26 g2 => ?_
      have p26 := p24.mono (S25.trans S26)
      refine q_cat p26.pc.hq g2 (hc _) fun r1 H27 _ S27 h27 => ?_
      have p27 := p26.mono S27
      have e1 : PL K H27 (.ref r1) := pl_r p27 h27 (nc_dct (S27 _ _ (S26 _ _ g1))) (fun z e => nomatch e)
      k_extra "r_BB5c"
      refine q_newT (by show 1 ≤ sizeLine; decide) fun t2 H28 _ S28 g3 => ?_
      k_extra "r_BB5c"
      refine q_newL (by show 1 ≤ sizeLine; decide) fun u2 H29 _ S29 g4 => ?_
      have p29 := p27.mono (S28.trans S29)
      refine q_cat p29.pc.hq g4 (hc _) fun r2 H30 _ S30 h30 => ?_
      have p30 := p29.mono S30
      have e2 : PL K H30 (.ref r2) := pl_r p30 h30 (nc_tup (S30 _ _ (S29 _ _ g3))) (fun z e => nomatch e)
      k_extra "r_BB5c"
      refine q_newL (by show 1 ≤ sizeLine; decide) fun u3 H31 _ S31 g5 => ?_
      k_extra "r_BB5c"
      have p31 := p30.mono S31
      refine q_cat g5 p31.pc.hq (hc' _) fun r3 H32 _ S32 h32 => ?_
      have p32 := p31.mono S32
      have e3 : PL K H32 (.ref r3) := pl_l p32 h32 (nc_lst p32.pc.hq) (fun z e => nomatch e)
      k_extra "r_BB5c"
      refine q_newL (by show 1 ≤ sizeLine; decide) fun u4 H33 _ S33 g6 => ?_
      have p33 := p32.mono S33
      refine q_cat p33.pc.hq g6 (hc _) fun r4 H34 _ S34 h34 => ?_
      have p34 := p33.mono S34
      have e4 : PL K H34 (.ref r4) := pl_r p34 h34 nc_int (fun z e => nomatch e)
      k_extra "r_BB5c"
      refine q_newL (by show 1 ≤ sizeLine; decide) fun u5 H35 _ S35 g7 => ?_
      have p35 := p34.mono S35
      refine q_cat p35.pc.hq g7 (hc _) fun r5 H36 _ S36 h36 => ?_
      have p36 := p35.mono S36
      have e5 : PL K H36 (.ref r5) := pl_r p36 h36 nc_bl (fun z e => nomatch e)
      k_extra "r_BB5c"
      refine q_newL (by show 5 ≤ sizeLine; decide) fun M2 H37 _ S37 hM2 => ?_
      have z4 := S35.trans (S36.trans S37)
      have z3 := S33.trans (S34.trans z4)
      have z2 := S31.trans (S32.trans z3)
      have z1 := S28.trans (S29.trans (S30.trans z2))
      have z0 := S25.trans (S26.trans (S27.trans z1))
      refine q_cat (z0 _ _ hLs) hM2 (by show Ls.length + 5 ≤ sizeLine; rw [lLs]; decide) fun M3 H38 _ S38 hM3 => ?_
      have al3 : ∀ x ∈ Ls ++ [V.ref r1, .ref r2, .ref r3, .ref r4, .ref r5], PL K H38 x := fun x hx => by
        rcases List.mem_append.mp hx with hx | hx
        · exact (all x hx).mono (z0.trans S38)
        · simp only [List.mem_cons, List.not_mem_nil, or_false] at hx
          rcases hx with rfl | rfl | rfl | rfl | rfl
          · exact e1.mono (z1.trans S38)
          · exact e2.mono (z2.trans S38)
          · exact e3.mono (z3.trans S38)
          · exact e4.mono (z4.trans S38)
          · exact e5.mono (S37.trans S38)
      k_extra "r_BB5c"
      exact ⟨_, _, rfl, S02.trans (z0.trans S38), B2.mono (z0.trans S38), _, hM3, by rw [List.length_append, lLs]; rfl, al3⟩
    rintro σ H2 ⟨D, M3, rfl, S02, B2, Ls, hLs, lLs, all⟩
    refine ⟨fun σ H' => ∃ (D : Addr) (M3 : Addr), σ = [some (.ref pt), some (.ref sp), some (.str f), some (.ref a), some (mkV m), some (.ref n), some (.bl e), some (.ref D), some (.ref M3), none, none] ∧ Same H H' ∧ Bads K C H' D 34, ?_, ?_⟩
    · k_extra "r_BB5c"
      refine s_lc ?_
      k_extra "r_BB5c"
      have S24 : Same H2 H2 := Same.refl _
      have S04 := S02
      have hL := hLs
      refine ⟨M3, rfl, ⟨_, SqL.of hL⟩, fun D5 nD5 => lc_bads (K := K) (C := C) (a := M3) (xs := _) nD5 (SqL.of hL) (by omega) ?_ ?_⟩
      · intro i x H' hx S' hD N Z hN
        k_extra "r_BB5c"
        refine ⟨rfl, ?_⟩
        k_extra "r_BB5c"
        refine q_newL (by show 5 ≤ sizeLine; decide) fun t H5 nt S5 ht => hN _ _ S5 ?_
        have S14 := S'.trans (er_mono (D := D5) S5)
        have p4 := pr.mono (S04.trans S14)
        obtain ⟨g1, g2⟩ := all x (List.mem_of_getElem? hx)
        exact bad5 (ne_D hD nt) ht (mk_bad p4.gf p4.ga p4.gm (g1.mono S14) p4.ge ((g2.mono S14).no p4))
      · intro H5 S5 B5
        refine q_bads (B2.mono (S24.trans S5)) (B5.up (k' := 13) (by omega)) (by decide) fun D6 H6 S6 B6 => ?_
        k_extra "r_BB5c"
        exact ⟨_, _, rfl, S04.trans (S5.trans S6), B6⟩
    rintro σ H2 ⟨D, M3, rfl, S02, B2⟩
    refine ⟨fun σ H' => ∃ (D : Addr) (M3 : Addr), σ = [some (.ref pt), some (.ref sp), some (.str f), some (.ref a), some (mkV m), some (.ref n), some (.bl e), some (.ref D), some (.ref M3), none, none] ∧ Same H H' ∧ Bads K C H' D 39, ?_, ?_⟩
    · k_extra "r_BB5c"
      refine s_lc ?_
      k_extra "r_BB5c"
      refine q_newL (by show 1 ≤ sizeLine; decide) fun lf H41 n41 S41 h41 => ?_
      k_extra "r_BB5c"
      refine q_newL (by show 5 ≤ sizeLine; decide) fun L42 H42 n42 S42 hL => ?_
      have al : ∀ x ∈ [V.non, .int 0, .int 1, .str (Str.ofString ""), .ref lf], EnC K H42 x ∧ ∀ b, x ≠ .bl b := fun x hx => by
        simp only [List.mem_cons, List.not_mem_nil, or_false] at hx
        rcases hx with rfl | rfl | rfl | rfl | rfl
        · exact ⟨nc_non.en, fun b z => nomatch z⟩
        · exact ⟨nc_int.en, fun b z => nomatch z⟩
        · exact ⟨nc_int.en, fun b z => nomatch z⟩
        · exact ⟨(nc_str (by decide +kernel) (by decide +kernel)).en, fun b z => nomatch z⟩
        · exact ⟨(nc_lst (S42 _ _ h41)).en, fun b z => nomatch z⟩
      have S24 := S41.trans S42
      have S04 := S02.trans S24
      refine ⟨L42, rfl, ⟨_, SqL.of hL⟩, fun D5 nD5 => lc_bads (K := K) (C := C) (a := L42) (xs := _) nD5 (SqL.of hL) (by show 5 ≤ 100; decide) ?_ ?_⟩
      · intro i x H' hx S' hD N Z hN
        k_extra "r_BB5c"
        refine ⟨rfl, ?_⟩
        k_extra "r_BB5c"
        refine q_newL (by show 5 ≤ sizeLine; decide) fun t H5 nt S5 ht => hN _ _ S5 ?_
        have S14 := S'.trans (er_mono (D := D5) S5)
        have p4 := pr.mono (S04.trans S14)
        obtain ⟨g1, g2⟩ := al x (List.mem_of_getElem? hx)
        exact bad5 (ne_D hD nt) ht (mk_bad p4.gf p4.ga p4.gm p4.gn (g1.mono S14) (no_e g2))
      · intro H5 S5 B5
        refine q_bads (B2.mono (S24.trans S5)) (B5.up (k' := 5) (by exact Nat.le_refl _)) (by decide) fun D6 H6 S6 B6 => ?_
        k_extra "r_BB5c"
        exact ⟨_, _, rfl, S04.trans (S5.trans S6), B6⟩
    rintro σ H2 ⟨D, M3, rfl, S02, B2⟩
    refine ⟨fun σ H' => ∃ (D : Addr) (M3 : Addr), σ = [some (.ref pt), some (.ref sp), some (.str f), some (.ref a), some (mkV m), some (.ref n), some (.bl e), some (.ref D), some (.ref M3), none, none] ∧ Same H H' ∧ Bads K C H' D 40, ?_, ?_⟩
    · k_extra "r_BB5c"
      refine q_newL (by show 0 ≤ sizeLine; decide) fun l0 H45 _ S45 h45 => ?_
      k_extra "r_BB5c"
      refine q_newL (by show 5 ≤ sizeLine; decide) fun t5 H46 _ S46 h46 => ?_
      k_extra "r_BB5c"
      refine q_newL (by show 1 ≤ sizeLine; decide) fun L47 H47 _ S47 h47 => ?_
      have b47 : Bads K C H47 L47 1 := ⟨_, h47, Nat.le_refl _, fun x hx => by
        rw [List.mem_singleton.mp hx]
        have p47 := pr.mono (S02.trans (S45.trans (S46.trans S47)))
        refine bad6 (S47 _ _ h46) (mk_bad p47.gf p47.ga p47.gm (.lst ((S46.trans S47) _ _ h45) (by decide) fun y hy => by cases hy) nc_bl.en (no_n p47.pc.fa fun q bs' m' e1 e2 _ _ _ e6 => ?_))
        injection e1 with e1
        subst e1
        rw [(S46.trans S47) _ _ h45] at e2
        injection e2 with e2; injection e2 with e2
        have := e6 (by cases bs' with | nil => rfl | cons _ _ => cases e2)
        cases this⟩
      refine q_bads (B2.mono (S45.trans (S46.trans S47))) b47 (by decide) fun D48 H48 S48 B48 => ?_
      k_extra "r_BB5c"
      exact ⟨_, _, rfl, S02.trans (S45.trans (S46.trans (S47.trans S48))), B48⟩
    rintro σ H2 ⟨D, M3, rfl, S02, B2⟩
    refine ⟨fun σ H' => ∃ (D : Addr) (M3 : Addr), σ = [some (.ref pt), some (.ref sp), some (.str f), some (.ref a), some (mkV m), some (.ref n), some (.bl e), some (.ref D), some (.ref M3), none, none] ∧ Same H H' ∧ Bads K C H' D 96, ?_, ?_⟩
    · k_extra "r_BB5c"
      refine q_newL (by show 0 ≤ sizeLine; decide) fun l0 H4 n4 S4 h4 => ?_
      refine q_neD (dp_lst_strs (S4 _ _ (S02 _ _ pc.hq))) (dp_lst_strs (ys := []) h4) (shaped_strs fun y hy => (pc.nb y hy).asc) (shaped_strs fun y hy => by cases hy) ?_
      rw [eqv_strs]
      by_cases eb : bs = []
      · refine q_test (s_if0 (by simp [eb]) ?_)
        k_extra "r_BB5c"
        exact ⟨_, _, rfl, S02.trans S4, (B2.mono S4).up (by decide)⟩
      · refine q_test (s_if1 (by simp [eb]) ?_)
        replace S02 := S02.trans S4
        replace B2 := B2.mono S4
        clear n4 h4 S4 H2
        refine ⟨fun σ H' => ∃ (D : Addr) (M3 : Addr), σ = [some (.ref pt), some (.ref sp), some (.str f), some (.ref a), some (mkV m), some (.ref n), some (.bl e), some (.ref D), some (.ref M3), none, none] ∧ Same H H' ∧ Bads K C H' D 58, ?_, ?_⟩
        · k_extra "r_BB5c"
          refine s_lc ?_
          k_extra "r_BB5c"
          refine ⟨n, rfl, ⟨_, SqL.of (S02 _ _ pc.hq)⟩, fun D5 nD5 => lc_bads (K := K) (C := C) (a := n) (xs := bs.map V.str) nD5 (SqL.of (S02 _ _ pc.hq)) (by rw [List.length_map]; omega) ?_ ?_⟩
          · intro i x H' hx S' hD N Z hN
            rw [List.getElem?_map] at hx
            obtain ⟨z, ez, rfl⟩ := Option.map_eq_some_iff.mp hx
            have mz := List.mem_of_getElem? ez
            k_extra "r_BB5c"
            refine ⟨rfl, ?_⟩
            k_extra "r_BB5c"
            refine q_newL (by show 5 ≤ sizeLine; decide) fun t H5 nt S5 ht => hN _ _ S5 ?_
            have p4 := pr.mono (S02.trans (S'.trans (er_mono (D := D5) S5)))
            exact bad5 (ne_D hD nt) ht (mk_bad p4.gf p4.ga (.nm (pc.nb z mz)) p4.gn p4.ge (no_rise (m := some z) p4.pc.fa p4.pc.hq (no_rise_dup (mem_dup mz))))
          · intro H5 S5 B5
            refine q_bads (B2.mono S5) (B5.up (k' := 18) (by rw [List.length_map]; exact lz)) (by decide) fun D6 H6 S6 B6 => ?_
            k_extra "r_BB5c"
            exact ⟨_, _, rfl, S02.trans (S5.trans S6), B6⟩
        clear S02 B2 D M3 H4
        rintro σ H2 ⟨D, M3, rfl, S02, B2⟩
        refine ⟨fun σ H' => ∃ (D : Addr) (M3 : Addr), σ = [some (.ref pt), some (.ref sp), some (.str f), some (.ref a), some (mkV m), some (.ref n), some (.bl e), some (.ref D), some (.ref M3), none, none] ∧ Same H H' ∧ Bads K C H' D 76, ?_, ?_⟩
        · k_extra "r_BB5c"
          refine s_lc ?_
          k_extra "r_BB5c"
          refine ⟨n, rfl, ⟨_, SqL.of (S02 _ _ pc.hq)⟩, fun D5 nD5 => lc_bads (K := K) (C := C) (a := n) (xs := bs.map V.str) nD5 (SqL.of (S02 _ _ pc.hq)) (by rw [List.length_map]; omega) ?_ ?_⟩
          · intro i x H' hx S' hD N Z hN
            rw [List.getElem?_map] at hx
            obtain ⟨z, ez, rfl⟩ := Option.map_eq_some_iff.mp hx
            have mz := List.mem_of_getElem? ez
            k_extra "r_BB5c"
            refine ⟨rfl, ?_⟩
            k_extra "r_BB5c"
            refine q_newL (by show 1 ≤ sizeLine; decide) fun u H5 nu S5 hu5 => ?_
            k_extra "r_BB5c"
            have hq5 := S5 _ _ (er_sub _ _ (S' _ _ (S02 _ _ pc.hq)))
            refine q_cat hu5 hq5 (hc' _) fun r H6 nr S6 hr6 => ?_
            k_extra "r_BB5c"
            refine q_newL (by show 5 ≤ sizeLine; decide) fun t H7 nt S7 ht => hN _ _ (S5.trans (S6.trans S7)) ?_
            obtain ⟨zs, hz⟩ := hD
            have p4 := pr.mono (S02.trans (S'.trans (er_mono (D := D5) (S5.trans (S6.trans S7)))))
            have hr7 : er D5 H7 r = some (.lst ((z :: bs).map V.str)) := by rw [er_ne (ne_D ⟨_, S5 _ _ hz⟩ nr)]; exact S7 _ _ hr6
            exact bad5 (ne_D ⟨_, S6 _ _ (S5 _ _ hz)⟩ nt) ht (bad_row p4 hr7 (by rw [List.length_cons]; omega) (fun y hy => (List.mem_cons.mp hy).elim (fun e => .inl (e ▸ mz)) .inl) (no_rise_dup ((mem_dup mz).trans row_sub)))
          · intro H5 S5 B5
            refine q_bads (B2.mono S5) (B5.up (k' := 18) (by rw [List.length_map]; exact lz)) (by decide) fun D6 H6 S6 B6 => ?_
            k_extra "r_BB5c"
            exact ⟨_, _, rfl, S02.trans (S5.trans S6), B6⟩
        clear S02 B2 D M3 H2
        rintro σ H2 ⟨D, M3, rfl, S02, B2⟩
        refine ⟨fun σ H' => ∃ (D : Addr) (M3 : Addr), σ = [some (.ref pt), some (.ref sp), some (.str f), some (.ref a), some (mkV m), some (.ref n), some (.bl e), some (.ref D), some (.ref M3), none, none] ∧ Same H H' ∧ Bads K C H' D 94, ?_, ?_⟩
        · k_extra "r_BB5c"
          refine s_lc ?_
          k_extra "r_BB5c"
          refine ⟨n, rfl, ⟨_, SqL.of (S02 _ _ pc.hq)⟩, fun D5 nD5 => lc_bads (K := K) (C := C) (a := n) (xs := bs.map V.str) nD5 (SqL.of (S02 _ _ pc.hq)) (by rw [List.length_map]; omega) ?_ ?_⟩
          · intro i x H' hx S' hD N Z hN
            rw [List.getElem?_map] at hx
            obtain ⟨z, ez, rfl⟩ := Option.map_eq_some_iff.mp hx
            have mz := List.mem_of_getElem? ez
            k_extra "r_BB5c"
            refine ⟨rfl, ?_⟩
            k_extra "r_BB5c"
            refine q_newL (by show 1 ≤ sizeLine; decide) fun u H5 nu S5 hu5 => ?_
            have hq5 := S5 _ _ (er_sub _ _ (S' _ _ (S02 _ _ pc.hq)))
            refine q_cat hq5 hu5 (hc _) fun r H6 nr S6 hr6 => ?_
            k_extra "r_BB5c"
            refine q_newL (by show 5 ≤ sizeLine; decide) fun t H7 nt S7 ht => hN _ _ (S5.trans (S6.trans S7)) ?_
            obtain ⟨zs, hz⟩ := hD
            have p4 := pr.mono (S02.trans (S'.trans (er_mono (D := D5) (S5.trans (S6.trans S7)))))
            have hr7 : er D5 H7 r = some (.lst ((bs ++ [z]).map V.str)) := by rw [er_ne (ne_D ⟨_, S5 _ _ hz⟩ nr), List.map_append]; exact S7 _ _ hr6
            exact bad5 (ne_D ⟨_, S6 _ _ (S5 _ _ hz)⟩ nt) ht (bad_row p4 hr7 (by rw [List.length_append, List.length_singleton]; omega) (fun y hy => (List.mem_append.mp hy).elim .inl fun e => .inl (List.mem_singleton.mp e ▸ mz)) (no_rise_dup ((mem_dup2 mz).trans row_sub)))
          · intro H5 S5 B5
            refine q_bads (B2.mono S5) (B5.up (k' := 18) (by rw [List.length_map]; exact lz)) (by decide) fun D6 H6 S6 B6 => ?_
            k_extra "r_BB5c"
            exact ⟨_, _, rfl, S02.trans (S5.trans S6), B6⟩
        clear S02 B2 D M3 H2
        rintro σ H2 ⟨D, M3, rfl, S02, B2⟩
        k_extra "r_BB5c"
        obtain ⟨b0, eb0⟩ : ∃ b0, bs[0]? = some b0 := ⟨bs[0]'(List.length_pos_iff.mpr eb), List.getElem?_eq_getElem _⟩
        have mb0 := List.mem_of_getElem? eb0
        refine q_ixL (SqL.of (S02 _ _ pc.hq)) (at_of (j := 0) rfl (by rw [List.getElem?_map, eb0]; rfl)) ?_
        k_extra "r_BB5c"
        refine q_newL (by show 1 ≤ sizeLine; decide) fun u H5 nu S5 hu5 => ?_
        refine q_cat (S5 _ _ (S02 _ _ pc.hq)) hu5 (hc _) fun r H6 nr S6 hr6 => ?_
        k_extra "r_BB5c"
        refine q_newL (by show 5 ≤ sizeLine; decide) fun t H7 nt S7 ht => ?_
        k_extra "r_BB5c"
        refine q_newL (by show 1 ≤ sizeLine; decide) fun u2 H8 nu2 S8 hu8 => ?_
        have S28 : Same H2 H8 := S5.trans (S6.trans (S7.trans S8))
        refine q_cat (S28 _ _ (S02 _ _ pc.hq)) hu8 (hc _) fun r2 H9 nr2 S9 hr9 => ?_
        k_extra "r_BB5c"
        refine q_newL (by show 5 ≤ sizeLine; decide) fun t2 H10 nt2 S10 ht2 => ?_
        k_extra "r_BB5c"
        refine q_newL (by show 2 ≤ sizeLine; decide) fun L H11 nL S11 hL => ?_
        have S211 : Same H2 H11 := S28.trans (S9.trans (S10.trans S11))
        have p7 := pr.mono (S02.trans (S5.trans (S6.trans S7)))
        have p10 := pr.mono (S02.trans (S28.trans (S9.trans S10)))
        have g1 : BadAt K C H7 (.ref t) := bad6 ht (bad_row p7 (bs' := bs ++ [b0]) (by rw [List.map_append]; exact S7 _ _ hr6) (by rw [List.length_append, List.length_singleton]; omega) (fun y hy => (List.mem_append.mp hy).elim .inl fun e => .inl (List.mem_singleton.mp e ▸ mb0)) (no_rise_dup ((mem_dup2 mb0).trans row_sub)))
        have q10 : PL K H10 (.ref r2) := pl_r p10 (S10 _ _ hr9) nc_non (fun z e => nomatch e)
        have g2 : BadAt K C H10 (.ref t2) := bad6 ht2 (mk_bad p10.gf p10.ga p10.gm q10.1 p10.ge (q10.2.no p10))
        have bL : Bads K C H11 L 2 := ⟨_, hL, Nat.le_refl _, fun x hx => by
          simp only [List.mem_cons, List.not_mem_nil, or_false] at hx
          rcases hx with rfl | rfl
          · exact g1.mono (S8.trans (S9.trans (S10.trans S11)))
          · exact g2.mono S11⟩
        refine q_bads (B2.mono S211) bL (by decide) fun D12 H12 S12 B12 => ?_
        k_extra "r_BB5c"
        exact ⟨_, _, rfl, S02.trans (S211.trans S12), B12⟩
    clear S02 B2 D M3 H2
    rintro σ H2 ⟨D, M3, rfl, S02, B2⟩
    refine ⟨fun σ H' => ∃ (D : Addr) (M3 : Addr), σ = [some (.ref pt), some (.ref sp), some (.str f), some (.ref a), some (mkV m), some (.ref n), some (.bl e), some (.ref D), some (.ref M3), none, none] ∧ Same H H' ∧ Bads K C H' D 99, ?_, ?_⟩
    · k_extra "r_BB5c"
      refine q_lenL (SqL.of (S02 _ _ pc.hq)) ?_
      k_extra "r_BB5c"
      refine s_ifD (fun lt => ?_) (fun _ => ?_)
      rotate_left
      · k_extra "r_BB5c"
        exact ⟨_, _, rfl, S02, B2.up (by decide)⟩
      · have l2 : 2 ≤ bs.length := by rw [List.length_map] at lt; omega
        obtain ⟨y0, e0⟩ : ∃ y, bs[0]? = some y := ⟨bs[0]'(by omega), List.getElem?_eq_getElem _⟩
        obtain ⟨y1, e1⟩ : ∃ y, bs[1]? = some y := ⟨bs[1]'(by omega), List.getElem?_eq_getElem _⟩
        refine ⟨fun σ H' => ∃ (D : Addr) (M3 : Addr), σ = [some (.ref pt), some (.ref sp), some (.str f), some (.ref a), some (mkV m), some (.ref n), some (.bl e), some (.ref D), some (.ref M3), none, none] ∧ Same H H' ∧ Bads K C H' D 98, ?_, ?_⟩
        · k_extra "r_BB5c"
          refine s_revL ?_
          k_extra "r_BB5c"
          refine q_revL (SqL.of (S02 _ _ pc.hq)) fun r H5 nr S5 hr5 => ?_
          k_extra "r_BB5c"
          refine q_newL (by show 5 ≤ sizeLine; decide) fun t H6 nt S6 ht => ?_
          k_extra "r_BB5c"
          refine q_slL (SqL.of (S6 _ _ (S5 _ _ (S02 _ _ pc.hq)))) fun q7 H7 n7 S7 h7 => ?_
          rw [show cutV (bs.map V.str) (some 1) none = (bs.drop 1).map V.str from (cutV_drop 1).trans List.map_drop.symm] at h7
          k_extra "r_BB5c"
          refine q_slL (SqL.of (S7 _ _ (S6 _ _ (S5 _ _ (S02 _ _ pc.hq))))) fun q8 H8 n8 S8 h8 => ?_
          rw [show cutV (bs.map V.str) none (some 1) = (bs.take 1).map V.str from (cutV_take 1).trans List.map_take.symm] at h8
          refine q_cat (S8 _ _ h7) h8 (by rw [List.length_map, List.length_map, List.length_drop, List.length_take]; exact sz (by omega)) fun r2 H9 nr2 S9 hr9 => ?_
          k_extra "r_BB5c"
          refine q_newL (by show 5 ≤ sizeLine; decide) fun t2 H10 nt2 S10 ht2 => ?_
          k_extra "r_BB5c"
          refine q_newL (by show 2 ≤ sizeLine; decide) fun L H11 nL S11 hL => ?_
          have S610 : Same H6 H10 := S7.trans (S8.trans (S9.trans S10))
          have p6 := pr.mono (S02.trans (S5.trans S6))
          have p10 := p6.mono S610
          have g1 : BadAt K C H6 (.ref t) := bad6 ht (bad_row p6 (bs' := bs.reverse) (by rw [List.map_reverse]; exact S6 _ _ hr5) (by rw [List.length_reverse]; omega) (fun y hy => .inl (List.mem_reverse.mp hy)) (no_rise_two (rise_none pc.ri) (two_sub e0 e1 (by decide)) (((two_sub e0 e1 (by decide)).reverse).trans row_sub)))
          have g2 : BadAt K C H10 (.ref t2) := bad6 ht2 (bad_row p10 (bs' := bs.drop 1 ++ bs.take 1) (by rw [List.map_append]; exact S10 _ _ hr9) (by rw [List.length_append, List.length_drop, List.length_take]; omega) (fun y hy => .inl ((List.mem_append.mp hy).elim List.mem_of_mem_drop List.mem_of_mem_take)) (no_rise_two (rise_none pc.ri) (two_sub e0 e1 (by decide)) (((List.singleton_sublist.mpr (List.mem_of_getElem? (i := 0) (by rw [List.getElem?_drop]; exact e1))).append (List.singleton_sublist.mpr (List.mem_of_getElem? (i := 0) (by rw [List.getElem?_take, if_pos (by decide)]; exact e0)))).trans row_sub)))
          have bL : Bads K C H11 L 2 := ⟨_, hL, Nat.le_refl _, fun x hx => by
            simp only [List.mem_cons, List.not_mem_nil, or_false] at hx
            rcases hx with rfl | rfl
            · exact g1.mono (S610.trans S11)
            · exact g2.mono S11⟩
          refine q_bads (B2.mono ((S5.trans S6).trans (S610.trans S11))) bL (by decide) fun D12 H12 S12 B12 => ?_
          k_extra "r_BB5c"
          exact ⟨_, _, rfl, S02.trans (((S5.trans S6).trans (S610.trans S11)).trans S12), B12⟩
        clear S02 B2 D M3 H2
        rintro σ H2 ⟨D, M3, rfl, S02, B2⟩
        k_extra "r_BB5c"
        refine s_unI ⟨2, rfl, ?_⟩
        k_extra "r_BB5c"
        refine q_slL (SqL.of (S02 _ _ pc.hq)) fun q5 H5 n5 S5 h5 => ?_
        rw [show cutV (bs.map V.str) none (some (-2)) = (bs.take (bs.length - 2)).map V.str from (cutV_init 2 rfl (by decide)).trans (by rw [List.length_map, List.map_take])] at h5
        obtain ⟨y, ey⟩ : ∃ y, bs[bs.length - 1]? = some y := ⟨bs[bs.length - 1]'(by omega), List.getElem?_eq_getElem _⟩
        obtain ⟨z, ez⟩ : ∃ z, bs[bs.length - 2]? = some z := ⟨bs[bs.length - 2]'(by omega), List.getElem?_eq_getElem _⟩
        k_extra "r_BB5c"
        refine s_unI ⟨1, rfl, ?_⟩
        k_extra "r_BB5c"
        refine q_ixL (SqL.of (S5 _ _ (S02 _ _ pc.hq))) (atI_neg (k := 1) rfl (by decide) (by rw [List.length_map]; omega) (by rw [List.length_map, List.getElem?_map, ey]; rfl)) ?_
        k_extra "r_BB5c"
        refine s_unI ⟨2, rfl, ?_⟩
        k_extra "r_BB5c"
        refine q_ixL (SqL.of (S5 _ _ (S02 _ _ pc.hq))) (atI_neg (k := 2) rfl (by decide) (by rw [List.length_map]; omega) (by rw [List.length_map, List.getElem?_map, ez]; rfl)) ?_
        k_extra "r_BB5c"
        refine q_newL (by show 2 ≤ sizeLine; decide) fun u H6 nu S6 hu6 => ?_
        refine q_cat (S6 _ _ h5) hu6 (by rw [List.length_map, List.length_take]; exact sz (by show _ + 2 ≤ _; omega)) fun r H7 nr S7 hr7 => ?_
        k_extra "r_BB5c"
        refine q_newL (by show 5 ≤ sizeLine; decide) fun t H8 nt S8 ht => ?_
        k_extra "r_BB5c"
        refine q_newL (by show 1 ≤ sizeLine; decide) fun L H9 nL S9 hL => ?_
        have S28 : Same H2 H8 := S5.trans (S6.trans (S7.trans S8))
        have p8 := pr.mono (S02.trans S28)
        have g1 : BadAt K C H8 (.ref t) := bad6 ht (bad_row p8 (bs' := bs.take (bs.length - 2) ++ [y, z]) (by rw [List.map_append]; exact S8 _ _ hr7) (by rw [List.length_append, List.length_take]; show _ + 2 ≤ _; omega) (fun v hv => .inl ((List.mem_append.mp hv).elim List.mem_of_mem_take fun h => by
          simp only [List.mem_cons, List.not_mem_nil, or_false] at h
          rcases h with rfl | rfl
          · exact List.mem_of_getElem? ey
          · exact List.mem_of_getElem? ez)) (no_rise_two (rise_none pc.ri) (two_sub ez ey (by omega)) ((List.sublist_append_right _ _).trans row_sub)))
        have bL : Bads K C H9 L 1 := ⟨_, hL, Nat.le_refl _, fun x hx => by rw [List.mem_singleton.mp hx]; exact g1.mono S9⟩
        refine q_bads (B2.mono (S28.trans S9)) bL (by decide) fun D12 H12 S12 B12 => ?_
        k_extra "r_BB5c"
        exact ⟨_, _, rfl, S02.trans ((S28.trans S9).trans S12), B12⟩
    clear S02 B2 D M3 H2
    rintro σ H2 ⟨D, M3, rfl, S02, B2⟩
    refine ⟨fun σ H' => ∃ (D : Addr) (M3 : Addr), σ = [some (.ref pt), some (.ref sp), some (.str f), some (.ref a), some (mkV m), some (.ref n), some (.bl e), some (.ref D), some (.ref M3), none, none] ∧ Same H H' ∧ Bads K C H' D 100, ?_, ?_⟩
    · k_extra "r_BB5c"
      refine q_isNotNon ?_
      by_cases em : m = none
      · subst em
        refine q_test (s_if0 (by simp [mkV]) ?_)
        k_extra "r_BB5c"
        exact ⟨_, _, rfl, S02, B2.up (by decide)⟩
      · obtain ⟨z, rfl⟩ : ∃ z, m = some z := Option.ne_none_iff_exists'.mp em
        refine q_test (s_if1 (by simp [mkV]) ?_)
        k_extra "r_BB5c"
        refine q_newL (by show 1 ≤ sizeLine; decide) fun u H5 nu S5 hu5 => ?_
        k_extra "r_BB5c"
        refine q_cat hu5 (S5 _ _ (S02 _ _ pc.hq)) (hc' _) fun r H6 nr S6 hr6 => ?_
        k_extra "r_BB5c"
        refine q_newL (by show 5 ≤ sizeLine; decide) fun t H7 nt S7 ht => ?_
        k_extra "r_BB5c"
        refine q_newL (by show 1 ≤ sizeLine; decide) fun L H8 nL S8 hL => ?_
        have S27 : Same H2 H7 := S5.trans (S6.trans S7)
        have p7 := pr.mono (S02.trans S27)
        have g1 : BadAt K C H7 (.ref t) := bad6 ht (bad_row p7 (bs' := z :: bs) (S7 _ _ hr6) (by rw [List.length_cons]; omega) (fun y hy => (List.mem_cons.mp hy).elim (fun e => .inr (e ▸ pc.nm z rfl)) .inl) (no_rise_dup (z := z) (((List.nil_sublist bs).cons_cons z).cons_cons z)))
        have bL : Bads K C H8 L 1 := ⟨_, hL, Nat.le_refl _, fun x hx => by rw [List.mem_singleton.mp hx]; exact g1.mono S8⟩
        refine q_bads (B2.mono (S27.trans S8)) bL (by decide) fun D12 H12 S12 B12 => ?_
        k_extra "r_BB5c"
        exact ⟨_, _, rfl, S02.trans ((S27.trans S8).trans S12), B12⟩
    clear S02 B2 D M3 H2
    rintro σ H2 ⟨D, M3, rfl, S02, B2⟩
    k_extra "r_BB5c"
    exact k _ _ S02 (B2.up (by decide))

end
end Bt
namespace Bt
open PySem PySem.Spec PyProof.Rows L2 LamX NdefX
open PySem.W (dataLt dataLe alike AllAlike Sortable)
theorem words56_ : True := by
  k_with "s_LL5" => first
    | ((with_reducible refine' s_var ?hv ?_); (case hv => exact rfl))
    | with_reducible first
      | refine' s_c ?_ | refine' s_op ?_ | refine' s_asg ?_ | refine' s_gname ?_ | refine' s_seq ?_ | refine' s_next ?_ | refine' s_ret ?_ | refine' s_ifS ?_ | refine' s_drop ?_ | refine' s_retN ?_
      | refine' s_test ?_ | refine' s_B ?_ | refine' q_test ?_ | refine' s_int ?_ | refine' s_cons ?_ | refine' s_nil ?_ | refine' s_call ?_ | refine' s_CB ?_ | refine' s_andT ?_ | refine' s_orT ?_ | refine' s_notT ?_
      | refine' s_andV ?_ | refine' s_orV ?_ | refine' s_notV ?_ | refine' s_ifV ?_ | refine' s_chain ?_ | refine' s_sl ?_ | refine' s_noPart ?_ | refine' s_part ?_ | refine' s_gsub ?_ | refine' s_BM ?_ | refine' s_tup ?_ | refine' s_lst ?_
      | refine' q_add ?_ | refine' q_sub ?_ | refine' q_lt ?_ | refine' q_le ?_ | refine' q_gt ?_ | refine' q_ge ?_ | refine' s_ifT ?_ | refine' s_ifF ?_ | refine' s_yes ?_ | refine' s_prop ?_ | refine' s_iList ?_ | refine' s_callOS ?_ | refine' s_iStr ?_ | refine' s_M0 ?_ | refine' s_make ?_ | refine' s_makeS ?_ | refine' s_ownL ?_ | refine' s_ownR ?_ | refine' s_callSD ?_ | refine' s_fld ?_ | refine' s_prop ?_ | refine' s_meth ?_ | refine' s_raise1 ?_ | refine' s_for ?_ | refine' s_rng1 ?_ | refine' s_par ?_ | refine' s_gcons ?_ | refine' s_gnil ?_ | refine' s_iList ?_ | refine' s_iEnum ?_
      | (refine' q_mod ?hm ?_; (case hm => first | omega | decide)) | (refine' q_fdiv ?hm ?hn ?_; (case hm => first | omega | decide); (case hn => first | omega | decide))
      | (refine' q_mulR ?hm ?_; (case hm => first | omega | decide)) | (refine' q_mulL ?hm ?_; (case hm => first | omega | decide))
    | dsimp only
  k_with "r_LL5" => repeat (k_extra "s_LL5")
  trivial
/-! ### the law -/
structure Law5 (K : PySem.W.Frag) (mg : Str → Option Value) (CP CK CA : Addr) : Prop where
  g : mg "Look" = some (.ref CK)
  kLook : PySem.W.kitOne K (.ref CP) (.ref CK) = some true
  kAsk : PySem.W.kitOne K (.ref CP) (.ref CA) = some false
  kPA : PySem.W.kitOne K (.ref CA) (.ref CP) = some false
  kTup : PySem.W.kitOne K (.type "tuple") (.ref CP) = some false
  kInt : PySem.W.kitOne K (.type "int") (.ref CP) = some false
  nfA : PySem.W.notFirst K CP (.ref CA) = true
  nfT : PySem.W.notFirst K CP (.type "tuple") = true
  nfI : PySem.W.notFirst K CP (.type "int") = true
def rEq5 (K : PySem.W.Frag) (C : Addr) : R2 := fun x y H Q => rEqI K 1 x y H Q ∨ rEqF K C (spFormEq K C) E0 x y H Q
theorem op_eq5 {X : Cx} {C f : Addr} {fd : FuncData} (T : Txt X.K X.mg) (FC : FormC X.K X.mg C) (FF : Fun X.K "__eq__" "Form.__eq__" s_Form___eq__ f fd) (hr : Room 4 X.A) (hs : PySem.W.findIn X.K (.ref C) "__eq__" = some (some (.ref f))) (hf : PySem.W.isFn X.K (.ref f) = true) (hb : Binds X.K fd ["self", "other"] []) : OpR X (compareOp .Eq) (rEq5 X.K C) :=
  OpR.or (op_eqI (room66 hr)) (op_eqF (ok_form_eq T FC FF) hr (by have := hr.un; omega) hs hf hb pass0)
theorem eqv_str (a b : Str) : PyData.eqv (.str a) (.str b) = decide (a = b) := by
  simp only [PyData.eqv]
  by_cases h : a = b <;> simp [h]
theorem eqv_bl (a b : Bool) : PyData.eqv (.bool a) (.bool b) = decide (a = b) := by
  simp only [PyData.eqv]
  cases a <;> cases b <;> rfl
def dM : Option Str → PyData
  | none => .none
  | some z => .str z
theorem dM_dp {K : PySem.W.Frag} {H : Hp} {m : Option Str} : Dp K H (mkV m) (dM m) := by
  cases m with
  | none => exact .non
  | some z => exact .str z
theorem dM_eqv (m m' : Option Str) : PyData.eqv (dM m) (dM m') = decide (m = m') := by
  cases m with
  | none => cases m' with
    | none => simp [dM, PyData.eqv]
    | some z => simp [dM, PyData.eqv]
  | some y => cases m' with
    | none => simp [dM, PyData.eqv]
    | some z => rw [show dM (some y) = .str y from rfl, show dM (some z) = .str z from rfl, eqv_str]; simp
theorem sh_str {z : Str} (h : Nm z) : SeqAt.shaped (.str z) = true := by unfold SeqAt.shaped; simp [PyData.canLay0, PyData.depth, h.asc.ok]
theorem sh_dM {m : Option Str} (h : ∀ z, m = some z → Nm z) : SeqAt.shaped (dM m) = true := by
  cases m with
  | none => decide
  | some z => exact sh_str (h z rfl)
theorem sh_bl (b : Bool) : SeqAt.shaped (.bool b) = true := by cases b <;> decide
section
variable {K : PySem.W.Frag} {H : Hp} {f f' : Str} {a : Addr} {m m' : Option Str} {N n : Addr} {bs bs' : List Str} {e e' : Bool}
theorem ev_str {k : Nat} (h : Nm f') (h' : Nm f) : EqV K H k (.str f') (.str f) (decide (f' = f)) := by
  have := EqV.data (K := K) (H := H) (n := k) (.str f') (.str f) (sh_str h) (sh_str h')
  rwa [eqv_str] at this
theorem five_eqs (nf' : Nm f') (nf : Nm f) (nm' : ∀ z, m' = some z → Nm z) (nm : ∀ z, m = some z → Nm z) (hN : H N = some (.lst (bs'.map V.str))) (hn : H n = some (.lst (bs.map V.str))) (nb' : ∀ z ∈ bs', Nm z) (nb : ∀ z ∈ bs, Nm z) :
    EqVs K H 1 [.str f', .ref a, mkV m', .ref N, .bl e'] [.str f, .ref a, mkV m, .ref n, .bl e] [decide (f' = f), true, decide (m' = m), decide (bs' = bs), decide (e' = e)] := by
  have h1 := EqV.data (K := K) (H := H) (n := 1) (dM_dp (m := m')) (dM_dp (m := m)) (sh_dM nm') (sh_dM nm)
  rw [dM_eqv] at h1
  have h2 := EqV.data (K := K) (H := H) (n := 1) (dp_lst_strs hN) (dp_lst_strs hn) (shaped_strs fun y hy => (nb' y hy).asc) (shaped_strs fun y hy => (nb y hy).asc)
  rw [eqv_strs] at h2
  have h3 := EqV.data (K := K) (H := H) (n := 1) (.bl e') (.bl e) (sh_bl e') (sh_bl e)
  rw [eqv_bl] at h3
  exact .cons (ev_str nf' nf) (.cons (.same a) (.cons h1 (.cons h2 (.cons h3 .nil))))
end
structure W5 (C CP : Addr) (H : Hp) (sp n fo p tw : Addr) (f l : Str) (c : Int) (m : Option Str) (bs : List Str) (e : Bool) : Prop where
  hs : H sp = some (.tup [.str l, .int c])
  c2 : c ≤ 1000
  lz : bs.length ≤ 18
  pc : PcIn C H f fo l c m n bs e
  pa : PcAtA C CP H p f fo l c m bs e
  tw : ∃ fo2, PcAtA C CP H tw f fo2 l c m bs e
theorem W5.mono {C CP : Addr} {H H' : Hp} {sp n fo p tw : Addr} {f l : Str} {c : Int} {m : Option Str} {bs : List Str} {e : Bool} (S : Same H H') (h : W5 C CP H sp n fo p tw f l c m bs e) : W5 C CP H' sp n fo p tw f l c m bs e :=
  ⟨S _ _ h.hs, h.c2, h.lz, h.pc.mono S, h.pa.mono S, let ⟨fo2, g⟩ := h.tw; ⟨fo2, g.mono S⟩⟩
theorem PcIn.pcs {C : Addr} {H : Hp} {f : Str} {a : Addr} {l : Str} {c : Int} {m : Option Str} {q : Addr} {bs : List Str} {e : Bool} (h : PcIn C H f a l c m q bs e) : PcS f l c m bs e := ⟨h.nf, h.ll, h.c1, h.nm, h.hz, h.nb⟩

section
variable {P : Program} {w : World} {K : PySem.W.Frag} {mg : Str → Option Value} {base : Heap} {T : List NTab} {cL PL C CP CI CL CX CA CK : Addr}
def spLaw (K : PySem.W.Frag) (T : List NTab) : Sp := fun vs H Q _ => ∃ (a : Addr) (ns : List Int), vs = [.ref a] ∧ SqL K H a (ns.map V.int) ∧ ns.length ≤ 63 ∧ TabsN T H ∧ ∀ H', Q (.bl true) H'
theorem ok_law {f : Addr} {fd : FuncData} (X0 : Txt K mg) (L : TxtL K mg) (NN : TxtN K mg) (TK : TxtK K mg) (TS : TxtS K mg) (I : TxtI K mg) (BW : TxtB K mg) (R : TxtR K mg) (Y : TxtC K mg) (R6 : TxtR6 K mg) (F5 : TxtF5 K mg) (M5 : TxtM5 K mg) (O5 : TxtO5 K mg) (T5 : TxtT5 K mg) (A5 : TxtA5 K mg) (U5 : TxtU5 K mg) (B5 : TxtB5b K mg) (YL : TxtY K mg cL)
    (FC : FormC K mg C) (PC : PieceC K mg CP) (PG : PieceG K mg CP) (PP : PieceP K CP) (PE' : PieceE K CP) (PN : PieceN K CP) (PM : PieceM K CP) (PT : PieceT K CP) (PS : PieceS K CP) (AC : AskC K mg CA) (L5 : Law5 K mg CP CK CA) (XI : ExcF K mg "InvalidForm" "value" CI) (XL : ExcF K mg "InvalidLook" "value" CL) (XP : ExcF K mg "InvalidPlace" "value" CX) (B : Tb1 base mg T cL PL) (F : Fun K "law" "law" s_law f fd) : FnOk P w K mg base CX0 11 f fd ["_law_script"] (spLaw K T) := by
  obtain ⟨fq, fdq, e1, e2, FQ, be⟩ := PE'.eq
  obtain ⟨ff, fdf, f1, f2, FF, bf⟩ := FC.eq
  refine F.ok sc_law (fun vs H Q E h => ?_) (fun cdv A outer s H vs Q E hr h => ?_)
  · obtain ⟨a, ns, rfl, _⟩ := h
    rfl
  · obtain ⟨a, ns, rfl, hs, h63, ht, k⟩ := h
    have hu := hr.units
    refine ⟨_, (pss_cons (ps_for PassesOwn.never rfl (pi_range1 rfl L.n_range (pa_cons pe_int pa_nil)) (pg_name (i := 1) sc_law.nd rfl (.inl rfl))
        (pss_cons (ps_set (i := 2) sc_law.nd rfl (.inl rfl) (pe_c (ok__law_purse X0 L) hr (by decide) rfl (pa_cons (pv 0) (pa_cons (pv 1) pa_nil))))
          (pss_cons (ps_set (i := 3) sc_law.nd rfl (.inl rfl) (pe_c (ok__law_world L NN BW) hr (by decide) rfl (pa_cons (pv 2) pa_nil)))
          (C8.pss_cut (ps_asg (pe_c (ok__law_piece X0 L NN TK YL B R6) hr (by decide) rfl (pa_cons (pv 2) (pa_cons (pv 3) (pa_cons (pv 3) pa_nil)))) (pg_tup (by rfl) (pgs_cons (pg_name (i := 4) sc_law.nd rfl (.inl rfl)) (pgs_cons (pg_name (i := 5) sc_law.nd rfl (.inl rfl)) (pgs_cons (pg_name (i := 6) sc_law.nd rfl (.inl rfl)) (pgs_cons (pg_name (i := 7) sc_law.nd rfl (.inl rfl)) (pgs_cons (pg_name (i := 8) sc_law.nd rfl (.inl rfl)) (pgs_cons (pg_name (i := 9) sc_law.nd rfl (.inl rfl)) pgs_nil))))))))
          (pss_cons (ps_par (i := 10) (j := 11) (by rfl) sc_law.nd rfl rfl (by decide) rfl rfl (pa_cons (pe_form2 X0 FC XI hr (by decide) (pe_ix ix_seq (pv 6) pe_int (fun _ _ => rfl)) (pe_ix ix_seq (pv 6) pe_int (fun _ _ => rfl))) (pa_cons (pe_callTy call_listOf (by rfl) TS.n_list (by decide +kernel) (pa_cons (pv 8) pa_nil)) pa_nil)) (by rfl))
          (pss_cons (ps_set (i := 12) sc_law.nd rfl (.inr rfl) (pe_piece X0 L NN TS FC TK R Y PC PG XL hr (by decide) (pv 5) (pv 10) (pv 7) (pv 11) (pv 9)))
          (pss_cons (ps_set (i := 13) sc_law.nd rfl (.inl rfl) (pe_piece X0 L NN TS FC TK R Y PC PG XL hr (by decide) (pv 5) (pe_form2 X0 FC XI hr (by decide) (pe_ix ix_seq (pv 6) pe_int (fun _ _ => rfl)) (pe_ix ix_seq (pv 6) pe_int (fun _ _ => rfl))) (pv 7) (pe_callTy call_listOf (by rfl) TS.n_list (by decide +kernel) (pa_cons (pv 8) pa_nil)) (pv 9)))
          (C8.pss_cut (ps_expr (pe_bm PySem.F.plainAttrs_list PySem.F.slot_list_append PySem.F.type_list_append mt_append (pv 11) (pa_cons pe_str pa_nil)))
          (pss_cons (ps_if (PW.pt (pw_or (pt_cmpR (op_neI (n := 1) (room66 hr)) (pe_c (ok__law_five (C := C) TS PC PP M5) hr (by decide) rfl (pa_cons (pv 12) pa_nil)) (pe_lst (pa_cons (pv 5) (pa_cons (pv 10) (pa_cons (pv 7) (pa_cons (pv 8) (pa_cons (pv 9) pa_nil)))))) (by rfl)) (pw_or1 (pt_not (pt_val (pe_callB call_isi (by rfl) X0.n_isinstance (by decide +kernel) (pa_cons (pe_ended PC PP hr (by decide) (pv 12)) (pa_cons (pe_bltn (v := .ty "bool") (by rfl) X0.n_bool (by decide +kernel) rfl) pa_nil)))))))) (pss_one (ps_ret pe_bl)) pss_nil)
          (pss_cons (ps_set (i := 14) sc_law.nd rfl (.inl rfl) (pe_namesP (C := C) TS PC PP hr (by decide) (pv 12)))
          (C8.pss_cut (ps_expr (pe_bm PySem.F.plainAttrs_list PySem.F.slot_list_append PySem.F.type_list_append mt_append (pv 14) (pa_cons pe_str pa_nil)))
          (pss_cons (ps_if (PW.pt (pw_or (pt_cmpR (op_neU hu) (pe_namesP (C := C) TS PC PP hr (by decide) (pv 12)) (pv 8) (by rfl)) (pw_or (pt_not (pt_val (pe_callB call_isi (by rfl) X0.n_isinstance (by decide +kernel) (pa_cons (pv 14) (pa_cons (pe_bltn (v := .ty "list") (by rfl) TS.n_list (by decide +kernel) rfl) pa_nil))))) (pw_or (pt_not (pt_val (pe_callB call_isi (by rfl) X0.n_isinstance (by decide +kernel) (pa_cons (pv 12) (pa_cons (pe_glob (v := .ref CK) (by rfl) L5.g rfl) pa_nil))))) (pw_or1 (pt_val (pe_callB call_isi (by rfl) X0.n_isinstance (by decide +kernel) (pa_cons (pv 12) (pa_cons (pe_glob (v := .ref CA) (by rfl) AC.g rfl) pa_nil))))))))) (pss_one (ps_ret pe_bl)) pss_nil)
          (pss_cons (ps_if (PW.pt (pw_or (pt_not (pt_cmpR (op_eqOwn (ok_piece_eq (C := C) X0 TS FC PC PP PG PE' FQ) (hr.mono (by decide)) e1 e2 be pass0) (pv 12) (pv 13) (by rfl))) (pw_or (pt_cmpR (op_eqOwn (ok_piece_eq (C := C) X0 TS FC PC PP PG PE' FQ) (hr.mono (by decide)) e1 e2 be pass0) (pv 12) (pe_tup (pa_cons pe_str (pa_cons (pv 5) (pa_cons (pv 6) (pa_cons (pv 7) (pa_cons (pv 8) (pa_cons (pv 9) pa_nil))))))) (by rfl)) (pw_or (pt_cmpR (op_eqOwn (ok_piece_eq (C := C) X0 TS FC PC PP PG PE' FQ) (hr.mono (by decide)) e1 e2 be pass0) (pv 12) (pe_ask X0 NN TS A5 AC hr (by decide) (pe_lst pa_nil)) (by rfl)) (pw_or1 (pt_cmpR (op_eqOwn (ok_piece_eq (C := C) X0 TS FC PC PP PG PE' FQ) (hr.mono (by decide)) e1 e2 be pass0) (pv 12) pe_int (by rfl))))))) (pss_one (ps_ret pe_bl)) pss_nil)
          (C8.pss_cut (ps_set (i := 15) sc_law.nd rfl (.inr rfl) (pe_lst (pa_cons (pv 5) (pa_cons (pv 10) (pa_cons (pv 7) (pa_cons (pv 8) (pa_cons (pv 9) pa_nil)))))))
          (C8.pss_cut (ps_if (pt_cmpR (op_neU hu) (pe_lc (own := [("_law_one", 16)]) (g := gName 16) (tt := tAnd (tTest (tOp (rEqOwn K CP (spPcEq K C CP) E0) (tVar 16) (tVar 12))) (tTest (tOp (rNeI K 1) (tCall (spFive C CP) [] E0 (tCons (tVar 16) tNil)) (tVar 15)))) (te := tVar 16) rfl sc_law.nd (pi_list (pe_c (ok__law_changed X0 L NN TS FC TK R Y PC PG XL XI U5) hr (by decide) rfl (pa_cons (pv 15) (pa_cons (pv 6) pa_nil)))) (blkOk_by (own := [("_law_one", 16)]) (N := ["_law_script", "_law_at", "_law_purse_here", "_law_places", "_law_word", "_law_folder", "_law_spec", "_law_mark", "_law_names_here", "_law_ended", "_law_form_here", "_law_handed", "_law_piece_here", "_law_twin", "_law_told", "_law_parts", "_law_one"]) (sc := defScope s_law) (by decide +kernel)) (fun _ _ _ _ _ => pg_name (i := 16) sc_law.nd rfl (Or.inl rfl)) (fun _ _ _ _ _ => by exact pts_one (PW.pt (pw_and (pt_cmpR (op_eqOwn (ok_piece_eq (C := C) X0 TS FC PC PP PG PE' FQ) (hr.mono (by decide)) e1 e2 be pass0) (pv 16) (pv 12) (by rfl)) (pw_and1 (pt_cmpR (op_neI (n := 1) (room66 hr)) (pe_c (ok__law_five (C := C) TS PC PP M5) hr (by decide) rfl (pa_cons (pv 16) pa_nil)) (pv 15) (by rfl)))))) (fun _ _ _ _ _ => (pv 16))) (pe_lst pa_nil) (by rfl)) (pss_one (ps_ret pe_bl)) pss_nil)
          (C8.pss_cut (ps_if (pt_cmpR (op_neU hu) (pe_lc (own := [("_law_one", 16)]) (g := gName 16) (tt := tAnd (tNot (tTest (tOp (rEqOwn K CP (spPcEq K C CP) E0) (tVar 16) (tVar 12)))) (tTest (tOp (rEq5 K C) (tCall (spFive C CP) [] E0 (tCons (tVar 16) tNil)) (tVar 15)))) (te := tVar 16) rfl sc_law.nd (pi_list (pe_c (ok__law_changed X0 L NN TS FC TK R Y PC PG XL XI U5) hr (by decide) rfl (pa_cons (pv 15) (pa_cons (pv 6) pa_nil)))) (blkOk_by (own := [("_law_one", 16)]) (N := ["_law_script", "_law_at", "_law_purse_here", "_law_places", "_law_word", "_law_folder", "_law_spec", "_law_mark", "_law_names_here", "_law_ended", "_law_form_here", "_law_handed", "_law_piece_here", "_law_twin", "_law_told", "_law_parts", "_law_one"]) (sc := defScope s_law) (by decide +kernel)) (fun _ _ _ _ _ => pg_name (i := 16) sc_law.nd rfl (Or.inl rfl)) (fun _ _ _ _ _ => by exact pts_one (PW.pt (pw_and (pt_not (pt_cmpR (op_eqOwn (ok_piece_eq (C := C) X0 TS FC PC PP PG PE' FQ) (hr.mono (by decide)) e1 e2 be pass0) (pv 16) (pv 12) (by rfl))) (pw_and1 (pt_cmpR (op_eq5 X0 FC FF (hr.mono (by decide)) f1 f2 bf) (pe_c (ok__law_five (C := C) TS PC PP M5) hr (by decide) rfl (pa_cons (pv 16) pa_nil)) (pv 15) (by rfl)))))) (fun _ _ _ _ _ => (pv 16))) (pe_lst pa_nil) (by rfl)) (pss_one (ps_ret pe_bl)) pss_nil)
          (C8.pss_cut (ps_if (pt_cmpR (op_neU hu) (pe_lc (own := [("_law_one", 16)]) (g := gName 16) (tt := tNot (tB (tCall (spRefused K C) [] E0 (tCons (tVar 16) tNil)))) (te := tVar 16) rfl sc_law.nd (pi_list (pe_c (ok__law_bad (C := C) X0 NN B5) hr (by decide) rfl (pa_cons (pv 15) (pa_cons (pv 6) pa_nil)))) (blkOk_by (own := [("_law_one", 16)]) (N := ["_law_script", "_law_at", "_law_purse_here", "_law_places", "_law_word", "_law_folder", "_law_spec", "_law_mark", "_law_names_here", "_law_ended", "_law_form_here", "_law_handed", "_law_piece_here", "_law_twin", "_law_told", "_law_parts", "_law_one"]) (sc := defScope s_law) (by decide +kernel)) (fun _ _ _ _ _ => pg_name (i := 16) sc_law.nd rfl (Or.inl rfl)) (fun _ _ _ _ _ => by exact pts_one (pt_not (pt_val (pe_c (ok__law_refused X0 L NN TS FC TK R Y PC PG XL F5) hr (by decide) rfl (pa_cons (pv 16) pa_nil))))) (fun _ _ _ _ _ => (pv 16))) (pe_lst pa_nil) (by rfl)) (pss_one (ps_ret pe_bl)) pss_nil)
          (pss_one (ps_if (PW.pt (pw_or (pt_not (pt_val (pe_c (ok__law_forms_apart X0 L NN TS FC TK R Y PC PG PP PE' PN XL XI O5) hr (by decide) rfl (pa_cons (pv 5) (pa_cons (pv 6) (pa_cons (pv 8) pa_nil)))))) (pw_or1 (pt_not (pt_val (pe_c (ok__law_long X0 L NN TS I FC TK R Y YL B PC PG PP PM PT PS XL XI XP T5) hr (by decide) rfl (pa_cons (pv 5) (pa_cons (pv 6) (pa_cons (pe_op op_addU pe_int (pe_op op_modU (pv 1) pe_int)) pa_nil))))))))) (pss_one (ps_ret pe_bl)) pss_nil)))))))))))))))))))
      (pss_one (ps_ret pe_bl))), ?_⟩
    k_extra "r_LL5"
    refine ⟨4, rfl, by decide, by decide, q_forR (lo := 0) (n := 4) (fun i σ H' => ∃ v1 v2 v3 v4 v5 v6 v7 v8 v9 v10 v11 v12 v13 v14 v15 : Option V, σ = [some (.ref a), v1, v2, v3, v4, v5, v6, v7, v8, v9, v10, v11, v12, v13, v14, v15, none] ∧ SqL K H' a (ns.map V.int) ∧ TabsN T H') ⟨_, _, _, _, _, _, _, _, _, _, _, _, _, _, _, rfl, hs, ht⟩ ?_ ?_⟩
    rotate_left
    · rintro σ H0 ⟨v1, v2, v3, v4, v5, v6, v7, v8, v9, v10, v11, v12, v13, v14, v15, rfl, hs0, ht0⟩
      k_extra "r_LL5"
      exact k H0
    rintro i σ H0 hi ⟨v1, v2, v3, v4, v5, v6, v7, v8, v9, v10, v11, v12, v13, v14, v15, rfl, hs0, ht0⟩
    k_extra "r_LL5"
    refine ⟨a, ns, 0 + (i : Int), rfl, hs0, by omega, by omega, fun pu H1 np S1 hp1 => ?_⟩
    k_extra "r_LL5"
    refine ⟨pu, rfl, hp1, fun lp H2 xs fs nns nlp hl pls nf nn f3 n6 hp2 b2 => ?_⟩
    have sc1 : Sc1 K H1 pu a (ns.map V.int) := Sc1.of hs0 np S1
    have t1 : TabsN T H1 := ht0.ext fun _ _ e => S1 _ _ e
    have st2 : St6 K T H2 a ns pu lp xs (worldOf fs nns) := ⟨sc1.but b2, tabs_butP t1 hp1 b2, hp2, hl, pls.all2⟩
    have wl : xs.length = (worldOf fs nns).length := pls.len
    have wz : xs.length ≤ 18 := by
      rw [wl, worldOf_len]
      exact Nat.le_trans (Nat.mul_le_mul f3 n6) (by decide)
    have wne : xs ≠ [] := fun z => by
      have : 0 < (worldOf fs nns).length := by
        rw [worldOf_len]
        exact Nat.mul_pos (List.length_pos_iff.mpr nf.2.2) (List.length_pos_iff.mpr nn.2.2)
      rw [← wl, z] at this
      cases this
    have wd := worldOf_nodup nf.2.1 nn.2.1
    have wn : ∀ q ∈ worldOf fs nns, Nm q.1 ∧ Nm q.2 := fun q hq => ⟨nf.1 _ (worldOf_mem hq).1, nn.1 _ (worldOf_mem hq).2⟩
    obtain ⟨ps, eps⟩ : ∃ ps, ps = worldOf fs nns := ⟨_, rfl⟩
    rw [← eps] at st2 wl wd wn
    clear pls hl hp2 b2 sc1 t1 eps nf nn f3 n6
    k_extra "r_LL5"
    refine ⟨fun σ H' => ∃ sp n f l c m bs e, σ = [some (.ref a), some (.int (0 + (i : Int))), some (.ref pu), some (.ref lp), some (.str (Str.ofString "list")), some (.str f), some (.ref sp), some (mkV m), some (.ref n), some (.bl e), v10, v11, v12, v13, v14, v15, none] ∧ SqL K H' a (ns.map V.int) ∧ TabsN T H' ∧
      H' sp = some (.tup [.str l, .int c]) ∧ H' n = some (.lst (bs.map V.str)) ∧ PcS f l c m bs e ∧ c ≤ 1000 ∧ riseB l c (rowOf m bs) = true ∧ (bs = [] → e = true) ∧ bs.length ≤ 18, ?_, ?_⟩
    · k_extra "r_LL5"
      have lpu : lp ≠ pu := st2.pp.ne_pls st2.pl st2.al
      refine ⟨pu, lp, lp, xs, ps, xs, ps, rfl, st2.pp, st2.pl, st2.al, wne, wz, wn, st2.pl, lpu, st2.al, wl ▸ wz, wd, fun q hq => (wn q hq).2, st2.tb, fun t H4 f l c m bs e B4 p4 t4 lk pcs c2 ri hne lbs => ?_⟩
      have st4 := st2.buN B4 p4 t4
      obtain ⟨sp, n, g1, g2, g3⟩ := lk
      refine q_gtup (SqT.of g1) rfl ?_
      k_extra "r_LL5"
      exact ⟨_, _, _, l, c, _, bs, _, rfl, st4.sc.sq, st4.tb, g2, g3, pcs, c2, ri, hne, lbs⟩
    clear st2 wl wz wne wd wn hs0 ht0
    rintro σ H0 ⟨sp, n, f, l, c, m, bs, e, rfl, hs0, ht0, g2, g3, pcs, c2, ri, hne, lbs⟩
    k_extra "r_LL5"
    refine q_ixT (SqT.of g2) (at_of (j := 0) rfl rfl) ?_
    k_extra "r_LL5"
    refine q_ixT (SqT.of g2) (at_of (j := 1) rfl rfl) ?_
    k_extra "r_LL5"
    refine q_form pcs.ll pcs.c1 c2 fun fo H1 n1 S1 f1 => ?_
    k_extra "r_LL5"
    refine q_listL (SqL.of (S1 _ _ g3)) fun hd H2 n2 S2 h2 => ?_
    k_extra "r_LL5"
    refine ⟨_, _, rfl, ?_⟩
    k_extra "r_LL5"
    refine q_pieceD (⟨pcs.nf, f1.mono S2, pcs.ll, pcs.c1, pcs.nm, h2, pcs.hz, pcs.nb, ri, hne⟩ : PcIn C H2 f fo l c m hd bs e) fun p H3 n3 S3 pa pD => ?_
    k_extra "r_LL5"
    refine q_ixT (SqT.of (S3 _ _ (S2 _ _ (S1 _ _ g2)))) (at_of (j := 0) rfl rfl) ?_
    k_extra "r_LL5"
    refine q_ixT (SqT.of (S3 _ _ (S2 _ _ (S1 _ _ g2)))) (at_of (j := 1) rfl rfl) ?_
    k_extra "r_LL5"
    refine q_form pcs.ll pcs.c1 c2 fun fo2 H4 n4 S4 f4 => ?_
    k_extra "r_LL5"
    refine q_listL (SqL.of (S4 _ _ (S3 _ _ (S2 _ _ (S1 _ _ g3))))) fun h5 H5 n5 S5 hh5 => ?_
    k_extra "r_LL5"
    refine q_pieceD (⟨pcs.nf, f4.mono S5, pcs.ll, pcs.c1, pcs.nm, hh5, pcs.hz, pcs.nb, ri, hne⟩ : PcIn C H5 f fo2 l c m h5 bs e) fun tw H6 n6 S6 pa2 pD2 => ?_
    have S36 := S4.trans (S5.trans S6)
    have S16 := S2.trans (S3.trans S36)
    have hd6 := (S3.trans S36) _ _ h2
    have er6 : Same H1 (er hd H6) := er_new n2 S16
    have w6 : W5 C CP (er hd H6) sp n fo p tw f l c m bs e := ⟨er6 _ _ (S1 _ _ g2), c2, lbs, ⟨pcs.nf, f1.mono er6, pcs.ll, pcs.c1, pcs.nm, er6 _ _ (S1 _ _ g3), pcs.hz, pcs.nb, ri, hne⟩, (pD hd _ h2).mono (er_mono S36), fo2, pD2 hd _ (S5 _ _ (S4 _ _ (S3 _ _ h2)))⟩
    have sc6 : Sc1 K H6 hd a (ns.map V.int) := Sc1.of (SqL_monoN (ext_same S1) hs0) n2 S16
    have t6 : TabsN T H6 := ht0.ext fun _ _ e => S16 _ _ (S1 _ _ e)
    clear n1 S1 f1 n2 S2 h2 n3 S3 pa pD n4 S4 f4 n5 S5 hh5 n6 S6 pa2 pD2 S36 S16 er6 hs0 ht0 g2 g3
    k_extra "r_LL5"
    refine ⟨fun σ H' => σ = [some (.ref a), some (.int (0 + (i : Int))), some (.ref pu), some (.ref lp), some (.str (Str.ofString "list")), some (.str f), some (.ref sp), some (mkV m), some (.ref n), some (.bl e), some (.ref fo), some (.ref hd), some (.ref p), some (.ref tw), v14, v15, none] ∧ SqL K H' a (ns.map V.int) ∧ TabsN T H' ∧ W5 C CP H' sp n fo p tw f l c m bs e, ?_, ?_⟩
    · k_extra "r_LL5"
      refine ⟨.inl ⟨rfl, _, SqL.of hd6⟩, ?_⟩
      k_extra "r_LL5"
      refine q_append hd6 (by rw [List.length_map]; exact szlt (by omega)) fun H7 b7 h7 => ?_
      k_extra "r_LL5"
      exact ⟨rfl, (sc6.but b7).sq, Bt.TabsN.but t6 hd6 b7, (w6.mono (er_but b7)).mono er_sub⟩
    clear hd6 w6 sc6 t6
    rintro σ H7 ⟨rfl, sc, tb, w5⟩
    have pc := w5.pc
    k_extra "r_LL5"
    refine ⟨p, f, fo, l, c, m, bs, e, rfl, w5.pa, fun D N H8 S8 nN nD hD hN => ?_⟩
    k_extra "r_LL5"
    refine q_newL (by show 5 ≤ sizeLine; decide) fun L8 H9 nL S9 hL => ?_
    refine ⟨D, L8, _, _, _, rfl, rfl, .inl ⟨SqL.of (S9 _ _ hD), SqL.of hL⟩, five_eqs pc.nf pc.nf pc.nm pc.nm (S9 _ _ hN) (S9 _ _ (S8 _ _ pc.hq)) pc.nb pc.nb, ?_⟩
    refine q_test (s_if0 (by simp) ?_)
    have S79 := S8.trans S9
    replace w5 := w5.mono S79
    replace sc := SqL_monoN (ext_same S79) sc
    replace tb := tb.ext fun _ _ e => S79 _ _ e
    clear S8 nN nD hD hN nL S9 hL S79 pc
    k_extra "r_LL5"
    refine q_ended w5.pa.at ?_
    k_extra "r_LL5"
    refine q_isi Pl.bl .bl ?_
    refine q_test (s_if0 (by simp [subKd]) ?_)
    k_extra "r_LL5"
    refine q_namesP w5.pa.at fun td H10 n10 S10 h10 => ?_
    have sc10 : Sc1 K H10 td a (ns.map V.int) := Sc1.of sc n10 S10
    have w10 := w5.mono (er_new n10 S10)
    have t10 := tb.ext fun _ _ e => S10 _ _ e
    k_extra "r_LL5"
    refine ⟨fun σ H' => σ = [some (.ref a), some (.int (0 + (i : Int))), some (.ref pu), some (.ref lp), some (.str (Str.ofString "list")), some (.str f), some (.ref sp), some (mkV m), some (.ref n), some (.bl e), some (.ref fo), some (.ref hd), some (.ref p), some (.ref tw), some (.ref td), v15, none] ∧ SqL K H' a (ns.map V.int) ∧ TabsN T H' ∧ W5 C CP H' sp n fo p tw f l c m bs e ∧ ∃ zs, H' td = some (.lst zs), ?_, ?_⟩
    · k_extra "r_LL5"
      refine ⟨.inl ⟨rfl, _, SqL.of h10⟩, ?_⟩
      k_extra "r_LL5"
      refine q_append h10 (by rw [List.length_map]; exact szlt (by omega)) fun H11 b11 h11 => ?_
      k_extra "r_LL5"
      exact ⟨rfl, (sc10.but b11).sq, Bt.TabsN.but t10 h10 b11, (w10.mono (er_but b11)).mono er_sub, _, h11⟩
    clear sc10 w10 t10 h10 S10 n10 sc tb w5
    rintro σ H11 ⟨rfl, sc, tb, w5, zs, htd⟩
    have pc := w5.pc
    k_extra "r_LL5"
    refine q_namesP w5.pa.at fun N12 H12 n12 S12 h12 => ?_
    k_extra "r_LL5"
    refine q_neD (dp_lst_strs h12) (dp_lst_strs (S12 _ _ pc.hq)) (shaped_strs fun y hy => (pc.nb y hy).asc) (shaped_strs fun y hy => (pc.nb y hy).asc) ?_
    rw [eqv_strs]
    refine q_test (s_if0 (by simp) ?_)
    k_extra "r_LL5"
    refine q_isi (Pl.lst (S12 _ _ htd)) .lst ?_
    refine q_test (s_if0 (by simp [subKd]) ?_)
    have w12 := w5.mono S12
    k_extra "r_LL5"
    refine ⟨.ref p, .ref CK, .ref CP, .ref CK, true, rfl, .own CK, w12.pa.at.ty PC PE', L5.kLook, ?_⟩
    k_extra "r_LL5"
    refine s_if0 rfl ?_
    k_extra "r_LL5"
    refine ⟨.ref p, .ref CA, .ref CP, .ref CA, false, rfl, .own CA, w12.pa.at.ty PC PE', L5.kAsk, ?_⟩
    obtain ⟨fo2, tw12⟩ := w12.tw
    k_extra "r_LL5"
    refine q_pcEq PC PE' PN w12.pa.at pc.pcs tw12.at pc.pcs fun H13 S13 => ?_
    rw [decide_eq_true (show five f l c m bs e f l c m bs e from ⟨rfl, ⟨rfl, rfl⟩, rfl, rfl, rfl⟩)]
    refine q_test (s_if0 rfl ?_)
    have w13 := w12.mono S13
    k_extra "r_LL5"
    refine q_newT (by show 6 ≤ sizeLine; decide) fun t14 H14 n14 S14 h14 => ?_
    have w14 := w13.mono S14
    have oth : ∀ {H' : Hp} {y : V} {t : Value} {Q : VK}, W5 C CP H' sp n fo p tw f l c m bs e → TyX K H' y t → PySem.W.notFirst K CP t = true → PySem.W.kitOne K t (.ref CP) = some false → (∀ H2, Same H' H2 → Q (.bl false) H2) → rEqOwn K CP (spPcEq K C CP) E0 (.ref p) y H' Q := fun w' ty nf kn q => by
      obtain ⟨dx, n', lo, hi, g, _⟩ := id w'.pa
      exact ⟨p, dx, _, _, rfl, g, ty, nf, p, _, f, l, c, m, bs, e, rfl, w'.pa.at, pc.pcs, .inr ⟨_, ty, kn, fun H2 S2 => ⟨_, rfl, q H2 S2⟩⟩⟩
    refine oth w14 (Pl.tup h14).1 L5.nfT L5.kTup fun H15 S15 => ?_
    refine q_test (s_if0 rfl ?_)
    have w15 := w14.mono S15
    k_extra "r_LL5"
    refine q_newL (by show 0 ≤ sizeLine; decide) fun l16 H16 n16 S16 h16 => ?_
    k_extra "r_LL5"
    refine q_ask h16 fun x17 H17 dx17 d17 n17 S17 h17 => ?_
    have w17 := (w15.mono S16).mono S17
    refine oth w17 (.base (.ins h17 AC.cl AC.i1 AC.i2 AC.i3 AC.i4)) L5.nfA L5.kPA fun H18 S18 => ?_
    refine q_test (s_if0 rfl ?_)
    have w18 := w17.mono S18
    k_extra "r_LL5"
    refine oth w18 Pl.int.1 L5.nfI L5.kInt fun H19 S19 => ?_
    refine q_test (s_if0 rfl ?_)
    have w19 := w18.mono S19
    have SA : Same H11 H19 := S12.trans (S13.trans (S14.trans (S15.trans (S16.trans (S17.trans (S18.trans S19))))))
    have sc19 := SqL_monoN (ext_same SA) sc
    have t19 : TabsN T H19 := tb.ext fun _ _ e => SA _ _ e
    clear w12 w13 w14 w15 w17 w18 S12 S13 S14 S15 S16 S17 S18 S19 h12 h14 h16 h17 n12 n14 n16 n17 htd w5 sc tb tw12 SA
    k_extra "r_LL5"
    refine ⟨fun σ H' => ∃ pt, σ = [some (.ref a), some (.int (0 + (i : Int))), some (.ref pu), some (.ref lp), some (.str (Str.ofString "list")), some (.str f), some (.ref sp), some (mkV m), some (.ref n), some (.bl e), some (.ref fo), some (.ref hd), some (.ref p), some (.ref tw), some (.ref td), some (.ref pt), none] ∧ SqL K H' a (ns.map V.int) ∧ TabsN T H' ∧ W5 C CP H' sp n fo p tw f l c m bs e ∧ Par C H' pt sp f fo l c m n bs e, ?_, ?_⟩
    · k_extra "r_LL5"
      refine q_newL (by show 5 ≤ sizeLine; decide) fun pt H20 n20 S20 h20 => ?_
      have w20 := w19.mono S20
      k_extra "r_LL5"
      exact ⟨pt, rfl, SqL_monoN (ext_same S20) sc19, t19.ext fun _ _ e => S20 _ _ e, w20, h20, w20.hs, w20.c2, w20.lz, w20.pc⟩
    clear w19 sc19 t19 pc oth
    rintro σ H20 ⟨pt, rfl, sc, tb, w5, pr⟩
    refine ⟨fun σ H' => σ = [some (.ref a), some (.int (0 + (i : Int))), some (.ref pu), some (.ref lp), some (.str (Str.ofString "list")), some (.str f), some (.ref sp), some (mkV m), some (.ref n), some (.bl e), some (.ref fo), some (.ref hd), some (.ref p), some (.ref tw), some (.ref td), some (.ref pt), none] ∧ Same H20 H', ?_, ?_⟩
    · k_extra "r_LL5"
      refine s_lc ?_
      k_extra "r_LL5"
      refine ⟨pt, sp, f, fo, l, c, m, n, bs, e, rfl, pr, fun L H1 xs S1 nL hL lx al => ?_⟩
      have hL' := hL
      refine ⟨L, rfl, ⟨_, SqL.of hL⟩, fun D nD => lc_list (K := K) (a := L) (xs := xs) (fun i H' => Same H1 H' ∧ H' D = some (.lst [])) ⟨Same.new nD, upd_same⟩ (fun i H' _ h => SqL.of (h.1 _ _ hL)) ?_ ?_⟩
      · rintro j y H' hj ⟨S', hD⟩
        obtain ⟨p', f', a', l', c', m', bs', e', rfl, pa', ps', alt⟩ := (al y (List.mem_of_getElem? hj)).mono (er_sub.trans S')
        have w' := w5.mono (S1.trans S')
        have pr' := pr.mono (S1.trans S')
        have pc := w'.pc
        k_extra "r_LL5"
        refine ⟨rfl, ?_⟩
        k_extra "r_LL5"
        refine q_pcEq PC PE' PN pa'.at ps' w'.pa.at pc.pcs fun H2 S2 => ?_
        by_cases h5 : five f' l' c' m' bs' e' f l c m bs e
        · rw [decide_eq_true h5]
          refine q_test (s_if1 rfl ?_)
          k_extra "r_LL5"
          refine ⟨p', f', a', l', c', m', bs', e', rfl, pa'.mono S2, fun D3 N3 H3 S3 nN nD3 hD3 hN3 => ?_⟩
          k_extra "r_LL5"
          have ea : a' = fo := alt.elim (fun z => z.1) fun z => absurd h5.2.1 z.2.2
          subst ea
          have pr3 := (pr'.mono S2).mono S3
          refine ⟨D3, pt, _, _, _, rfl, rfl, .inl ⟨SqL.of hD3, SqL.of pr3.hp⟩, five_eqs ps'.nf pc.nf ps'.nm pc.nm hN3 pr3.pc.hq ps'.nb pc.nb, ?_⟩
          obtain ⟨z1, _, z3, z4, z5⟩ := h5
          refine q_test (s_if0 (by simp [z1, z3, z4, z5]) ⟨S'.trans (S2.trans S3), S3 _ _ (S2 _ _ hD)⟩)
        · rw [decide_eq_false h5]
          exact q_test (s_if0 rfl (s_if0 rfl ⟨S'.trans S2, S2 _ _ hD⟩))
      · rintro H2 ⟨S2, h2⟩
        k_extra "r_LL5"
        refine q_newL (by show 0 ≤ sizeLine; decide) fun l3 H3 n3 S3 h3 => ?_
        refine nil_ne S3 h2 h3 (q_test (s_if0 rfl ?_))
        k_extra "r_LL5"
        exact ⟨rfl, S1.trans (S2.trans S3)⟩
    rintro σ H21 ⟨rfl, S21⟩
    replace sc := SqL_monoN (ext_same S21) sc
    replace tb : TabsN T H21 := tb.ext fun _ _ e => S21 _ _ e
    replace w5 := w5.mono S21
    replace pr := pr.mono S21
    clear S21 H20
    refine ⟨fun σ H' => σ = [some (.ref a), some (.int (0 + (i : Int))), some (.ref pu), some (.ref lp), some (.str (Str.ofString "list")), some (.str f), some (.ref sp), some (mkV m), some (.ref n), some (.bl e), some (.ref fo), some (.ref hd), some (.ref p), some (.ref tw), some (.ref td), some (.ref pt), none] ∧ Same H21 H', ?_, ?_⟩
    · k_extra "r_LL5"
      refine s_lc ?_
      k_extra "r_LL5"
      refine ⟨pt, sp, f, fo, l, c, m, n, bs, e, rfl, pr, fun L H1 xs S1 nL hL lx al => ?_⟩
      refine ⟨L, rfl, ⟨_, SqL.of hL⟩, fun D nD => lc_list (K := K) (a := L) (xs := xs) (fun i H' => Same H1 H' ∧ H' D = some (.lst [])) ⟨Same.new nD, upd_same⟩ (fun i H' _ h => SqL.of (h.1 _ _ hL)) ?_ ?_⟩
      · rintro j y H' hj ⟨S', hD⟩
        obtain ⟨p', f', a', l', c', m', bs', e', rfl, pa', ps', alt⟩ := (al y (List.mem_of_getElem? hj)).mono (er_sub.trans S')
        have w' := w5.mono (S1.trans S')
        have pr' := pr.mono (S1.trans S')
        have pc := w'.pc
        k_extra "r_LL5"
        refine ⟨rfl, ?_⟩
        k_extra "r_LL5"
        refine q_pcEq PC PE' PN pa'.at ps' w'.pa.at pc.pcs fun H2 S2 => ?_
        by_cases h5 : five f' l' c' m' bs' e' f l c m bs e
        · rw [decide_eq_true h5]
          exact q_test (s_if0 rfl (s_if0 rfl ⟨S'.trans S2, S2 _ _ hD⟩))
        · rw [decide_eq_false h5]
          refine q_test (s_if1 rfl ?_)
          k_extra "r_LL5"
          refine ⟨p', f', a', l', c', m', bs', e', rfl, pa'.mono S2, fun D3 N3 H3 S3 nN nD3 hD3 hN3 => ?_⟩
          k_extra "r_LL5"
          have pr3 := (pr'.mono S2).mono S3
          have pa3 := (pa'.mono S2).mono S3
          have fin : Same H1 H3 ∧ H3 D = some (.lst []) := ⟨S'.trans (S2.trans S3), S3 _ _ (S2 _ _ hD)⟩
          rcases alt with ⟨rfl, rfl, rfl⟩ | ⟨rfl, ne, nlc⟩
          · refine .inl ⟨D3, pt, _, _, _, rfl, rfl, .inl ⟨SqL.of hD3, SqL.of pr3.hp⟩, five_eqs ps'.nf pc.nf ps'.nm pc.nm hN3 pr3.pc.hq ps'.nb pc.nb, ?_⟩
            have z : ([decide (f' = f), true, decide (m' = m), decide (bs' = bs), decide (e' = e)].all id) = false := by
              rw [Bool.eq_false_iff]
              intro t
              simp only [List.all_cons, List.all_nil, id, Bool.and_true, Bool.true_and, Bool.and_eq_true, decide_eq_true_eq] at t
              exact h5 ⟨t.1, ⟨rfl, rfl⟩, t.2.1, t.2.2.1, t.2.2.2⟩
            rw [z]
            exact q_test (s_if0 rfl fin)
          · obtain ⟨dxa, ea⟩ : FormAt C H3 a' l' c' := let ⟨_, _, _, _, _, g, _⟩ := pa3; g
            have ev := ev_str (K := K) (H := H3) (k := 0) pc.nf pc.nf
            rw [decide_eq_true rfl] at ev
            refine .inr ⟨D3, pt, _, _, a', fo, _, _, rfl, rfl, hD3, pr3.hp, rfl, ev, ne, ⟨dxa, _, .ref C, ea, pr3.pc.fa.ty FC, FC.nfS⟩, a', .ref fo, l', c', rfl, ⟨dxa, ea⟩, .inl ⟨fo, l, c, rfl, pr3.pc.fa, ?_⟩⟩
            rw [decide_eq_false nlc]
            exact ⟨rfl, rfl, rfl, q_test (s_if0 rfl fin)⟩
      · rintro H2 ⟨S2, h2⟩
        k_extra "r_LL5"
        refine q_newL (by show 0 ≤ sizeLine; decide) fun l3 H3 n3 S3 h3 => ?_
        refine nil_ne S3 h2 h3 (q_test (s_if0 rfl ?_))
        k_extra "r_LL5"
        exact ⟨rfl, S1.trans (S2.trans S3)⟩
    rintro σ H20 ⟨rfl, S21⟩
    replace sc := SqL_monoN (ext_same S21) sc
    replace tb : TabsN T H20 := tb.ext fun _ _ e => S21 _ _ e
    replace w5 := w5.mono S21
    replace pr := pr.mono S21
    clear S21 H21
    refine ⟨fun σ H' => σ = [some (.ref a), some (.int (0 + (i : Int))), some (.ref pu), some (.ref lp), some (.str (Str.ofString "list")), some (.str f), some (.ref sp), some (mkV m), some (.ref n), some (.bl e), some (.ref fo), some (.ref hd), some (.ref p), some (.ref tw), some (.ref td), some (.ref pt), none] ∧ Same H20 H', ?_, ?_⟩
    · k_extra "r_LL5"
      refine s_lc ?_
      k_extra "r_LL5"
      refine ⟨pt, sp, f, fo, l, c, m, n, bs, e, rfl, pr, fun L H1 S1 bads => ?_⟩
      obtain ⟨xs, hL, lx, al⟩ := bads
      refine ⟨L, rfl, ⟨_, SqL.of hL⟩, fun D nD => lc_list (K := K) (a := L) (xs := xs) (fun i H' => Same H1 H' ∧ H' D = some (.lst [])) ⟨Same.new nD, upd_same⟩ (fun i H' _ h => SqL.of (h.1 _ _ hL)) ?_ ?_⟩
      · rintro j y H' hj ⟨S', hD⟩
        obtain ⟨t, xf, xa, xm, xn, xe, Tn, Te, rfl, ht, bp⟩ := (al y (List.mem_of_getElem? hj)).mono S'
        k_extra "r_LL5"
        refine ⟨rfl, ?_⟩
        k_extra "r_LL5"
        refine ⟨t, xf, xa, xm, xn, xe, Tn, Te, rfl, ht, bp, fun H2 S2 => ?_⟩
        k_extra "r_LL5"
        exact s_if0 rfl ⟨S'.trans S2, S2 _ _ hD⟩
      · rintro H2 ⟨S2, h2⟩
        k_extra "r_LL5"
        refine q_newL (by show 0 ≤ sizeLine; decide) fun l3 H3 n3 S3 h3 => ?_
        refine nil_ne S3 h2 h3 (q_test (s_if0 rfl ?_))
        k_extra "r_LL5"
        exact ⟨rfl, S1.trans (S2.trans S3)⟩
    rintro σ H21 ⟨rfl, S21⟩
    replace sc := SqL_monoN (ext_same S21) sc
    replace tb : TabsN T H21 := tb.ext fun _ _ e => S21 _ _ e
    replace w5 := w5.mono S21
    clear S21 pr H20
    have pc := w5.pc
    k_extra "r_LL5"
    refine ⟨f, sp, n, l, c, bs, rfl, pc.nf, w5.hs, pc.ll, pc.c1, w5.c2, pc.hq, pc.hz, pc.nb, fun H2 S2 => ?_⟩
    k_extra "r_LL5"
    refine s_if0 rfl ?_
    k_extra "r_LL5"
    refine ⟨f, sp, _, l, c, rfl, pc.nf, S2 _ _ w5.hs, pc.ll, pc.c1, w5.c2, (by omega), tb.ext fun _ _ e => S2 _ _ e, fun H3 X3 t3 => ?_⟩
    k_extra "r_LL5"
    refine s_if0 rfl ?_
    k_extra "r_LL5"
    exact ⟨_, _, _, _, _, _, _, _, _, _, _, _, _, _, _, rfl, SqL_monoN X3 (SqL_monoN (ext_same S2) sc), t3⟩

end
end Bt
namespace Bt
open PySem PySem.Spec PyProof.Rows L2
/-! ### what the top has written, and the law's own head -/
theorem kit_sub {K : PySem.W.Frag} {C D : Addr} {v : Bool} (ne : C ≠ D) (h2 : PySem.W.isClsIn K D = true) (h3 : PySem.W.typeIn K (.ref D) = some (.type "type")) (hs : PySem.W.subIn K (.ref C) (.ref D) = some v) : PySem.W.kitOne K (.ref C) (.ref D) = some v := by
  have e2 : ((PySem.W.clsIn K D).isSome && PySem.W.typeIn K (.ref D) == some (.type "type")) = true := by
    have h2' : (PySem.W.clsIn K D).isSome = true := h2
    rw [h2', h3] <;> rfl
  show (if ((Value.ref C) == (Value.ref D)) = true then some true else (if ((PySem.W.clsIn K D).isSome && PySem.W.typeIn K (.ref D) == some (.type "type")) = true then PySem.W.subIn K (.ref C) (.ref D) else none)) = some v
  rw [if_neg (fun z => ne (Value.ref.inj (eq_of_beq z))), if_pos e2]
  exact hs
theorem nf_sub {K : PySem.W.Frag} {C D : Addr} (hs : PySem.W.subIn K (.ref D) (.ref C) = some false) : PySem.W.notFirst K C (.ref D) = true := by
  unfold PySem.W.notFirst
  rw [hs]
  exact Bool.or_true _
theorem all_mk {l : PySem.W.OpenLaw} {w : World} {K : PySem.W.Frag} {h : Heap} {mg : Str → Option Value} {fa f_is_whole f_is_name f_is_place f_is_name_list f_check_place f_key_in f__are_letters f__are_chains f__rise f__is_piece f__are_answers f__law_purse f__law_draw f__law_form f__law_name f__law_names f__law_key f__law_world f__law_piece f__law_refused f__law_forms_apart f__law_long f__law_five f__law_bad_folders f__law_bad f__law_changed f_law C_InvalidForm f_x_InvalidForm T_x_InvalidForm N_InvalidForm C_InvalidLook f_x_InvalidLook T_x_InvalidLook N_InvalidLook C_InvalidPlace f_x_InvalidPlace T_x_InvalidPlace N_InvalidPlace CF f_Fi T_Fi p_FL f_FL p_FC f_FC f_FE f_L c_Lo P_L CPc f_Pi f_Ps f_Pt f_Pc f_Pq p_Rfolder f_Rfolder p_Rform f_Rform p_Rmark f_Rmark p_Rnames f_Rnames p_Rended f_Rended CAk f_Ai CLk : Addr} {od_is_whole an_is_whole od_is_name an_is_name od_is_place an_is_place od_is_name_list an_is_name_list od_check_place an_check_place od_key_in an_key_in od__are_letters an__are_letters od__are_chains an__are_chains od__rise an__rise od__is_piece an__is_piece od__are_answers an__are_answers od__law_purse an__law_purse od__law_draw an__law_draw od__law_form an__law_form od__law_name an__law_name od__law_names an__law_names od__law_key an__law_key od__law_world an__law_world od__law_piece an__law_piece od__law_refused an__law_refused od__law_forms_apart an__law_forms_apart od__law_long an__law_long od__law_five an__law_five od__law_bad_folders an__law_bad_folders od__law_bad an__law_bad od__law_changed an__law_changed od_law an_law od_x_InvalidForm an_x_InvalidForm od_x_InvalidLook an_x_InvalidLook od_x_InvalidPlace an_x_InvalidPlace odTF od_Fi an_Fi od_FL an_FL od_FC an_FC od_FE an_FE od_L an_L odc_L od_Pi an_Pi od_Ps an_Ps od_Pt an_Pt od_Pc an_Pc od_Pq an_Pq od_Rfolder an_Rfolder od_Rform an_Rform od_Rmark an_Rmark od_Rnames an_Rnames od_Rended an_Rended od_Ai an_Ai : Option Addr} {sl_is_whole sl_is_name sl_is_place sl_is_name_list sl_check_place sl_key_in sl__are_letters sl__are_chains sl__rise sl__is_piece sl__are_answers sl__law_purse sl__law_draw sl__law_form sl__law_name sl__law_names sl__law_key sl__law_world sl__law_piece sl__law_refused sl__law_forms_apart sl__law_long sl__law_five sl__law_bad_folders sl__law_bad sl__law_changed sl_law sl_x_InvalidForm sl_x_InvalidLook sl_x_InvalidPlace slTF sl_Fi sl_FL sl_FC sl_FE sl_L slc_L sl_Pi sl_Ps sl_Pt sl_Pc sl_Pq sl_Rfolder sl_Rform sl_Rmark sl_Rnames sl_Rended sl_Ai : Array (Option Value)} {oc_is_whole kV_is_whole dc_is_whole pm_is_whole cd_is_whole ct_is_whole oc_is_name kV_is_name dc_is_name pm_is_name cd_is_name ct_is_name oc_is_place kV_is_place dc_is_place pm_is_place cd_is_place ct_is_place oc_is_name_list kV_is_name_list dc_is_name_list pm_is_name_list cd_is_name_list ct_is_name_list oc_check_place kV_check_place dc_check_place pm_check_place cd_check_place ct_check_place oc_key_in kV_key_in dc_key_in pm_key_in cd_key_in ct_key_in oc__are_letters kV__are_letters dc__are_letters pm__are_letters cd__are_letters ct__are_letters oc__are_chains kV__are_chains dc__are_chains pm__are_chains cd__are_chains ct__are_chains oc__rise kV__rise dc__rise pm__rise cd__rise ct__rise oc__is_piece kV__is_piece dc__is_piece pm__is_piece cd__is_piece ct__is_piece oc__are_answers kV__are_answers dc__are_answers pm__are_answers cd__are_answers ct__are_answers oc__law_purse kV__law_purse dc__law_purse pm__law_purse cd__law_purse ct__law_purse oc__law_draw kV__law_draw dc__law_draw pm__law_draw cd__law_draw ct__law_draw oc__law_form kV__law_form dc__law_form pm__law_form cd__law_form ct__law_form oc__law_name kV__law_name dc__law_name pm__law_name cd__law_name ct__law_name oc__law_names kV__law_names dc__law_names pm__law_names cd__law_names ct__law_names oc__law_key kV__law_key dc__law_key pm__law_key cd__law_key ct__law_key oc__law_world kV__law_world dc__law_world pm__law_world cd__law_world ct__law_world oc__law_piece kV__law_piece dc__law_piece pm__law_piece cd__law_piece ct__law_piece oc__law_refused kV__law_refused dc__law_refused pm__law_refused cd__law_refused ct__law_refused oc__law_forms_apart kV__law_forms_apart dc__law_forms_apart pm__law_forms_apart cd__law_forms_apart ct__law_forms_apart oc__law_long kV__law_long dc__law_long pm__law_long cd__law_long ct__law_long oc__law_five kV__law_five dc__law_five pm__law_five cd__law_five ct__law_five oc__law_bad_folders kV__law_bad_folders dc__law_bad_folders pm__law_bad_folders cd__law_bad_folders ct__law_bad_folders oc__law_bad kV__law_bad dc__law_bad pm__law_bad cd__law_bad ct__law_bad oc__law_changed kV__law_changed dc__law_changed pm__law_changed cd__law_changed ct__law_changed oc_law kV_law dc_law pm_law cd_law ct_law oc_x_InvalidForm kV_x_InvalidForm dc_x_InvalidForm pm_x_InvalidForm cd_x_InvalidForm ct_x_InvalidForm oc_x_InvalidLook kV_x_InvalidLook dc_x_InvalidLook pm_x_InvalidLook cd_x_InvalidLook ct_x_InvalidLook oc_x_InvalidPlace kV_x_InvalidPlace dc_x_InvalidPlace pm_x_InvalidPlace cd_x_InvalidPlace ct_x_InvalidPlace ocTF oc_Fi kV_Fi dc_Fi pm_Fi cd_Fi ct_Fi oc_FL kV_FL dc_FL pm_FL cd_FL ct_FL oc_FC kV_FC dc_FC pm_FC cd_FC ct_FC oc_FE kV_FE dc_FE pm_FE cd_FE ct_FE oc_L kV_L dc_L pm_L ct_L oc_Pi kV_Pi dc_Pi pm_Pi cd_Pi ct_Pi oc_Ps kV_Ps dc_Ps pm_Ps cd_Ps ct_Ps oc_Pt kV_Pt dc_Pt pm_Pt cd_Pt ct_Pt oc_Pc kV_Pc dc_Pc pm_Pc cd_Pc ct_Pc oc_Pq kV_Pq dc_Pq pm_Pq cd_Pq ct_Pq oc_Rfolder kV_Rfolder dc_Rfolder pm_Rfolder cd_Rfolder ct_Rfolder oc_Rform kV_Rform dc_Rform pm_Rform cd_Rform ct_Rform oc_Rmark kV_Rmark dc_Rmark pm_Rmark cd_Rmark ct_Rmark oc_Rnames kV_Rnames dc_Rnames pm_Rnames cd_Rnames ct_Rnames oc_Rended kV_Rended dc_Rended pm_Rended cd_Rended ct_Rended oc_Ai kV_Ai dc_Ai pm_Ai cd_Ai ct_Ai : Value} {tk_LETTERS tk_MOST_CHAINS tk_LONGEST_NAME : Tok} {nm_InvalidForm q_InvalidForm : Str} {bs_InvalidForm : List Value} {CB_InvalidForm : Addr} {sn_InvalidForm : List Str} {sub_InvalidForm : List Value} {ab_InvalidForm : Bool} {col_InvalidForm : Option Bool} {dd_InvalidForm : Option Addr} {m0_InvalidForm m1_InvalidForm m2_InvalidForm m3_InvalidForm m5_InvalidForm : Option Value} {ocT_InvalidForm : Value} {odT_InvalidForm : Option Addr} {nT_InvalidForm : Nat} {slT_InvalidForm : Array (Option Value)} {nm_InvalidLook q_InvalidLook : Str} {bs_InvalidLook : List Value} {CB_InvalidLook : Addr} {sn_InvalidLook : List Str} {sub_InvalidLook : List Value} {ab_InvalidLook : Bool} {col_InvalidLook : Option Bool} {dd_InvalidLook : Option Addr} {m0_InvalidLook m1_InvalidLook m2_InvalidLook m3_InvalidLook m5_InvalidLook : Option Value} {ocT_InvalidLook : Value} {odT_InvalidLook : Option Addr} {nT_InvalidLook : Nat} {slT_InvalidLook : Array (Option Value)} {nm_InvalidPlace q_InvalidPlace : Str} {bs_InvalidPlace : List Value} {CB_InvalidPlace : Addr} {sn_InvalidPlace : List Str} {sub_InvalidPlace : List Value} {ab_InvalidPlace : Bool} {col_InvalidPlace : Option Bool} {dd_InvalidPlace : Option Addr} {m0_InvalidPlace m1_InvalidPlace m2_InvalidPlace m3_InvalidPlace m5_InvalidPlace : Option Value} {ocT_InvalidPlace : Value} {odT_InvalidPlace : Option Addr} {nT_InvalidPlace : Nat} {slT_InvalidPlace : Array (Option Value)} {nTF : Nat} {t1F t2F : Tok} {rFL rFC : List Value} {vs_L : Array Value} {rRfolder : List Value} {rRform : List Value} {rRmark : List Value} {rRnames : List Value} {rRended : List Value} (X : K.In h) (G : h.Ns mainGlobals mg) (hfa : mg "law" = some (.ref fa))
    (z_isinstance : PySem.W.nsIn K mainGlobals "isinstance" = some none)
    (z_int : PySem.W.nsIn K mainGlobals "int" = some none)
    (z_bool : PySem.W.nsIn K mainGlobals "bool" = some none)
    (z_str : PySem.W.nsIn K mainGlobals "str" = some none)
    (z_sorted : PySem.W.nsIn K mainGlobals "sorted" = some none)
    (z_tuple : PySem.W.nsIn K mainGlobals "tuple" = some none)
    (z_range : PySem.W.nsIn K mainGlobals "range" = some none)
    (z_sum : PySem.W.nsIn K mainGlobals "sum" = some none)
    (z_len : PySem.W.nsIn K mainGlobals "len" = some none)
    (z_all : PySem.W.nsIn K mainGlobals "all" = some none)
    (z_list : PySem.W.nsIn K mainGlobals "list" = some none)
    (z_zip : PySem.W.nsIn K mainGlobals "zip" = some none)
    (z_max : PySem.W.nsIn K mainGlobals "max" = some none)
    (z_min : PySem.W.nsIn K mainGlobals "min" = some none)
    (z_dict : PySem.W.nsIn K mainGlobals "dict" = some none)
    (v_LETTERS : PySem.W.nsIn K mainGlobals "LETTERS" = some (some (.str alphaS tk_LETTERS)))
    (v_MOST_CHAINS : PySem.W.nsIn K mainGlobals "MOST_CHAINS" = some (some (.int 1000 tk_MOST_CHAINS)))
    (v_LONGEST_NAME : PySem.W.nsIn K mainGlobals "LONGEST_NAME" = some (some (.int 8 tk_LONGEST_NAME)))
    (a_is_whole : PySem.W.nsIn K mainGlobals "is_whole" = some (some (.ref f_is_whole)))
    (l_is_whole : K.lookup f_is_whole = some ⟨oc_is_whole, od_is_whole, .func (PySem.W.fnOf "is_whole" "is_whole" (defArgs s_is_whole) (defBody s_is_whole) (defScope s_is_whole) .none kV_is_whole dc_is_whole pm_is_whole an_is_whole cd_is_whole ct_is_whole), sl_is_whole⟩)
    (c_is_whole : PySem.W.codeIn K cd_is_whole "is_whole" = true)
    (k_is_whole : PySem.W.keepIn K (.ref f_is_whole) = true)
    (a_is_name : PySem.W.nsIn K mainGlobals "is_name" = some (some (.ref f_is_name)))
    (l_is_name : K.lookup f_is_name = some ⟨oc_is_name, od_is_name, .func (PySem.W.fnOf "is_name" "is_name" (defArgs s_is_name) (defBody s_is_name) (defScope s_is_name) .none kV_is_name dc_is_name pm_is_name an_is_name cd_is_name ct_is_name), sl_is_name⟩)
    (c_is_name : PySem.W.codeIn K cd_is_name "is_name" = true)
    (k_is_name : PySem.W.keepIn K (.ref f_is_name) = true)
    (a_is_place : PySem.W.nsIn K mainGlobals "is_place" = some (some (.ref f_is_place)))
    (l_is_place : K.lookup f_is_place = some ⟨oc_is_place, od_is_place, .func (PySem.W.fnOf "is_place" "is_place" (defArgs s_is_place) (defBody s_is_place) (defScope s_is_place) .none kV_is_place dc_is_place pm_is_place an_is_place cd_is_place ct_is_place), sl_is_place⟩)
    (c_is_place : PySem.W.codeIn K cd_is_place "is_place" = true)
    (k_is_place : PySem.W.keepIn K (.ref f_is_place) = true)
    (a_is_name_list : PySem.W.nsIn K mainGlobals "is_name_list" = some (some (.ref f_is_name_list)))
    (l_is_name_list : K.lookup f_is_name_list = some ⟨oc_is_name_list, od_is_name_list, .func (PySem.W.fnOf "is_name_list" "is_name_list" (defArgs s_is_name_list) (defBody s_is_name_list) (defScope s_is_name_list) .none kV_is_name_list dc_is_name_list pm_is_name_list an_is_name_list cd_is_name_list ct_is_name_list), sl_is_name_list⟩)
    (c_is_name_list : PySem.W.codeIn K cd_is_name_list "is_name_list" = true)
    (k_is_name_list : PySem.W.keepIn K (.ref f_is_name_list) = true)
    (a_check_place : PySem.W.nsIn K mainGlobals "check_place" = some (some (.ref f_check_place)))
    (l_check_place : K.lookup f_check_place = some ⟨oc_check_place, od_check_place, .func (PySem.W.fnOf "check_place" "check_place" (defArgs s_check_place) (defBody s_check_place) (defScope s_check_place) .none kV_check_place dc_check_place pm_check_place an_check_place cd_check_place ct_check_place), sl_check_place⟩)
    (c_check_place : PySem.W.codeIn K cd_check_place "check_place" = true)
    (k_check_place : PySem.W.keepIn K (.ref f_check_place) = true)
    (a_key_in : PySem.W.nsIn K mainGlobals "key_in" = some (some (.ref f_key_in)))
    (l_key_in : K.lookup f_key_in = some ⟨oc_key_in, od_key_in, .func (PySem.W.fnOf "key_in" "key_in" (defArgs s_key_in) (defBody s_key_in) (defScope s_key_in) .none kV_key_in dc_key_in pm_key_in an_key_in cd_key_in ct_key_in), sl_key_in⟩)
    (c_key_in : PySem.W.codeIn K cd_key_in "key_in" = true)
    (k_key_in : PySem.W.keepIn K (.ref f_key_in) = true)
    (a__are_letters : PySem.W.nsIn K mainGlobals "_are_letters" = some (some (.ref f__are_letters)))
    (l__are_letters : K.lookup f__are_letters = some ⟨oc__are_letters, od__are_letters, .func (PySem.W.fnOf "_are_letters" "_are_letters" (defArgs s__are_letters) (defBody s__are_letters) (defScope s__are_letters) .none kV__are_letters dc__are_letters pm__are_letters an__are_letters cd__are_letters ct__are_letters), sl__are_letters⟩)
    (c__are_letters : PySem.W.codeIn K cd__are_letters "_are_letters" = true)
    (k__are_letters : PySem.W.keepIn K (.ref f__are_letters) = true)
    (a__are_chains : PySem.W.nsIn K mainGlobals "_are_chains" = some (some (.ref f__are_chains)))
    (l__are_chains : K.lookup f__are_chains = some ⟨oc__are_chains, od__are_chains, .func (PySem.W.fnOf "_are_chains" "_are_chains" (defArgs s__are_chains) (defBody s__are_chains) (defScope s__are_chains) .none kV__are_chains dc__are_chains pm__are_chains an__are_chains cd__are_chains ct__are_chains), sl__are_chains⟩)
    (c__are_chains : PySem.W.codeIn K cd__are_chains "_are_chains" = true)
    (k__are_chains : PySem.W.keepIn K (.ref f__are_chains) = true)
    (a__rise : PySem.W.nsIn K mainGlobals "_rise" = some (some (.ref f__rise)))
    (l__rise : K.lookup f__rise = some ⟨oc__rise, od__rise, .func (PySem.W.fnOf "_rise" "_rise" (defArgs s__rise) (defBody s__rise) (defScope s__rise) .none kV__rise dc__rise pm__rise an__rise cd__rise ct__rise), sl__rise⟩)
    (c__rise : PySem.W.codeIn K cd__rise "_rise" = true)
    (k__rise : PySem.W.keepIn K (.ref f__rise) = true)
    (a__is_piece : PySem.W.nsIn K mainGlobals "_is_piece" = some (some (.ref f__is_piece)))
    (l__is_piece : K.lookup f__is_piece = some ⟨oc__is_piece, od__is_piece, .func (PySem.W.fnOf "_is_piece" "_is_piece" (defArgs s__is_piece) (defBody s__is_piece) (defScope s__is_piece) .none kV__is_piece dc__is_piece pm__is_piece an__is_piece cd__is_piece ct__is_piece), sl__is_piece⟩)
    (c__is_piece : PySem.W.codeIn K cd__is_piece "_is_piece" = true)
    (k__is_piece : PySem.W.keepIn K (.ref f__is_piece) = true)
    (a__are_answers : PySem.W.nsIn K mainGlobals "_are_answers" = some (some (.ref f__are_answers)))
    (l__are_answers : K.lookup f__are_answers = some ⟨oc__are_answers, od__are_answers, .func (PySem.W.fnOf "_are_answers" "_are_answers" (defArgs s__are_answers) (defBody s__are_answers) (defScope s__are_answers) .none kV__are_answers dc__are_answers pm__are_answers an__are_answers cd__are_answers ct__are_answers), sl__are_answers⟩)
    (c__are_answers : PySem.W.codeIn K cd__are_answers "_are_answers" = true)
    (k__are_answers : PySem.W.keepIn K (.ref f__are_answers) = true)
    (a__law_purse : PySem.W.nsIn K mainGlobals "_law_purse" = some (some (.ref f__law_purse)))
    (l__law_purse : K.lookup f__law_purse = some ⟨oc__law_purse, od__law_purse, .func (PySem.W.fnOf "_law_purse" "_law_purse" (defArgs s__law_purse) (defBody s__law_purse) (defScope s__law_purse) .none kV__law_purse dc__law_purse pm__law_purse an__law_purse cd__law_purse ct__law_purse), sl__law_purse⟩)
    (c__law_purse : PySem.W.codeIn K cd__law_purse "_law_purse" = true)
    (k__law_purse : PySem.W.keepIn K (.ref f__law_purse) = true)
    (a__law_draw : PySem.W.nsIn K mainGlobals "_law_draw" = some (some (.ref f__law_draw)))
    (l__law_draw : K.lookup f__law_draw = some ⟨oc__law_draw, od__law_draw, .func (PySem.W.fnOf "_law_draw" "_law_draw" (defArgs s__law_draw) (defBody s__law_draw) (defScope s__law_draw) .none kV__law_draw dc__law_draw pm__law_draw an__law_draw cd__law_draw ct__law_draw), sl__law_draw⟩)
    (c__law_draw : PySem.W.codeIn K cd__law_draw "_law_draw" = true)
    (k__law_draw : PySem.W.keepIn K (.ref f__law_draw) = true)
    (a__law_form : PySem.W.nsIn K mainGlobals "_law_form" = some (some (.ref f__law_form)))
    (l__law_form : K.lookup f__law_form = some ⟨oc__law_form, od__law_form, .func (PySem.W.fnOf "_law_form" "_law_form" (defArgs s__law_form) (defBody s__law_form) (defScope s__law_form) .none kV__law_form dc__law_form pm__law_form an__law_form cd__law_form ct__law_form), sl__law_form⟩)
    (c__law_form : PySem.W.codeIn K cd__law_form "_law_form" = true)
    (k__law_form : PySem.W.keepIn K (.ref f__law_form) = true)
    (a__law_name : PySem.W.nsIn K mainGlobals "_law_name" = some (some (.ref f__law_name)))
    (l__law_name : K.lookup f__law_name = some ⟨oc__law_name, od__law_name, .func (PySem.W.fnOf "_law_name" "_law_name" (defArgs s__law_name) (defBody s__law_name) (defScope s__law_name) .none kV__law_name dc__law_name pm__law_name an__law_name cd__law_name ct__law_name), sl__law_name⟩)
    (c__law_name : PySem.W.codeIn K cd__law_name "_law_name" = true)
    (k__law_name : PySem.W.keepIn K (.ref f__law_name) = true)
    (a__law_names : PySem.W.nsIn K mainGlobals "_law_names" = some (some (.ref f__law_names)))
    (l__law_names : K.lookup f__law_names = some ⟨oc__law_names, od__law_names, .func (PySem.W.fnOf "_law_names" "_law_names" (defArgs s__law_names) (defBody s__law_names) (defScope s__law_names) .none kV__law_names dc__law_names pm__law_names an__law_names cd__law_names ct__law_names), sl__law_names⟩)
    (c__law_names : PySem.W.codeIn K cd__law_names "_law_names" = true)
    (k__law_names : PySem.W.keepIn K (.ref f__law_names) = true)
    (a__law_key : PySem.W.nsIn K mainGlobals "_law_key" = some (some (.ref f__law_key)))
    (l__law_key : K.lookup f__law_key = some ⟨oc__law_key, od__law_key, .func (PySem.W.fnOf "_law_key" "_law_key" (defArgs s__law_key) (defBody s__law_key) (defScope s__law_key) .none kV__law_key dc__law_key pm__law_key an__law_key cd__law_key ct__law_key), sl__law_key⟩)
    (c__law_key : PySem.W.codeIn K cd__law_key "_law_key" = true)
    (k__law_key : PySem.W.keepIn K (.ref f__law_key) = true)
    (a__law_world : PySem.W.nsIn K mainGlobals "_law_world" = some (some (.ref f__law_world)))
    (l__law_world : K.lookup f__law_world = some ⟨oc__law_world, od__law_world, .func (PySem.W.fnOf "_law_world" "_law_world" (defArgs s__law_world) (defBody s__law_world) (defScope s__law_world) .none kV__law_world dc__law_world pm__law_world an__law_world cd__law_world ct__law_world), sl__law_world⟩)
    (c__law_world : PySem.W.codeIn K cd__law_world "_law_world" = true)
    (k__law_world : PySem.W.keepIn K (.ref f__law_world) = true)
    (a__law_piece : PySem.W.nsIn K mainGlobals "_law_piece" = some (some (.ref f__law_piece)))
    (l__law_piece : K.lookup f__law_piece = some ⟨oc__law_piece, od__law_piece, .func (PySem.W.fnOf "_law_piece" "_law_piece" (defArgs s__law_piece) (defBody s__law_piece) (defScope s__law_piece) .none kV__law_piece dc__law_piece pm__law_piece an__law_piece cd__law_piece ct__law_piece), sl__law_piece⟩)
    (c__law_piece : PySem.W.codeIn K cd__law_piece "_law_piece" = true)
    (k__law_piece : PySem.W.keepIn K (.ref f__law_piece) = true)
    (a__law_refused : PySem.W.nsIn K mainGlobals "_law_refused" = some (some (.ref f__law_refused)))
    (l__law_refused : K.lookup f__law_refused = some ⟨oc__law_refused, od__law_refused, .func (PySem.W.fnOf "_law_refused" "_law_refused" (defArgs s__law_refused) (defBody s__law_refused) (defScope s__law_refused) .none kV__law_refused dc__law_refused pm__law_refused an__law_refused cd__law_refused ct__law_refused), sl__law_refused⟩)
    (c__law_refused : PySem.W.codeIn K cd__law_refused "_law_refused" = true)
    (k__law_refused : PySem.W.keepIn K (.ref f__law_refused) = true)
    (a__law_forms_apart : PySem.W.nsIn K mainGlobals "_law_forms_apart" = some (some (.ref f__law_forms_apart)))
    (l__law_forms_apart : K.lookup f__law_forms_apart = some ⟨oc__law_forms_apart, od__law_forms_apart, .func (PySem.W.fnOf "_law_forms_apart" "_law_forms_apart" (defArgs s__law_forms_apart) (defBody s__law_forms_apart) (defScope s__law_forms_apart) .none kV__law_forms_apart dc__law_forms_apart pm__law_forms_apart an__law_forms_apart cd__law_forms_apart ct__law_forms_apart), sl__law_forms_apart⟩)
    (c__law_forms_apart : PySem.W.codeIn K cd__law_forms_apart "_law_forms_apart" = true)
    (k__law_forms_apart : PySem.W.keepIn K (.ref f__law_forms_apart) = true)
    (a__law_long : PySem.W.nsIn K mainGlobals "_law_long" = some (some (.ref f__law_long)))
    (l__law_long : K.lookup f__law_long = some ⟨oc__law_long, od__law_long, .func (PySem.W.fnOf "_law_long" "_law_long" (defArgs s__law_long) (defBody s__law_long) (defScope s__law_long) .none kV__law_long dc__law_long pm__law_long an__law_long cd__law_long ct__law_long), sl__law_long⟩)
    (c__law_long : PySem.W.codeIn K cd__law_long "_law_long" = true)
    (k__law_long : PySem.W.keepIn K (.ref f__law_long) = true)
    (a__law_five : PySem.W.nsIn K mainGlobals "_law_five" = some (some (.ref f__law_five)))
    (l__law_five : K.lookup f__law_five = some ⟨oc__law_five, od__law_five, .func (PySem.W.fnOf "_law_five" "_law_five" (defArgs s__law_five) (defBody s__law_five) (defScope s__law_five) .none kV__law_five dc__law_five pm__law_five an__law_five cd__law_five ct__law_five), sl__law_five⟩)
    (c__law_five : PySem.W.codeIn K cd__law_five "_law_five" = true)
    (k__law_five : PySem.W.keepIn K (.ref f__law_five) = true)
    (a__law_bad_folders : PySem.W.nsIn K mainGlobals "_law_bad_folders" = some (some (.ref f__law_bad_folders)))
    (l__law_bad_folders : K.lookup f__law_bad_folders = some ⟨oc__law_bad_folders, od__law_bad_folders, .func (PySem.W.fnOf "_law_bad_folders" "_law_bad_folders" (defArgs s__law_bad_folders) (defBody s__law_bad_folders) (defScope s__law_bad_folders) .none kV__law_bad_folders dc__law_bad_folders pm__law_bad_folders an__law_bad_folders cd__law_bad_folders ct__law_bad_folders), sl__law_bad_folders⟩)
    (c__law_bad_folders : PySem.W.codeIn K cd__law_bad_folders "_law_bad_folders" = true)
    (k__law_bad_folders : PySem.W.keepIn K (.ref f__law_bad_folders) = true)
    (a__law_bad : PySem.W.nsIn K mainGlobals "_law_bad" = some (some (.ref f__law_bad)))
    (l__law_bad : K.lookup f__law_bad = some ⟨oc__law_bad, od__law_bad, .func (PySem.W.fnOf "_law_bad" "_law_bad" (defArgs s__law_bad) (defBody s__law_bad) (defScope s__law_bad) .none kV__law_bad dc__law_bad pm__law_bad an__law_bad cd__law_bad ct__law_bad), sl__law_bad⟩)
    (c__law_bad : PySem.W.codeIn K cd__law_bad "_law_bad" = true)
    (k__law_bad : PySem.W.keepIn K (.ref f__law_bad) = true)
    (a__law_changed : PySem.W.nsIn K mainGlobals "_law_changed" = some (some (.ref f__law_changed)))
    (l__law_changed : K.lookup f__law_changed = some ⟨oc__law_changed, od__law_changed, .func (PySem.W.fnOf "_law_changed" "_law_changed" (defArgs s__law_changed) (defBody s__law_changed) (defScope s__law_changed) .none kV__law_changed dc__law_changed pm__law_changed an__law_changed cd__law_changed ct__law_changed), sl__law_changed⟩)
    (c__law_changed : PySem.W.codeIn K cd__law_changed "_law_changed" = true)
    (k__law_changed : PySem.W.keepIn K (.ref f__law_changed) = true)
    (a_law : PySem.W.nsIn K mainGlobals "law" = some (some (.ref f_law)))
    (l_law : K.lookup f_law = some ⟨oc_law, od_law, .func (PySem.W.fnOf "law" "law" (defArgs s_law) (defBody s_law) (defScope s_law) .none kV_law dc_law pm_law an_law cd_law ct_law), sl_law⟩)
    (c_law : PySem.W.codeIn K cd_law "law" = true)
    (k_law : PySem.W.keepIn K (.ref f_law) = true)
    (g_InvalidForm : PySem.W.nsIn K mainGlobals "InvalidForm" = some (some (.ref C_InvalidForm)))
    (xL_InvalidForm : K.lookup C_InvalidForm = some (excClassObj nm_InvalidForm q_InvalidForm C_InvalidForm N_InvalidForm bs_InvalidForm [.ref CB_InvalidForm, .type "ValueError", .type "Exception", .type "BaseException", .type "object"] true sn_InvalidForm sub_InvalidForm ab_InvalidForm col_InvalidForm dd_InvalidForm m0_InvalidForm m1_InvalidForm m2_InvalidForm m3_InvalidForm m5_InvalidForm "ValueError.__new__"))
    (sa_InvalidForm : PySem.W.findIn K (.ref C_InvalidForm) "__setattr__" = some (some (.builtin "object.__setattr__")))
    (ga_InvalidForm : PySem.W.findIn K (.ref C_InvalidForm) "__getattribute__" = some (some (.builtin "BaseException.__getattribute__")))
    (gg_InvalidForm : PySem.W.findIn K (.ref C_InvalidForm) "__getattr__" = some none)
    (no_InvalidForm : PySem.W.findIn K (.ref C_InvalidForm) "value" = some none)
    (in_InvalidForm : PySem.W.findIn K (.ref C_InvalidForm) "__init__" = some (some (.ref f_x_InvalidForm)))
    (ti_InvalidForm : PySem.W.typeIn K (.ref f_x_InvalidForm) = some (.type "function"))
    (l_x_InvalidForm : K.lookup f_x_InvalidForm = some ⟨oc_x_InvalidForm, od_x_InvalidForm, .func (PySem.W.fnOf "__init__" "InvalidForm.__init__" (defArgs s_InvalidForm___init__) (defBody s_InvalidForm___init__) (defScope s_InvalidForm___init__) (.ref T_x_InvalidForm) kV_x_InvalidForm dc_x_InvalidForm pm_x_InvalidForm an_x_InvalidForm cd_x_InvalidForm ct_x_InvalidForm), sl_x_InvalidForm⟩)
    (c_x_InvalidForm : PySem.W.codeIn K cd_x_InvalidForm "InvalidForm.__init__" = true)
    (k_x_InvalidForm : PySem.W.keepIn K (.ref f_x_InvalidForm) = true)
    (lT_InvalidForm : K.lookup T_x_InvalidForm = some ⟨ocT_InvalidForm, odT_InvalidForm, .seq #[.none] nT_InvalidForm, slT_InvalidForm⟩)
    (kC_InvalidForm : PySem.W.keepIn K (.ref C_InvalidForm) = true)
    (eC_InvalidForm : PySem.W.subIn K (.ref C_InvalidForm) (.type "BaseException") = some true)
    (tC_InvalidForm : PySem.W.typeIn K (.ref C_InvalidForm) = some (.type "type"))
    (hC_InvalidForm : PySem.W.hasDictIn K C_InvalidForm = true)
    (iC_InvalidForm : PySem.W.isClsIn K C_InvalidForm = true)
    (sC_InvalidForm : PySem.W.subIn K (.ref C_InvalidForm) (.ref C_InvalidForm) = some true)
    (g_InvalidLook : PySem.W.nsIn K mainGlobals "InvalidLook" = some (some (.ref C_InvalidLook)))
    (xL_InvalidLook : K.lookup C_InvalidLook = some (excClassObj nm_InvalidLook q_InvalidLook C_InvalidLook N_InvalidLook bs_InvalidLook [.ref CB_InvalidLook, .type "ValueError", .type "Exception", .type "BaseException", .type "object"] true sn_InvalidLook sub_InvalidLook ab_InvalidLook col_InvalidLook dd_InvalidLook m0_InvalidLook m1_InvalidLook m2_InvalidLook m3_InvalidLook m5_InvalidLook "ValueError.__new__"))
    (sa_InvalidLook : PySem.W.findIn K (.ref C_InvalidLook) "__setattr__" = some (some (.builtin "object.__setattr__")))
    (ga_InvalidLook : PySem.W.findIn K (.ref C_InvalidLook) "__getattribute__" = some (some (.builtin "BaseException.__getattribute__")))
    (gg_InvalidLook : PySem.W.findIn K (.ref C_InvalidLook) "__getattr__" = some none)
    (no_InvalidLook : PySem.W.findIn K (.ref C_InvalidLook) "value" = some none)
    (in_InvalidLook : PySem.W.findIn K (.ref C_InvalidLook) "__init__" = some (some (.ref f_x_InvalidLook)))
    (ti_InvalidLook : PySem.W.typeIn K (.ref f_x_InvalidLook) = some (.type "function"))
    (l_x_InvalidLook : K.lookup f_x_InvalidLook = some ⟨oc_x_InvalidLook, od_x_InvalidLook, .func (PySem.W.fnOf "__init__" "InvalidLook.__init__" (defArgs s_InvalidLook___init__) (defBody s_InvalidLook___init__) (defScope s_InvalidLook___init__) (.ref T_x_InvalidLook) kV_x_InvalidLook dc_x_InvalidLook pm_x_InvalidLook an_x_InvalidLook cd_x_InvalidLook ct_x_InvalidLook), sl_x_InvalidLook⟩)
    (c_x_InvalidLook : PySem.W.codeIn K cd_x_InvalidLook "InvalidLook.__init__" = true)
    (k_x_InvalidLook : PySem.W.keepIn K (.ref f_x_InvalidLook) = true)
    (lT_InvalidLook : K.lookup T_x_InvalidLook = some ⟨ocT_InvalidLook, odT_InvalidLook, .seq #[.none] nT_InvalidLook, slT_InvalidLook⟩)
    (kC_InvalidLook : PySem.W.keepIn K (.ref C_InvalidLook) = true)
    (eC_InvalidLook : PySem.W.subIn K (.ref C_InvalidLook) (.type "BaseException") = some true)
    (tC_InvalidLook : PySem.W.typeIn K (.ref C_InvalidLook) = some (.type "type"))
    (hC_InvalidLook : PySem.W.hasDictIn K C_InvalidLook = true)
    (iC_InvalidLook : PySem.W.isClsIn K C_InvalidLook = true)
    (sC_InvalidLook : PySem.W.subIn K (.ref C_InvalidLook) (.ref C_InvalidLook) = some true)
    (g_InvalidPlace : PySem.W.nsIn K mainGlobals "InvalidPlace" = some (some (.ref C_InvalidPlace)))
    (xL_InvalidPlace : K.lookup C_InvalidPlace = some (excClassObj nm_InvalidPlace q_InvalidPlace C_InvalidPlace N_InvalidPlace bs_InvalidPlace [.ref CB_InvalidPlace, .type "ValueError", .type "Exception", .type "BaseException", .type "object"] true sn_InvalidPlace sub_InvalidPlace ab_InvalidPlace col_InvalidPlace dd_InvalidPlace m0_InvalidPlace m1_InvalidPlace m2_InvalidPlace m3_InvalidPlace m5_InvalidPlace "ValueError.__new__"))
    (sa_InvalidPlace : PySem.W.findIn K (.ref C_InvalidPlace) "__setattr__" = some (some (.builtin "object.__setattr__")))
    (ga_InvalidPlace : PySem.W.findIn K (.ref C_InvalidPlace) "__getattribute__" = some (some (.builtin "BaseException.__getattribute__")))
    (gg_InvalidPlace : PySem.W.findIn K (.ref C_InvalidPlace) "__getattr__" = some none)
    (no_InvalidPlace : PySem.W.findIn K (.ref C_InvalidPlace) "value" = some none)
    (in_InvalidPlace : PySem.W.findIn K (.ref C_InvalidPlace) "__init__" = some (some (.ref f_x_InvalidPlace)))
    (ti_InvalidPlace : PySem.W.typeIn K (.ref f_x_InvalidPlace) = some (.type "function"))
    (l_x_InvalidPlace : K.lookup f_x_InvalidPlace = some ⟨oc_x_InvalidPlace, od_x_InvalidPlace, .func (PySem.W.fnOf "__init__" "InvalidPlace.__init__" (defArgs s_InvalidPlace___init__) (defBody s_InvalidPlace___init__) (defScope s_InvalidPlace___init__) (.ref T_x_InvalidPlace) kV_x_InvalidPlace dc_x_InvalidPlace pm_x_InvalidPlace an_x_InvalidPlace cd_x_InvalidPlace ct_x_InvalidPlace), sl_x_InvalidPlace⟩)
    (c_x_InvalidPlace : PySem.W.codeIn K cd_x_InvalidPlace "InvalidPlace.__init__" = true)
    (k_x_InvalidPlace : PySem.W.keepIn K (.ref f_x_InvalidPlace) = true)
    (lT_InvalidPlace : K.lookup T_x_InvalidPlace = some ⟨ocT_InvalidPlace, odT_InvalidPlace, .seq #[.none] nT_InvalidPlace, slT_InvalidPlace⟩)
    (kC_InvalidPlace : PySem.W.keepIn K (.ref C_InvalidPlace) = true)
    (eC_InvalidPlace : PySem.W.subIn K (.ref C_InvalidPlace) (.type "BaseException") = some true)
    (tC_InvalidPlace : PySem.W.typeIn K (.ref C_InvalidPlace) = some (.type "type"))
    (hC_InvalidPlace : PySem.W.hasDictIn K C_InvalidPlace = true)
    (iC_InvalidPlace : PySem.W.isClsIn K C_InvalidPlace = true)
    (sC_InvalidPlace : PySem.W.subIn K (.ref C_InvalidPlace) (.ref C_InvalidPlace) = some true)
    (g_F : PySem.W.nsIn K mainGlobals "Form" = some (some (.ref CF)))
    (pg_F : PySem.W.plainGet K CF Str.empty = true)
    (hd_F : PySem.W.hasDictIn K CF = true)
    (po_F : PySem.W.plainOver K CF = true)
    (sa_F : PySem.W.findIn K (.ref CF) "__setattr__" = some (some (.builtin "object.__setattr__")))
    (mk_F : PySem.W.makesIn K CF = true)
    (kc_F : PySem.W.keepIn K (.ref CF) = true)
    (nL_F : PySem.W.findIn K (.ref CF) "_letters" = some none)
    (nC_F : PySem.W.findIn K (.ref CF) "_chains" = some none)
    (in_F : PySem.W.findIn K (.ref CF) "__init__" = some (some (.ref f_Fi)))
    (if_F : PySem.W.isFn K (.ref f_Fi) = true)
    (l_Fi : K.lookup f_Fi = some ⟨oc_Fi, od_Fi, .func (PySem.W.fnOf "__init__" "Form.__init__" (defArgs s_Form___init__) (defBody s_Form___init__) (defScope s_Form___init__) (.ref T_Fi) kV_Fi dc_Fi pm_Fi an_Fi cd_Fi ct_Fi), sl_Fi⟩)
    (c_Fi : PySem.W.codeIn K cd_Fi "Form.__init__" = true)
    (k_Fi : PySem.W.keepIn K (.ref f_Fi) = true)
    (lT_F : K.lookup T_Fi = some ⟨ocTF, odTF, .seq #[.str alphaS t1F, .int 1 t2F] nTF, slTF⟩)
    (at_FL : PySem.W.findIn K (.ref CF) "letters" = some (some (.ref p_FL)))
    (gt_FL : PySem.W.specialIn K (.ref p_FL) "__get__" = some (some (.builtin "property.__get__")))
    (tk_FL : PySem.W.takesIn K (.ref p_FL) = some true)
    (rc_FL : PySem.W.recIn K p_FL "property" = some (.ref f_FL :: rFL))
    (l_FL : K.lookup f_FL = some ⟨oc_FL, od_FL, .func (PySem.W.fnOf "letters" "Form.letters" (defArgs s_Form_letters) (defBody s_Form_letters) (defScope s_Form_letters) .none kV_FL dc_FL pm_FL an_FL cd_FL ct_FL), sl_FL⟩)
    (c_FL : PySem.W.codeIn K cd_FL "Form.letters" = true)
    (k_FL : PySem.W.keepIn K (.ref f_FL) = true)
    (at_FC : PySem.W.findIn K (.ref CF) "chains" = some (some (.ref p_FC)))
    (gt_FC : PySem.W.specialIn K (.ref p_FC) "__get__" = some (some (.builtin "property.__get__")))
    (tk_FC : PySem.W.takesIn K (.ref p_FC) = some true)
    (rc_FC : PySem.W.recIn K p_FC "property" = some (.ref f_FC :: rFC))
    (l_FC : K.lookup f_FC = some ⟨oc_FC, od_FC, .func (PySem.W.fnOf "chains" "Form.chains" (defArgs s_Form_chains) (defBody s_Form_chains) (defScope s_Form_chains) .none kV_FC dc_FC pm_FC an_FC cd_FC ct_FC), sl_FC⟩)
    (c_FC : PySem.W.codeIn K cd_FC "Form.chains" = true)
    (k_FC : PySem.W.keepIn K (.ref f_FC) = true)
    (eq_F : PySem.W.findIn K (.ref CF) "__eq__" = some (some (.ref f_FE)))
    (ie_F : PySem.W.isFn K (.ref f_FE) = true)
    (l_FE : K.lookup f_FE = some ⟨oc_FE, od_FE, .func (PySem.W.fnOf "__eq__" "Form.__eq__" (defArgs s_Form___eq__) (defBody s_Form___eq__) (defScope s_Form___eq__) .none kV_FE dc_FE pm_FE an_FE cd_FE ct_FE), sl_FE⟩)
    (c_FE : PySem.W.codeIn K cd_FE "Form.__eq__" = true)
    (k_FE : PySem.W.keepIn K (.ref f_FE) = true)
    (i1_F : PySem.W.findIn K (.ref CF) "__class__" = some (some (.builtin "object.__class__")))
    (i2_F : PySem.W.specialIn K (.builtin "object.__class__") "__get__" = some (some (.builtin "getset_descriptor.__get__")))
    (i3_F : PySem.W.takesIn K (.builtin "object.__class__") = some true)
    (i4_F : PySem.W.mroIn K CF (.type "object") = some true)
    (cC_F : PySem.W.isClsIn K CF = true)
    (tC_F : PySem.W.typeIn K (.ref CF) = some (.type "type"))
    (a_L : PySem.W.nsIn K mainGlobals "_law_ordered" = some (some (.ref f_L)))
    (l_L : K.lookup f_L = some ⟨oc_L, od_L, .func (PySem.W.fnOf "_law_ordered" "_law_ordered" (defArgs s__law_ordered) (defBody s__law_ordered) (defScope s__law_ordered) .none kV_L dc_L pm_L an_L (.ref c_Lo) ct_L), sl_L⟩)
    (c_L : PySem.W.codeIn K (.ref c_Lo) "_law_ordered" = true)
    (k_L : PySem.W.keepIn K (.ref f_L) = true)
    (lc_L : K.lookup c_Lo = some ⟨.type "code", odc_L, .fields vs_L, slc_L⟩)
    (p_L : vs_L[11]? = some (.ref P_L))
    (hd_L : PySem.W.codeHdIn K c_Lo P_L = true)
    (n_L : K.lookup P_L = none)
    (t_L : h.get? P_L = some { cls := .none, data := .fields #[] })
    (g_P : PySem.W.nsIn K mainGlobals "Piece" = some (some (.ref CPc)))
    (pg_P : PySem.W.plainGet K CPc Str.empty = true)
    (hd_P : PySem.W.hasDictIn K CPc = true)
    (po_P : PySem.W.plainOver K CPc = true)
    (sa_P : PySem.W.findIn K (.ref CPc) "__setattr__" = some (some (.builtin "object.__setattr__")))
    (mk_P : PySem.W.makesIn K CPc = true)
    (kc_P : PySem.W.keepIn K (.ref CPc) = true)
    (n1_P : PySem.W.findIn K (.ref CPc) "_folder" = some none)
    (n2_P : PySem.W.findIn K (.ref CPc) "_form" = some none)
    (n3_P : PySem.W.findIn K (.ref CPc) "_mark" = some none)
    (n4_P : PySem.W.findIn K (.ref CPc) "_names" = some none)
    (n5_P : PySem.W.findIn K (.ref CPc) "_ended" = some none)
    (n6_P : PySem.W.findIn K (.ref CPc) "_low" = some none)
    (n7_P : PySem.W.findIn K (.ref CPc) "_high" = some none)
    (at_Pi : PySem.W.findIn K (.ref CPc) "__init__" = some (some (.ref f_Pi)))
    (fn_Pi : PySem.W.isFn K (.ref f_Pi) = true)
    (l_Pi : K.lookup f_Pi = some ⟨oc_Pi, od_Pi, .func (PySem.W.fnOf "__init__" "Piece.__init__" (defArgs s_Piece___init__) (defBody s_Piece___init__) (defScope s_Piece___init__) .none kV_Pi dc_Pi pm_Pi an_Pi cd_Pi ct_Pi), sl_Pi⟩)
    (c_Pi : PySem.W.codeIn K cd_Pi "Piece.__init__" = true)
    (k_Pi : PySem.W.keepIn K (.ref f_Pi) = true)
    (at_Ps : PySem.W.findIn K (.ref CPc) "says" = some (some (.ref f_Ps)))
    (fn_Ps : PySem.W.isFn K (.ref f_Ps) = true)
    (l_Ps : K.lookup f_Ps = some ⟨oc_Ps, od_Ps, .func (PySem.W.fnOf "says" "Piece.says" (defArgs s_Piece_says) (defBody s_Piece_says) (defScope s_Piece_says) .none kV_Ps dc_Ps pm_Ps an_Ps cd_Ps ct_Ps), sl_Ps⟩)
    (c_Ps : PySem.W.codeIn K cd_Ps "Piece.says" = true)
    (k_Ps : PySem.W.keepIn K (.ref f_Ps) = true)
    (at_Pt : PySem.W.findIn K (.ref CPc) "standing" = some (some (.ref f_Pt)))
    (fn_Pt : PySem.W.isFn K (.ref f_Pt) = true)
    (l_Pt : K.lookup f_Pt = some ⟨oc_Pt, od_Pt, .func (PySem.W.fnOf "standing" "Piece.standing" (defArgs s_Piece_standing) (defBody s_Piece_standing) (defScope s_Piece_standing) .none kV_Pt dc_Pt pm_Pt an_Pt cd_Pt ct_Pt), sl_Pt⟩)
    (c_Pt : PySem.W.codeIn K cd_Pt "Piece.standing" = true)
    (k_Pt : PySem.W.keepIn K (.ref f_Pt) = true)
    (at_Pc : PySem.W.findIn K (.ref CPc) "__contains__" = some (some (.ref f_Pc)))
    (fn_Pc : PySem.W.isFn K (.ref f_Pc) = true)
    (l_Pc : K.lookup f_Pc = some ⟨oc_Pc, od_Pc, .func (PySem.W.fnOf "__contains__" "Piece.__contains__" (defArgs s_Piece___contains__) (defBody s_Piece___contains__) (defScope s_Piece___contains__) .none kV_Pc dc_Pc pm_Pc an_Pc cd_Pc ct_Pc), sl_Pc⟩)
    (c_Pc : PySem.W.codeIn K cd_Pc "Piece.__contains__" = true)
    (k_Pc : PySem.W.keepIn K (.ref f_Pc) = true)
    (at_Pq : PySem.W.findIn K (.ref CPc) "__eq__" = some (some (.ref f_Pq)))
    (fn_Pq : PySem.W.isFn K (.ref f_Pq) = true)
    (l_Pq : K.lookup f_Pq = some ⟨oc_Pq, od_Pq, .func (PySem.W.fnOf "__eq__" "Piece.__eq__" (defArgs s_Piece___eq__) (defBody s_Piece___eq__) (defScope s_Piece___eq__) .none kV_Pq dc_Pq pm_Pq an_Pq cd_Pq ct_Pq), sl_Pq⟩)
    (c_Pq : PySem.W.codeIn K cd_Pq "Piece.__eq__" = true)
    (k_Pq : PySem.W.keepIn K (.ref f_Pq) = true)
    (at_Rfolder : PySem.W.findIn K (.ref CPc) "folder" = some (some (.ref p_Rfolder)))
    (gt_Rfolder : PySem.W.specialIn K (.ref p_Rfolder) "__get__" = some (some (.builtin "property.__get__")))
    (tk_Rfolder : PySem.W.takesIn K (.ref p_Rfolder) = some true)
    (rc_Rfolder : PySem.W.recIn K p_Rfolder "property" = some (.ref f_Rfolder :: rRfolder))
    (l_Rfolder : K.lookup f_Rfolder = some ⟨oc_Rfolder, od_Rfolder, .func (PySem.W.fnOf "folder" "Piece.folder" (defArgs s_Piece_folder) (defBody s_Piece_folder) (defScope s_Piece_folder) .none kV_Rfolder dc_Rfolder pm_Rfolder an_Rfolder cd_Rfolder ct_Rfolder), sl_Rfolder⟩)
    (c_Rfolder : PySem.W.codeIn K cd_Rfolder "Piece.folder" = true)
    (k_Rfolder : PySem.W.keepIn K (.ref f_Rfolder) = true)
    (at_Rform : PySem.W.findIn K (.ref CPc) "form" = some (some (.ref p_Rform)))
    (gt_Rform : PySem.W.specialIn K (.ref p_Rform) "__get__" = some (some (.builtin "property.__get__")))
    (tk_Rform : PySem.W.takesIn K (.ref p_Rform) = some true)
    (rc_Rform : PySem.W.recIn K p_Rform "property" = some (.ref f_Rform :: rRform))
    (l_Rform : K.lookup f_Rform = some ⟨oc_Rform, od_Rform, .func (PySem.W.fnOf "form" "Piece.form" (defArgs s_Piece_form) (defBody s_Piece_form) (defScope s_Piece_form) .none kV_Rform dc_Rform pm_Rform an_Rform cd_Rform ct_Rform), sl_Rform⟩)
    (c_Rform : PySem.W.codeIn K cd_Rform "Piece.form" = true)
    (k_Rform : PySem.W.keepIn K (.ref f_Rform) = true)
    (at_Rmark : PySem.W.findIn K (.ref CPc) "mark" = some (some (.ref p_Rmark)))
    (gt_Rmark : PySem.W.specialIn K (.ref p_Rmark) "__get__" = some (some (.builtin "property.__get__")))
    (tk_Rmark : PySem.W.takesIn K (.ref p_Rmark) = some true)
    (rc_Rmark : PySem.W.recIn K p_Rmark "property" = some (.ref f_Rmark :: rRmark))
    (l_Rmark : K.lookup f_Rmark = some ⟨oc_Rmark, od_Rmark, .func (PySem.W.fnOf "mark" "Piece.mark" (defArgs s_Piece_mark) (defBody s_Piece_mark) (defScope s_Piece_mark) .none kV_Rmark dc_Rmark pm_Rmark an_Rmark cd_Rmark ct_Rmark), sl_Rmark⟩)
    (c_Rmark : PySem.W.codeIn K cd_Rmark "Piece.mark" = true)
    (k_Rmark : PySem.W.keepIn K (.ref f_Rmark) = true)
    (at_Rnames : PySem.W.findIn K (.ref CPc) "names" = some (some (.ref p_Rnames)))
    (gt_Rnames : PySem.W.specialIn K (.ref p_Rnames) "__get__" = some (some (.builtin "property.__get__")))
    (tk_Rnames : PySem.W.takesIn K (.ref p_Rnames) = some true)
    (rc_Rnames : PySem.W.recIn K p_Rnames "property" = some (.ref f_Rnames :: rRnames))
    (l_Rnames : K.lookup f_Rnames = some ⟨oc_Rnames, od_Rnames, .func (PySem.W.fnOf "names" "Piece.names" (defArgs s_Piece_names) (defBody s_Piece_names) (defScope s_Piece_names) .none kV_Rnames dc_Rnames pm_Rnames an_Rnames cd_Rnames ct_Rnames), sl_Rnames⟩)
    (c_Rnames : PySem.W.codeIn K cd_Rnames "Piece.names" = true)
    (k_Rnames : PySem.W.keepIn K (.ref f_Rnames) = true)
    (at_Rended : PySem.W.findIn K (.ref CPc) "ended" = some (some (.ref p_Rended)))
    (gt_Rended : PySem.W.specialIn K (.ref p_Rended) "__get__" = some (some (.builtin "property.__get__")))
    (tk_Rended : PySem.W.takesIn K (.ref p_Rended) = some true)
    (rc_Rended : PySem.W.recIn K p_Rended "property" = some (.ref f_Rended :: rRended))
    (l_Rended : K.lookup f_Rended = some ⟨oc_Rended, od_Rended, .func (PySem.W.fnOf "ended" "Piece.ended" (defArgs s_Piece_ended) (defBody s_Piece_ended) (defScope s_Piece_ended) .none kV_Rended dc_Rended pm_Rended an_Rended cd_Rended ct_Rended), sl_Rended⟩)
    (c_Rended : PySem.W.codeIn K cd_Rended "Piece.ended" = true)
    (k_Rended : PySem.W.keepIn K (.ref f_Rended) = true)
    (i1_P : PySem.W.findIn K (.ref CPc) "__class__" = some (some (.builtin "object.__class__")))
    (i4_P : PySem.W.mroIn K CPc (.type "object") = some true)
    (cC_P : PySem.W.isClsIn K CPc = true)
    (tC_P : PySem.W.typeIn K (.ref CPc) = some (.type "type"))
    (g_A : PySem.W.nsIn K mainGlobals "Ask" = some (some (.ref CAk)))
    (pg_A : PySem.W.plainGet K CAk Str.empty = true)
    (hd_A : PySem.W.hasDictIn K CAk = true)
    (po_A : PySem.W.plainOver K CAk = true)
    (sa_A : PySem.W.findIn K (.ref CAk) "__setattr__" = some (some (.builtin "object.__setattr__")))
    (mk_A : PySem.W.makesIn K CAk = true)
    (kc_A : PySem.W.keepIn K (.ref CAk) = true)
    (n1_A : PySem.W.findIn K (.ref CAk) "_stands" = some none)
    (at_Ai : PySem.W.findIn K (.ref CAk) "__init__" = some (some (.ref f_Ai)))
    (fn_Ai : PySem.W.isFn K (.ref f_Ai) = true)
    (l_Ai : K.lookup f_Ai = some ⟨oc_Ai, od_Ai, .func (PySem.W.fnOf "__init__" "Ask.__init__" (defArgs s_Ask___init__) (defBody s_Ask___init__) (defScope s_Ask___init__) .none kV_Ai dc_Ai pm_Ai an_Ai cd_Ai ct_Ai), sl_Ai⟩)
    (c_Ai : PySem.W.codeIn K cd_Ai "Ask.__init__" = true)
    (k_Ai : PySem.W.keepIn K (.ref f_Ai) = true)
    (i1_A : PySem.W.findIn K (.ref CAk) "__class__" = some (some (.builtin "object.__class__")))
    (i4_A : PySem.W.mroIn K CAk (.type "object") = some true)
    (cC_A : PySem.W.isClsIn K CAk = true)
    (tC_A : PySem.W.typeIn K (.ref CAk) = some (.type "type"))
    (g_K : PySem.W.nsIn K mainGlobals "Look" = some (some (.ref CLk)))
    (cC_K : PySem.W.isClsIn K CLk = true)
    (tC_K : PySem.W.typeIn K (.ref CLk) = some (.type "type"))
    (sb_PK : PySem.W.subIn K (.ref CPc) (.ref CLk) = some true)
    (sb_PA : PySem.W.subIn K (.ref CPc) (.ref CAk) = some false)
    (sb_AP : PySem.W.subIn K (.ref CAk) (.ref CPc) = some false)
    (ne_PK : CPc ≠ CLk)
    (ne_PA : CPc ≠ CAk) :
    LamX.LawAtS l w K CX0 11 63 "_law_script" mg fa h := by
  have e := hfa.symm.trans (PySem.W.mg_of X G a_law)
  cases e
  have N_isinstance : mg "isinstance" = none := PySem.W.mg_none_of X G z_isinstance
  have N_int : mg "int" = none := PySem.W.mg_none_of X G z_int
  have N_bool : mg "bool" = none := PySem.W.mg_none_of X G z_bool
  have N_str : mg "str" = none := PySem.W.mg_none_of X G z_str
  have N_sorted : mg "sorted" = none := PySem.W.mg_none_of X G z_sorted
  have N_tuple : mg "tuple" = none := PySem.W.mg_none_of X G z_tuple
  have N_range : mg "range" = none := PySem.W.mg_none_of X G z_range
  have N_sum : mg "sum" = none := PySem.W.mg_none_of X G z_sum
  have N_len : mg "len" = none := PySem.W.mg_none_of X G z_len
  have N_all : mg "all" = none := PySem.W.mg_none_of X G z_all
  have N_list : mg "list" = none := PySem.W.mg_none_of X G z_list
  have N_zip : mg "zip" = none := PySem.W.mg_none_of X G z_zip
  have N_max : mg "max" = none := PySem.W.mg_none_of X G z_max
  have N_min : mg "min" = none := PySem.W.mg_none_of X G z_min
  have N_dict : mg "dict" = none := PySem.W.mg_none_of X G z_dict
  have V_LETTERS : ∃ t, mg "LETTERS" = some (.str alphaS t) := ⟨_, PySem.W.mg_of X G v_LETTERS⟩
  have V_MOST_CHAINS : ∃ t, mg "MOST_CHAINS" = some (.int 1000 t) := ⟨_, PySem.W.mg_of X G v_MOST_CHAINS⟩
  have V_LONGEST_NAME : ∃ t, mg "LONGEST_NAME" = some (.int 8 t) := ⟨_, PySem.W.mg_of X G v_LONGEST_NAME⟩
  have D_is_whole : Df K mg "is_whole" s_is_whole ["value"] := ⟨f_is_whole, _, fun_mk (st := s_is_whole) l_is_whole c_is_whole k_is_whole, PySem.W.mg_of X G a_is_whole, (fun_mk (st := s_is_whole) l_is_whole c_is_whole k_is_whole).binds fun _ _ _ _ _ _ us hl => match us, hl with | [_], _ => rfl⟩
  have D_is_name : Df K mg "is_name" s_is_name ["value"] := ⟨f_is_name, _, fun_mk (st := s_is_name) l_is_name c_is_name k_is_name, PySem.W.mg_of X G a_is_name, (fun_mk (st := s_is_name) l_is_name c_is_name k_is_name).binds fun _ _ _ _ _ _ us hl => match us, hl with | [_], _ => rfl⟩
  have D_is_place : Df K mg "is_place" s_is_place ["value"] := ⟨f_is_place, _, fun_mk (st := s_is_place) l_is_place c_is_place k_is_place, PySem.W.mg_of X G a_is_place, (fun_mk (st := s_is_place) l_is_place c_is_place k_is_place).binds fun _ _ _ _ _ _ us hl => match us, hl with | [_], _ => rfl⟩
  have D_is_name_list : Df K mg "is_name_list" s_is_name_list ["value"] := ⟨f_is_name_list, _, fun_mk (st := s_is_name_list) l_is_name_list c_is_name_list k_is_name_list, PySem.W.mg_of X G a_is_name_list, (fun_mk (st := s_is_name_list) l_is_name_list c_is_name_list k_is_name_list).binds fun _ _ _ _ _ _ us hl => match us, hl with | [_], _ => rfl⟩
  have D_check_place : Df K mg "check_place" s_check_place ["value"] := ⟨f_check_place, _, fun_mk (st := s_check_place) l_check_place c_check_place k_check_place, PySem.W.mg_of X G a_check_place, (fun_mk (st := s_check_place) l_check_place c_check_place k_check_place).binds fun _ _ _ _ _ _ us hl => match us, hl with | [_], _ => rfl⟩
  have D_key_in : Df K mg "key_in" s_key_in ["form", "name"] := ⟨f_key_in, _, fun_mk (st := s_key_in) l_key_in c_key_in k_key_in, PySem.W.mg_of X G a_key_in, (fun_mk (st := s_key_in) l_key_in c_key_in k_key_in).binds fun _ _ _ _ _ _ us hl => match us, hl with | [_, _], _ => rfl⟩
  have D__are_letters : Df K mg "_are_letters" s__are_letters ["value"] := ⟨f__are_letters, _, fun_mk (st := s__are_letters) l__are_letters c__are_letters k__are_letters, PySem.W.mg_of X G a__are_letters, (fun_mk (st := s__are_letters) l__are_letters c__are_letters k__are_letters).binds fun _ _ _ _ _ _ us hl => match us, hl with | [_], _ => rfl⟩
  have D__are_chains : Df K mg "_are_chains" s__are_chains ["value"] := ⟨f__are_chains, _, fun_mk (st := s__are_chains) l__are_chains c__are_chains k__are_chains, PySem.W.mg_of X G a__are_chains, (fun_mk (st := s__are_chains) l__are_chains c__are_chains k__are_chains).binds fun _ _ _ _ _ _ us hl => match us, hl with | [_], _ => rfl⟩
  have D__rise : Df K mg "_rise" s__rise ["form", "mark", "names"] := ⟨f__rise, _, fun_mk (st := s__rise) l__rise c__rise k__rise, PySem.W.mg_of X G a__rise, (fun_mk (st := s__rise) l__rise c__rise k__rise).binds fun _ _ _ _ _ _ us hl => match us, hl with | [_, _, _], _ => rfl⟩
  have D__is_piece : Df K mg "_is_piece" s__is_piece ["folder", "form", "mark", "names", "ended"] := ⟨f__is_piece, _, fun_mk (st := s__is_piece) l__is_piece c__is_piece k__is_piece, PySem.W.mg_of X G a__is_piece, (fun_mk (st := s__is_piece) l__is_piece c__is_piece k__is_piece).binds fun _ _ _ _ _ _ us hl => match us, hl with | [_, _, _, _, _], _ => rfl⟩
  have D__are_answers : Df K mg "_are_answers" s__are_answers ["value"] := ⟨f__are_answers, _, fun_mk (st := s__are_answers) l__are_answers c__are_answers k__are_answers, PySem.W.mg_of X G a__are_answers, (fun_mk (st := s__are_answers) l__are_answers c__are_answers k__are_answers).binds fun _ _ _ _ _ _ us hl => match us, hl with | [_], _ => rfl⟩
  have D__law_purse : Df K mg "_law_purse" s__law_purse ["_law_script", "_law_at"] := ⟨f__law_purse, _, fun_mk (st := s__law_purse) l__law_purse c__law_purse k__law_purse, PySem.W.mg_of X G a__law_purse, (fun_mk (st := s__law_purse) l__law_purse c__law_purse k__law_purse).binds fun _ _ _ _ _ _ us hl => match us, hl with | [_, _], _ => rfl⟩
  have D__law_draw : Df K mg "_law_draw" s__law_draw ["_law_purse_here", "_law_many"] := ⟨f__law_draw, _, fun_mk (st := s__law_draw) l__law_draw c__law_draw k__law_draw, PySem.W.mg_of X G a__law_draw, (fun_mk (st := s__law_draw) l__law_draw c__law_draw k__law_draw).binds fun _ _ _ _ _ _ us hl => match us, hl with | [_, _], _ => rfl⟩
  have D__law_form : Df K mg "_law_form" s__law_form ["_law_purse_here"] := ⟨f__law_form, _, fun_mk (st := s__law_form) l__law_form c__law_form k__law_form, PySem.W.mg_of X G a__law_form, (fun_mk (st := s__law_form) l__law_form c__law_form k__law_form).binds fun _ _ _ _ _ _ us hl => match us, hl with | [_], _ => rfl⟩
  have D__law_name : Df K mg "_law_name" s__law_name ["_law_purse_here"] := ⟨f__law_name, _, fun_mk (st := s__law_name) l__law_name c__law_name k__law_name, PySem.W.mg_of X G a__law_name, (fun_mk (st := s__law_name) l__law_name c__law_name k__law_name).binds fun _ _ _ _ _ _ us hl => match us, hl with | [_], _ => rfl⟩
  have D__law_names : Df K mg "_law_names" s__law_names ["_law_purse_here", "_law_many"] := ⟨f__law_names, _, fun_mk (st := s__law_names) l__law_names c__law_names k__law_names, PySem.W.mg_of X G a__law_names, (fun_mk (st := s__law_names) l__law_names c__law_names k__law_names).binds fun _ _ _ _ _ _ us hl => match us, hl with | [_, _], _ => rfl⟩
  have D__law_key : Df K mg "_law_key" s__law_key ["_law_form_here", "_law_name_here"] := ⟨f__law_key, _, fun_mk (st := s__law_key) l__law_key c__law_key k__law_key, PySem.W.mg_of X G a__law_key, (fun_mk (st := s__law_key) l__law_key c__law_key k__law_key).binds fun _ _ _ _ _ _ us hl => match us, hl with | [_, _], _ => rfl⟩
  have D__law_world : Df K mg "_law_world" s__law_world ["_law_purse_here"] := ⟨f__law_world, _, fun_mk (st := s__law_world) l__law_world c__law_world k__law_world, PySem.W.mg_of X G a__law_world, (fun_mk (st := s__law_world) l__law_world c__law_world k__law_world).binds fun _ _ _ _ _ _ us hl => match us, hl with | [_], _ => rfl⟩
  have D__law_piece : Df K mg "_law_piece" s__law_piece ["_law_purse_here", "_law_places", "_law_there"] := ⟨f__law_piece, _, fun_mk (st := s__law_piece) l__law_piece c__law_piece k__law_piece, PySem.W.mg_of X G a__law_piece, (fun_mk (st := s__law_piece) l__law_piece c__law_piece k__law_piece).binds fun _ _ _ _ _ _ us hl => match us, hl with | [_, _, _], _ => rfl⟩
  have D__law_refused : Df K mg "_law_refused" s__law_refused ["_law_parts"] := ⟨f__law_refused, _, fun_mk (st := s__law_refused) l__law_refused c__law_refused k__law_refused, PySem.W.mg_of X G a__law_refused, (fun_mk (st := s__law_refused) l__law_refused c__law_refused k__law_refused).binds fun _ _ _ _ _ _ us hl => match us, hl with | [_], _ => rfl⟩
  have D__law_forms_apart : Df K mg "_law_forms_apart" s__law_forms_apart ["_law_folder", "_law_spec", "_law_names_here"] := ⟨f__law_forms_apart, _, fun_mk (st := s__law_forms_apart) l__law_forms_apart c__law_forms_apart k__law_forms_apart, PySem.W.mg_of X G a__law_forms_apart, (fun_mk (st := s__law_forms_apart) l__law_forms_apart c__law_forms_apart k__law_forms_apart).binds fun _ _ _ _ _ _ us hl => match us, hl with | [_, _, _], _ => rfl⟩
  have D__law_long : Df K mg "_law_long" s__law_long ["_law_folder", "_law_spec", "_law_many"] := ⟨f__law_long, _, fun_mk (st := s__law_long) l__law_long c__law_long k__law_long, PySem.W.mg_of X G a__law_long, (fun_mk (st := s__law_long) l__law_long c__law_long k__law_long).binds fun _ _ _ _ _ _ us hl => match us, hl with | [_, _, _], _ => rfl⟩
  have D__law_five : Df K mg "_law_five" s__law_five ["_law_piece_here"] := ⟨f__law_five, _, fun_mk (st := s__law_five) l__law_five c__law_five k__law_five, PySem.W.mg_of X G a__law_five, (fun_mk (st := s__law_five) l__law_five c__law_five k__law_five).binds fun _ _ _ _ _ _ us hl => match us, hl with | [_], _ => rfl⟩
  have D__law_bad_folders : Df K mg "_law_bad_folders" s__law_bad_folders ["_law_folder"] := ⟨f__law_bad_folders, _, fun_mk (st := s__law_bad_folders) l__law_bad_folders c__law_bad_folders k__law_bad_folders, PySem.W.mg_of X G a__law_bad_folders, (fun_mk (st := s__law_bad_folders) l__law_bad_folders c__law_bad_folders k__law_bad_folders).binds fun _ _ _ _ _ _ us hl => match us, hl with | [_], _ => rfl⟩
  have D__law_bad : Df K mg "_law_bad" s__law_bad ["_law_parts", "_law_spec"] := ⟨f__law_bad, _, fun_mk (st := s__law_bad) l__law_bad c__law_bad k__law_bad, PySem.W.mg_of X G a__law_bad, (fun_mk (st := s__law_bad) l__law_bad c__law_bad k__law_bad).binds fun _ _ _ _ _ _ us hl => match us, hl with | [_, _], _ => rfl⟩
  have D__law_changed : Df K mg "_law_changed" s__law_changed ["_law_parts", "_law_spec"] := ⟨f__law_changed, _, fun_mk (st := s__law_changed) l__law_changed c__law_changed k__law_changed, PySem.W.mg_of X G a__law_changed, (fun_mk (st := s__law_changed) l__law_changed c__law_changed k__law_changed).binds fun _ _ _ _ _ _ us hl => match us, hl with | [_, _], _ => rfl⟩
  have FD_InvalidForm : FunD K "__init__" "InvalidForm.__init__" (defArgs s_InvalidForm___init__) (defBody s_InvalidForm___init__) (defScope s_InvalidForm___init__) [.non] [] f_x_InvalidForm _ := ⟨⟨_, _, _, _, _, _, _, _, _, _, rfl, l_x_InvalidForm, c_x_InvalidForm, .inr ⟨by simp, T_x_InvalidForm, _, [.none], _, rfl, lT_InvalidForm, rfl, .cons rfl .nil⟩, .inl rfl⟩, k_x_InvalidForm⟩
  have BD_InvalidForm := exc_binds FD_InvalidForm (fld := "value") fun _ _ _ _ _ _ _ us its hu hi => match us, its, hu, hi with | [_, _], [_], _, _ => ⟨_, rfl, rfl⟩
  have XF_InvalidForm : ExcF K mg "InvalidForm" "value" C_InvalidForm :=
    { g := PySem.W.mg_of X G g_InvalidForm, T := ⟨⟨_, _, _, _, _, _, _, _, _, _, _, _, _, _, _, xL_InvalidForm, ve_own⟩, sa_InvalidForm, eC_InvalidForm, tC_InvalidForm, kC_InvalidForm⟩, no := no_InvalidForm, xf := ⟨ga_InvalidForm, gg_InvalidForm, eC_InvalidForm, hC_InvalidForm⟩,
      te := exm_self eC_InvalidForm iC_InvalidForm tC_InvalidForm sC_InvalidForm, init := ⟨f_x_InvalidForm, _, _, _, _, _, _, _, _, in_InvalidForm, ti_InvalidForm, FD_InvalidForm, sc_InvalidForm___init__, BD_InvalidForm⟩ }
  have FD_InvalidLook : FunD K "__init__" "InvalidLook.__init__" (defArgs s_InvalidLook___init__) (defBody s_InvalidLook___init__) (defScope s_InvalidLook___init__) [.non] [] f_x_InvalidLook _ := ⟨⟨_, _, _, _, _, _, _, _, _, _, rfl, l_x_InvalidLook, c_x_InvalidLook, .inr ⟨by simp, T_x_InvalidLook, _, [.none], _, rfl, lT_InvalidLook, rfl, .cons rfl .nil⟩, .inl rfl⟩, k_x_InvalidLook⟩
  have BD_InvalidLook := exc_binds FD_InvalidLook (fld := "value") fun _ _ _ _ _ _ _ us its hu hi => match us, its, hu, hi with | [_, _], [_], _, _ => ⟨_, rfl, rfl⟩
  have XF_InvalidLook : ExcF K mg "InvalidLook" "value" C_InvalidLook :=
    { g := PySem.W.mg_of X G g_InvalidLook, T := ⟨⟨_, _, _, _, _, _, _, _, _, _, _, _, _, _, _, xL_InvalidLook, ve_own⟩, sa_InvalidLook, eC_InvalidLook, tC_InvalidLook, kC_InvalidLook⟩, no := no_InvalidLook, xf := ⟨ga_InvalidLook, gg_InvalidLook, eC_InvalidLook, hC_InvalidLook⟩,
      te := exm_self eC_InvalidLook iC_InvalidLook tC_InvalidLook sC_InvalidLook, init := ⟨f_x_InvalidLook, _, _, _, _, _, _, _, _, in_InvalidLook, ti_InvalidLook, FD_InvalidLook, sc_InvalidLook___init__, BD_InvalidLook⟩ }
  have FD_InvalidPlace : FunD K "__init__" "InvalidPlace.__init__" (defArgs s_InvalidPlace___init__) (defBody s_InvalidPlace___init__) (defScope s_InvalidPlace___init__) [.non] [] f_x_InvalidPlace _ := ⟨⟨_, _, _, _, _, _, _, _, _, _, rfl, l_x_InvalidPlace, c_x_InvalidPlace, .inr ⟨by simp, T_x_InvalidPlace, _, [.none], _, rfl, lT_InvalidPlace, rfl, .cons rfl .nil⟩, .inl rfl⟩, k_x_InvalidPlace⟩
  have BD_InvalidPlace := exc_binds FD_InvalidPlace (fld := "value") fun _ _ _ _ _ _ _ us its hu hi => match us, its, hu, hi with | [_, _], [_], _, _ => ⟨_, rfl, rfl⟩
  have XF_InvalidPlace : ExcF K mg "InvalidPlace" "value" C_InvalidPlace :=
    { g := PySem.W.mg_of X G g_InvalidPlace, T := ⟨⟨_, _, _, _, _, _, _, _, _, _, _, _, _, _, _, xL_InvalidPlace, ve_own⟩, sa_InvalidPlace, eC_InvalidPlace, tC_InvalidPlace, kC_InvalidPlace⟩, no := no_InvalidPlace, xf := ⟨ga_InvalidPlace, gg_InvalidPlace, eC_InvalidPlace, hC_InvalidPlace⟩,
      te := exm_self eC_InvalidPlace iC_InvalidPlace tC_InvalidPlace sC_InvalidPlace, init := ⟨f_x_InvalidPlace, _, _, _, _, _, _, _, _, in_InvalidPlace, ti_InvalidPlace, FD_InvalidPlace, sc_InvalidPlace___init__, BD_InvalidPlace⟩ }
  have FDF : FunD K "__init__" "Form.__init__" (defArgs s_Form___init__) (defBody s_Form___init__) (defScope s_Form___init__) [.str alphaS, .int 1] [] f_Fi _ := ⟨⟨_, _, _, _, _, _, _, _, _, _, rfl, l_Fi, c_Fi, .inr ⟨by simp, T_Fi, _, [.str alphaS t1F, .int 1 t2F], _, rfl, lT_F, rfl, .cons ⟨_, rfl⟩ (.cons ⟨_, rfl⟩ .nil)⟩, .inl rfl⟩, k_Fi⟩
  obtain ⟨d0F, v0F, b0F⟩ := FDF.binds1 (ps := ["self", "letters", "chains"]) 3 2 (by simp) rfl fun _ _ _ _ _ _ _ us its hu hi => match us, its, hu, hi with | [_, _, _], [_, _], _, _ => ⟨_, rfl, rfl⟩
  cases v0F
  obtain ⟨d1F, v1F, b1F⟩ := FDF.binds1 (ps := ["self", "letters", "chains"]) 2 1 (by simp) rfl fun _ _ _ _ _ _ _ us its hu hi => match us, its, hu, hi with | [_, _], [_, _], _, _ => ⟨_, rfl, rfl⟩
  obtain ⟨d2F, v2F, b2F⟩ := FDF.binds1 (ps := ["self", "letters", "chains"]) 1 0 (by simp) rfl fun _ _ _ _ _ _ _ us its hu hi => match us, its, hu, hi with | [_], [_, _], _, _ => ⟨_, rfl, rfl⟩
  have FL := fun_mk (st := s_Form_letters) l_FL c_FL k_FL
  have FCh := fun_mk (st := s_Form_chains) l_FC c_FC k_FC
  have FE := fun_mk (st := s_Form___eq__) l_FE c_FE k_FE
  have FC : FormC K mg CF :=
    { cl := ⟨pg_F, hd_F, po_F, sa_F⟩, g := PySem.W.mg_of X G g_F, makes := mk_F, kp := kc_F, nL := nL_F, nC := nC_F,
      init := ⟨f_Fi, _, d1F, d2F, in_F, if_F, FDF, b0F, v1F, b1F, v2F, b2F⟩,
      pL := ⟨p_FL, f_FL, _, ⟨at_FL, gt_FL, tk_FL, ⟨_, rc_FL⟩⟩, FL, FL.binds (ps := ["self"]) fun _ _ _ _ _ _ us hl => match us, hl with | [_], _ => rfl⟩, pC := ⟨p_FC, f_FC, _, ⟨at_FC, gt_FC, tk_FC, ⟨_, rc_FC⟩⟩, FCh, FCh.binds (ps := ["self"]) fun _ _ _ _ _ _ us hl => match us, hl with | [_], _ => rfl⟩,
      eq := ⟨f_FE, _, eq_F, ie_F, FE, FE.binds (ps := ["self", "other"]) fun _ _ _ _ _ _ us hl => match us, hl with | [_, _], _ => rfl⟩, i1 := i1_F, i2 := i2_F, i3 := i3_F, i4 := i4_F, kY := kit_own, kN := fun _ h => kit_no cC_F tC_F h, nf := fun _ h => nf_kd h, nfS := nf_own }
  have FC_L : FunC K "_law_ordered" "_law_ordered" s__law_ordered f_L _ c_Lo := ⟨⟨_, _, _, _, _, _, _, _, rfl, l_L, c_L⟩, k_L⟩
  have Cl_P : Cls K CPc := ⟨pg_P, hd_P, po_P, sa_P⟩
  have Fn_Pi := fun_mk (st := s_Piece___init__) l_Pi c_Pi k_Pi
  have Bn_Pi := Fn_Pi.binds (ps := ["self", "folder", "form", "mark", "names", "ended"]) fun _ _ _ _ _ _ us hl => match us, hl with | [_, _, _, _, _, _], _ => rfl
  have Fn_Ps := fun_mk (st := s_Piece_says) l_Ps c_Ps k_Ps
  have Bn_Ps := Fn_Ps.binds (ps := ["self", "place"]) fun _ _ _ _ _ _ us hl => match us, hl with | [_, _], _ => rfl
  have Fn_Pt := fun_mk (st := s_Piece_standing) l_Pt c_Pt k_Pt
  have Bn_Pt := Fn_Pt.binds (ps := ["self"]) fun _ _ _ _ _ _ us hl => match us, hl with | [_], _ => rfl
  have Fn_Pc := fun_mk (st := s_Piece___contains__) l_Pc c_Pc k_Pc
  have Bn_Pc := Fn_Pc.binds (ps := ["self", "place"]) fun _ _ _ _ _ _ us hl => match us, hl with | [_, _], _ => rfl
  have Fn_Pq := fun_mk (st := s_Piece___eq__) l_Pq c_Pq k_Pq
  have Bn_Pq := Fn_Pq.binds (ps := ["self", "other"]) fun _ _ _ _ _ _ us hl => match us, hl with | [_, _], _ => rfl
  have F_Rfolder := fun_mk (st := s_Piece_folder) l_Rfolder c_Rfolder k_Rfolder
  have F_Rform := fun_mk (st := s_Piece_form) l_Rform c_Rform k_Rform
  have F_Rmark := fun_mk (st := s_Piece_mark) l_Rmark c_Rmark k_Rmark
  have F_Rnames := fun_mk (st := s_Piece_names) l_Rnames c_Rnames k_Rnames
  have F_Rended := fun_mk (st := s_Piece_ended) l_Rended c_Rended k_Rended
  have Cl_A : Cls K CAk := ⟨pg_A, hd_A, po_A, sa_A⟩
  have Fn_Ai := fun_mk (st := s_Ask___init__) l_Ai c_Ai k_Ai
  have Bn_Ai := Fn_Ai.binds (ps := ["self", "answers"]) fun _ _ _ _ _ _ us hl => match us, hl with | [_, _], _ => rfl
  have PC : PieceC K mg CPc := ⟨Cl_P, n1_P, n2_P, n3_P, n4_P, n5_P, n6_P, n7_P⟩
  have PG : PieceG K mg CPc := ⟨PySem.W.mg_of X G g_P, mk_P, kc_P, f_Pi, _, at_Pi, fn_Pi, Fn_Pi, Bn_Pi⟩
  have PM : PieceM K CPc := ⟨f_Pc, _, at_Pc, fn_Pc, Fn_Pc, Bn_Pc⟩
  have PT : PieceT K CPc := ⟨f_Ps, _, ⟨at_Ps, fn_Ps, k_Ps⟩, Fn_Ps, Bn_Ps⟩
  have PS : PieceS K CPc := ⟨f_Pt, _, ⟨at_Pt, fn_Pt, k_Pt⟩, Fn_Pt, Bn_Pt⟩
  have PP : PieceP K CPc := ⟨⟨p_Rfolder, f_Rfolder, _, ⟨at_Rfolder, gt_Rfolder, tk_Rfolder, ⟨_, rc_Rfolder⟩⟩, F_Rfolder, F_Rfolder.binds (ps := ["self"]) fun _ _ _ _ _ _ us hl => match us, hl with | [_], _ => rfl⟩, ⟨p_Rform, f_Rform, _, ⟨at_Rform, gt_Rform, tk_Rform, ⟨_, rc_Rform⟩⟩, F_Rform, F_Rform.binds (ps := ["self"]) fun _ _ _ _ _ _ us hl => match us, hl with | [_], _ => rfl⟩, ⟨p_Rmark, f_Rmark, _, ⟨at_Rmark, gt_Rmark, tk_Rmark, ⟨_, rc_Rmark⟩⟩, F_Rmark, F_Rmark.binds (ps := ["self"]) fun _ _ _ _ _ _ us hl => match us, hl with | [_], _ => rfl⟩, ⟨p_Rnames, f_Rnames, _, ⟨at_Rnames, gt_Rnames, tk_Rnames, ⟨_, rc_Rnames⟩⟩, F_Rnames, F_Rnames.binds (ps := ["self"]) fun _ _ _ _ _ _ us hl => match us, hl with | [_], _ => rfl⟩, ⟨p_Rended, f_Rended, _, ⟨at_Rended, gt_Rended, tk_Rended, ⟨_, rc_Rended⟩⟩, F_Rended, F_Rended.binds (ps := ["self"]) fun _ _ _ _ _ _ us hl => match us, hl with | [_], _ => rfl⟩⟩
  have PE' : PieceE K CPc := ⟨⟨f_Pq, _, at_Pq, fn_Pq, Fn_Pq, Bn_Pq⟩, kit_own, i1_P, i2_F, i3_F, i4_P⟩
  have PN : PieceN K CPc := ⟨nf_own⟩
  have AC : AskC K mg CAk := ⟨Cl_A, n1_A, PySem.W.mg_of X G g_A, mk_A, kc_A, ⟨f_Ai, _, at_Ai, fn_Ai, Fn_Ai, Bn_Ai⟩, i1_A, i2_F, i3_F, i4_A⟩
  have L5 : Law5 K mg CPc CLk CAk := ⟨PySem.W.mg_of X G g_K, kit_sub ne_PK cC_K tC_K sb_PK, kit_sub ne_PA cC_A tC_A sb_PA, kit_sub ne_PA.symm cC_P tC_P sb_AP, kit_no cC_P tC_P .tup, kit_no cC_P tC_P .int, nf_sub sb_AP, nf_kd .tup, nf_kd .int⟩
  have YL : TxtY K mg c_Lo := ⟨trivial, f_L, _, FC_L, PySem.W.mg_of X G a_L, FC_L.fn.binds (ps := ["_law_form_here", "_law_names_here"]) fun _ _ _ _ _ _ us hl => match us, hl with | [_, _], _ => rfl⟩
  have T0 : Txt K mg := ⟨N_isinstance, N_int, N_bool, N_str, N_sorted, V_LETTERS, V_MOST_CHAINS, N_tuple, D_is_whole, D__are_letters, D__are_chains⟩
  have L : TxtL K mg := ⟨N_range, N_sum, D__law_purse, D__law_draw, D__law_form⟩
  have NN : TxtN K mg := ⟨N_len, N_all, V_LONGEST_NAME, D_is_name, D__law_name, D__law_names⟩
  have TK : TxtK K mg := ⟨D_key_in, D__law_key⟩
  have TS : TxtS K mg := ⟨N_list, D_is_name_list⟩
  have I : TxtI K mg := ⟨D_is_place, D_check_place⟩
  have BW : TxtB K mg := ⟨D__law_world⟩
  have R : TxtR K mg := ⟨N_zip, D__rise⟩
  have C6 : TxtC K mg := ⟨D__is_piece⟩
  have R6 : TxtR6 K mg := ⟨N_min, N_max, D__law_piece⟩
  have F5 : TxtF5 K mg := ⟨D__law_refused⟩
  have M5 : TxtM5 K mg := ⟨D__law_five⟩
  have O5 : TxtO5 K mg := ⟨D__law_forms_apart⟩
  have T5 : TxtT5 K mg := ⟨D__law_long⟩
  have A5 : TxtA5 K mg := ⟨N_dict, D__are_answers⟩
  have U5 : TxtU5 K mg := ⟨D__law_changed⟩
  have B5 : TxtB5b K mg := ⟨D__law_bad_folders, D__law_bad⟩
  refine ⟨PySem.W.fnOf "law" "law" (defArgs s_law) (defBody s_law) (defScope s_law) .none kV_law dc_law pm_law an_law cd_law ct_law, [(c_Lo, P_L)], spLaw K [(P_L, fun _ _ => qL)], fun p hp => ?_, fun p hp => ?_, fun p hp => ?_, fun s v => .of_eq rfl, fun H a ns hl _ hT hS => ⟨a, ns, rfl, hS, hl, fun p hp => ?_, fun _ => rfl⟩, fun base _ _ hB => ?_⟩
  · rw [List.mem_singleton.mp hp]; exact t_L
  · rw [List.mem_singleton.mp hp]; exact n_L
  · rw [List.mem_singleton.mp hp]; exact PySem.W.codeHd_of_K X hd_L
  · rw [List.mem_singleton.mp hp]; exact NdefX.TabN.nil (hT (c_Lo, P_L) List.mem_cons_self)
  · have B : Tb1 base mg [(P_L, fun _ _ => qL)] c_Lo P_L := ⟨hB (c_Lo, P_L) List.mem_cons_self, List.mem_cons_self, fun p hp _ => by rw [List.mem_singleton.mp hp]⟩
    exact ok_law T0 L NN TK TS I BW R C6 R6 F5 M5 O5 T5 A5 U5 B5 YL FC PC PG PP PE' PN PM PT PS AC L5 XF_InvalidForm XF_InvalidLook XF_InvalidPlace B (fun_mk (st := s_law) l_law c_law k_law)
end Bt
open PySem PySem.W PyProof.Rows
set_option maxRecDepth 100000 in
set_option maxHeartbeats 0 in
theorem PySem.Challenge.cw_betweenlists_k05_pieces_made_holds : PySem.Challenge.rw_betweenlists_k05_pieces_made.Holds := by
  w_on; o_law; k_head; (case hw => w_witness2)
  k_fill
  refine LamX.walk_ofTs (l := PySem.Challenge.rw_betweenlists_k05_pieces_made) (n := 63) (k := 11) (x := "_law_script") (CX := fun _ => L2.CX0) rfl (by decide) rfl ⟨rfl, by decide, by decide⟩ (fun w h Y => PySem.W.km_in_of Y) ?F (fun _ _ _ _ _ z => z)
  case F =>
    intro w mg fa h Y KX G hmg
    have hT8 := PySem.W.km_tabs_of Y
    refine' Bt.all_mk KX G hmg ?z_isinstance ?z_int ?z_bool ?z_str ?z_sorted ?z_tuple ?z_range ?z_sum ?z_len ?z_all ?z_list ?z_zip ?z_max ?z_min ?z_dict ?v_LETTERS ?v_MOST_CHAINS ?v_LONGEST_NAME ?a_is_whole ?l_is_whole ?c_is_whole ?k_is_whole ?a_is_name ?l_is_name ?c_is_name ?k_is_name ?a_is_place ?l_is_place ?c_is_place ?k_is_place ?a_is_name_list ?l_is_name_list ?c_is_name_list ?k_is_name_list ?a_check_place ?l_check_place ?c_check_place ?k_check_place ?a_key_in ?l_key_in ?c_key_in ?k_key_in ?a__are_letters ?l__are_letters ?c__are_letters ?k__are_letters ?a__are_chains ?l__are_chains ?c__are_chains ?k__are_chains ?a__rise ?l__rise ?c__rise ?k__rise ?a__is_piece ?l__is_piece ?c__is_piece ?k__is_piece ?a__are_answers ?l__are_answers ?c__are_answers ?k__are_answers ?a__law_purse ?l__law_purse ?c__law_purse ?k__law_purse ?a__law_draw ?l__law_draw ?c__law_draw ?k__law_draw ?a__law_form ?l__law_form ?c__law_form ?k__law_form ?a__law_name ?l__law_name ?c__law_name ?k__law_name ?a__law_names ?l__law_names ?c__law_names ?k__law_names ?a__law_key ?l__law_key ?c__law_key ?k__law_key ?a__law_world ?l__law_world ?c__law_world ?k__law_world ?a__law_piece ?l__law_piece ?c__law_piece ?k__law_piece ?a__law_refused ?l__law_refused ?c__law_refused ?k__law_refused ?a__law_forms_apart ?l__law_forms_apart ?c__law_forms_apart ?k__law_forms_apart ?a__law_long ?l__law_long ?c__law_long ?k__law_long ?a__law_five ?l__law_five ?c__law_five ?k__law_five ?a__law_bad_folders ?l__law_bad_folders ?c__law_bad_folders ?k__law_bad_folders ?a__law_bad ?l__law_bad ?c__law_bad ?k__law_bad ?a__law_changed ?l__law_changed ?c__law_changed ?k__law_changed ?a_law ?l_law ?c_law ?k_law ?g_InvalidForm ?xL_InvalidForm ?sa_InvalidForm ?ga_InvalidForm ?gg_InvalidForm ?no_InvalidForm ?in_InvalidForm ?ti_InvalidForm ?l_x_InvalidForm ?c_x_InvalidForm ?k_x_InvalidForm ?lT_InvalidForm ?kC_InvalidForm ?eC_InvalidForm ?tC_InvalidForm ?hC_InvalidForm ?iC_InvalidForm ?sC_InvalidForm ?g_InvalidLook ?xL_InvalidLook ?sa_InvalidLook ?ga_InvalidLook ?gg_InvalidLook ?no_InvalidLook ?in_InvalidLook ?ti_InvalidLook ?l_x_InvalidLook ?c_x_InvalidLook ?k_x_InvalidLook ?lT_InvalidLook ?kC_InvalidLook ?eC_InvalidLook ?tC_InvalidLook ?hC_InvalidLook ?iC_InvalidLook ?sC_InvalidLook ?g_InvalidPlace ?xL_InvalidPlace ?sa_InvalidPlace ?ga_InvalidPlace ?gg_InvalidPlace ?no_InvalidPlace ?in_InvalidPlace ?ti_InvalidPlace ?l_x_InvalidPlace ?c_x_InvalidPlace ?k_x_InvalidPlace ?lT_InvalidPlace ?kC_InvalidPlace ?eC_InvalidPlace ?tC_InvalidPlace ?hC_InvalidPlace ?iC_InvalidPlace ?sC_InvalidPlace ?g_F ?pg_F ?hd_F ?po_F ?sa_F ?mk_F ?kc_F ?nL_F ?nC_F ?in_F ?if_F ?l_Fi ?c_Fi ?k_Fi ?lT_F ?at_FL ?gt_FL ?tk_FL ?rc_FL ?l_FL ?c_FL ?k_FL ?at_FC ?gt_FC ?tk_FC ?rc_FC ?l_FC ?c_FC ?k_FC ?eq_F ?ie_F ?l_FE ?c_FE ?k_FE ?i1_F ?i2_F ?i3_F ?i4_F ?cC_F ?tC_F ?a_L ?l_L ?c_L ?k_L ?lc_L ?p_L ?hd_L ?n_L ?t_L ?g_P ?pg_P ?hd_P ?po_P ?sa_P ?mk_P ?kc_P ?n1_P ?n2_P ?n3_P ?n4_P ?n5_P ?n6_P ?n7_P ?at_Pi ?fn_Pi ?l_Pi ?c_Pi ?k_Pi ?at_Ps ?fn_Ps ?l_Ps ?c_Ps ?k_Ps ?at_Pt ?fn_Pt ?l_Pt ?c_Pt ?k_Pt ?at_Pc ?fn_Pc ?l_Pc ?c_Pc ?k_Pc ?at_Pq ?fn_Pq ?l_Pq ?c_Pq ?k_Pq ?at_Rfolder ?gt_Rfolder ?tk_Rfolder ?rc_Rfolder ?l_Rfolder ?c_Rfolder ?k_Rfolder ?at_Rform ?gt_Rform ?tk_Rform ?rc_Rform ?l_Rform ?c_Rform ?k_Rform ?at_Rmark ?gt_Rmark ?tk_Rmark ?rc_Rmark ?l_Rmark ?c_Rmark ?k_Rmark ?at_Rnames ?gt_Rnames ?tk_Rnames ?rc_Rnames ?l_Rnames ?c_Rnames ?k_Rnames ?at_Rended ?gt_Rended ?tk_Rended ?rc_Rended ?l_Rended ?c_Rended ?k_Rended ?i1_P ?i4_P ?cC_P ?tC_P ?g_A ?pg_A ?hd_A ?po_A ?sa_A ?mk_A ?kc_A ?n1_A ?at_Ai ?fn_Ai ?l_Ai ?c_Ai ?k_Ai ?i1_A ?i4_A ?cC_A ?tC_A ?g_K ?cC_K ?tC_K ?sb_PK ?sb_PA ?sb_AP ?ne_PK ?ne_PA
    (case z_isinstance => k_is); (case z_int => k_is); (case z_bool => k_is); (case z_str => k_is); (case z_sorted => k_is); (case z_tuple => k_is)
    (case z_range => k_is); (case z_sum => k_is); (case z_len => k_is); (case z_all => k_is); (case z_list => k_is); (case z_zip => k_is)
    (case z_max => k_is); (case z_min => k_is); (case z_dict => k_is); (case v_LETTERS => k_is); (case v_MOST_CHAINS => k_is); (case v_LONGEST_NAME => k_is)
    (case a_is_whole => k_is); (case l_is_whole => k_is); (case c_is_whole => k_is); (case k_is_whole => k_is); (case a_is_name => k_is); (case l_is_name => k_is)
    (case c_is_name => k_is); (case k_is_name => k_is); (case a_is_place => k_is); (case l_is_place => k_is); (case c_is_place => k_is); (case k_is_place => k_is)
    (case a_is_name_list => k_is); (case l_is_name_list => k_is); (case c_is_name_list => k_is); (case k_is_name_list => k_is); (case a_check_place => k_is); (case l_check_place => k_is)
    (case c_check_place => k_is); (case k_check_place => k_is); (case a_key_in => k_is); (case l_key_in => k_is); (case c_key_in => k_is); (case k_key_in => k_is)
    (case a__are_letters => k_is); (case l__are_letters => k_is); (case c__are_letters => k_is); (case k__are_letters => k_is); (case a__are_chains => k_is); (case l__are_chains => k_is)
    (case c__are_chains => k_is); (case k__are_chains => k_is); (case a__rise => k_is); (case l__rise => k_is); (case c__rise => k_is); (case k__rise => k_is)
    (case a__is_piece => k_is); (case l__is_piece => k_is); (case c__is_piece => k_is); (case k__is_piece => k_is); (case a__are_answers => k_is); (case l__are_answers => k_is)
    (case c__are_answers => k_is); (case k__are_answers => k_is); (case a__law_purse => k_is); (case l__law_purse => k_is); (case c__law_purse => k_is); (case k__law_purse => k_is)
    (case a__law_draw => k_is); (case l__law_draw => k_is); (case c__law_draw => k_is); (case k__law_draw => k_is); (case a__law_form => k_is); (case l__law_form => k_is)
    (case c__law_form => k_is); (case k__law_form => k_is); (case a__law_name => k_is); (case l__law_name => k_is); (case c__law_name => k_is); (case k__law_name => k_is)
    (case a__law_names => k_is); (case l__law_names => k_is); (case c__law_names => k_is); (case k__law_names => k_is); (case a__law_key => k_is); (case l__law_key => k_is)
    (case c__law_key => k_is); (case k__law_key => k_is); (case a__law_world => k_is); (case l__law_world => k_is); (case c__law_world => k_is); (case k__law_world => k_is)
    (case a__law_piece => k_is); (case l__law_piece => k_is); (case c__law_piece => k_is); (case k__law_piece => k_is); (case a__law_refused => k_is); (case l__law_refused => k_is)
    (case c__law_refused => k_is); (case k__law_refused => k_is); (case a__law_forms_apart => k_is); (case l__law_forms_apart => k_is); (case c__law_forms_apart => k_is); (case k__law_forms_apart => k_is)
    (case a__law_long => k_is); (case l__law_long => k_is); (case c__law_long => k_is); (case k__law_long => k_is); (case a__law_five => k_is); (case l__law_five => k_is)
    (case c__law_five => k_is); (case k__law_five => k_is); (case a__law_bad_folders => k_is); (case l__law_bad_folders => k_is); (case c__law_bad_folders => k_is); (case k__law_bad_folders => k_is)
    (case a__law_bad => k_is); (case l__law_bad => k_is); (case c__law_bad => k_is); (case k__law_bad => k_is); (case a__law_changed => k_is); (case l__law_changed => k_is)
    (case c__law_changed => k_is); (case k__law_changed => k_is); (case a_law => k_is); (case l_law => k_is); (case c_law => k_is); (case k_law => k_is)
    (case g_InvalidForm => k_is); (case xL_InvalidForm => k_is); (case sa_InvalidForm => k_is); (case ga_InvalidForm => k_is); (case gg_InvalidForm => k_is); (case no_InvalidForm => k_is)
    (case in_InvalidForm => k_is); (case ti_InvalidForm => k_is); (case l_x_InvalidForm => k_is); (case c_x_InvalidForm => k_is); (case k_x_InvalidForm => k_is); (case lT_InvalidForm => k_is)
    (case kC_InvalidForm => k_is); (case eC_InvalidForm => k_is); (case tC_InvalidForm => k_is); (case hC_InvalidForm => k_is); (case iC_InvalidForm => k_is); (case sC_InvalidForm => first | rfl | k_is)
    (case g_InvalidLook => k_is); (case xL_InvalidLook => k_is); (case sa_InvalidLook => k_is); (case ga_InvalidLook => k_is); (case gg_InvalidLook => k_is); (case no_InvalidLook => k_is)
    (case in_InvalidLook => k_is); (case ti_InvalidLook => k_is); (case l_x_InvalidLook => k_is); (case c_x_InvalidLook => k_is); (case k_x_InvalidLook => k_is); (case lT_InvalidLook => k_is)
    (case kC_InvalidLook => k_is); (case eC_InvalidLook => k_is); (case tC_InvalidLook => k_is); (case hC_InvalidLook => k_is); (case iC_InvalidLook => k_is); (case sC_InvalidLook => first | rfl | k_is)
    (case g_InvalidPlace => k_is); (case xL_InvalidPlace => k_is); (case sa_InvalidPlace => k_is); (case ga_InvalidPlace => k_is); (case gg_InvalidPlace => k_is); (case no_InvalidPlace => k_is)
    (case in_InvalidPlace => k_is); (case ti_InvalidPlace => k_is); (case l_x_InvalidPlace => k_is); (case c_x_InvalidPlace => k_is); (case k_x_InvalidPlace => k_is); (case lT_InvalidPlace => k_is)
    (case kC_InvalidPlace => k_is); (case eC_InvalidPlace => k_is); (case tC_InvalidPlace => k_is); (case hC_InvalidPlace => k_is); (case iC_InvalidPlace => k_is); (case sC_InvalidPlace => first | rfl | k_is)
    (case g_F => k_is); (case pg_F => k_is); (case hd_F => k_is); (case po_F => k_is); (case sa_F => k_is); (case mk_F => k_is)
    (case kc_F => k_is); (case nL_F => k_is); (case nC_F => k_is); (case in_F => k_is); (case if_F => k_is); (case l_Fi => k_is)
    (case c_Fi => k_is); (case k_Fi => k_is); (case lT_F => k_is); (case at_FL => k_is); (case gt_FL => k_is); (case tk_FL => k_is)
    (case rc_FL => k_is); (case l_FL => k_is); (case c_FL => k_is); (case k_FL => k_is); (case at_FC => k_is); (case gt_FC => k_is)
    (case tk_FC => k_is); (case rc_FC => k_is); (case l_FC => k_is); (case c_FC => k_is); (case k_FC => k_is); (case eq_F => k_is)
    (case ie_F => k_is); (case l_FE => k_is); (case c_FE => k_is); (case k_FE => k_is); (case i1_F => k_is); (case i2_F => k_is)
    (case i3_F => k_is); (case i4_F => k_is); (case cC_F => k_is); (case tC_F => k_is); (case a_L => k_is); (case l_L => k_is)
    (case c_L => k_is); (case k_L => k_is); (case lc_L => k_is); (case p_L => rfl); (case hd_L => first | kernel_rfl | decide +kernel); (case n_L => first | rfl | kernel_rfl | decide +kernel)
    (case t_L => exact hT8 _ (by decide)); (case g_P => k_is); (case pg_P => k_is); (case hd_P => k_is); (case po_P => k_is); (case sa_P => k_is)
    (case mk_P => k_is); (case kc_P => k_is); (case n1_P => k_is); (case n2_P => k_is); (case n3_P => k_is); (case n4_P => k_is)
    (case n5_P => k_is); (case n6_P => k_is); (case n7_P => k_is); (case at_Pi => k_is); (case fn_Pi => k_is); (case l_Pi => k_is)
    (case c_Pi => k_is); (case k_Pi => k_is); (case at_Ps => k_is); (case fn_Ps => k_is); (case l_Ps => k_is); (case c_Ps => k_is)
    (case k_Ps => k_is); (case at_Pt => k_is); (case fn_Pt => k_is); (case l_Pt => k_is); (case c_Pt => k_is); (case k_Pt => k_is)
    (case at_Pc => k_is); (case fn_Pc => k_is); (case l_Pc => k_is); (case c_Pc => k_is); (case k_Pc => k_is); (case at_Pq => k_is)
    (case fn_Pq => k_is); (case l_Pq => k_is); (case c_Pq => k_is); (case k_Pq => k_is); (case at_Rfolder => k_is); (case gt_Rfolder => k_is)
    (case tk_Rfolder => k_is); (case rc_Rfolder => k_is); (case l_Rfolder => k_is); (case c_Rfolder => k_is); (case k_Rfolder => k_is); (case at_Rform => k_is)
    (case gt_Rform => k_is); (case tk_Rform => k_is); (case rc_Rform => k_is); (case l_Rform => k_is); (case c_Rform => k_is); (case k_Rform => k_is)
    (case at_Rmark => k_is); (case gt_Rmark => k_is); (case tk_Rmark => k_is); (case rc_Rmark => k_is); (case l_Rmark => k_is); (case c_Rmark => k_is)
    (case k_Rmark => k_is); (case at_Rnames => k_is); (case gt_Rnames => k_is); (case tk_Rnames => k_is); (case rc_Rnames => k_is); (case l_Rnames => k_is)
    (case c_Rnames => k_is); (case k_Rnames => k_is); (case at_Rended => k_is); (case gt_Rended => k_is); (case tk_Rended => k_is); (case rc_Rended => k_is)
    (case l_Rended => k_is); (case c_Rended => k_is); (case k_Rended => k_is); (case i1_P => k_is); (case i4_P => k_is); (case cC_P => k_is)
    (case tC_P => k_is); (case g_A => k_is); (case pg_A => k_is); (case hd_A => k_is); (case po_A => k_is); (case sa_A => k_is)
    (case mk_A => k_is); (case kc_A => k_is); (case n1_A => k_is); (case at_Ai => k_is); (case fn_Ai => k_is); (case l_Ai => k_is)
    (case c_Ai => k_is); (case k_Ai => k_is); (case i1_A => k_is); (case i4_A => k_is); (case cC_A => k_is); (case tC_A => k_is)
    (case g_K => k_is); (case cC_K => k_is); (case tC_K => k_is); (case sb_PK => k_is); (case sb_PA => k_is); (case sb_AP => k_is)
    (case ne_PK => decide); (case ne_PA => decide)
