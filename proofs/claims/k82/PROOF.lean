import PyProof.Rows.All
import Wide.All
import OpenK.AllK
import Wide.FinOn
import HandS.Base
import HandS.Call
import HandS.List
import HandS.Comp
import HandS.Ends
import HandS.Rev
import HandS.ForMost
import HandS.Codes
import HandS.Wide
import HandS.WideBits
import HandS.IsInst
import HandS.Conv
import HandS.EndBits
import PySem.Challenge.RW_fallgain_k82_fractions
set_option Elab.async false
set_option linter.all false
set_option maxRecDepth 100000
set_option maxHeartbeats 3900000
namespace Z
open PySem PySem.Spec PyProof.Rows L2 RT
/-! ### an empty list that a walk fills -/
abbrev lstO (xs : Array Value) (c : Nat) : Obj := { cls := .type "list", dict := none, data := .seq xs c, slots := #[] }
abbrev AfterB (prog : Program) (w : World) (A : Around) (R : Result → Shared → Prop) : Fin → Shared → Prop := fun v t => match v with
  | .done g => R (.ok g) t
  | .again c => c.quiet = true ∧ codeAny (model prog w) A c R t
/-- the walk W of I, which is no list and no tuple, and tells `room` when asked for its length -/
structure Pours (prog : Program) (w : World) (A : Around) (I : Addr) (fp wr : List Addr) (n : Nat) (P : Nat → Value → Prop) (St : Nat → Heap → Prop) (T : String) (room : Bool) : Prop where
  walk : Walks prog w A.in1 I fp wr n P St
  at_ : I ∈ fp
  few : n ≤ sizeLine
  plain : (Value.type T == Value.type "list" || Value.type T == Value.type "tuple") = false
  ty : ∀ (t : Shared), St 0 t.heap → t.TypeIs (.ref I) T
  ask : ∀ (t : Shared) (Q : Bool → Shared → Prop) (E : Value → Shared → Prop), St 0 t.heap → (∀ k, Q room { t with toks := k }) → wpAny (model prog w) A.in1 (Builtin.List.listLengthHint (.ref I)) Q E t
section
variable {prog : Program} {w : World} {A : Around} {E : Value → Shared → Prop} {s : Shared}
theorem touch_empty {S : Addr} {c : Nat} {Q : Unit → Shared → Prop} (hS : s.heap.get? S = some (lstO #[] c))
    (k : ∀ h2 c2, h2.get? S = some (lstO #[] c2) → (∀ b o, b ≠ S → s.heap.get? b = some o → h2.get? b = some o) → Q () { s with heap := h2 }) : wpAny (model prog w) A (Builtin.List.listTouch (.ref S)) Q E s := by
  have g1 := Heap.get?_update_self (Obj.mapSeq fun a => a.push Value.none) hS rfl
  have g2 := Heap.get?_update_self (Obj.mapSeq fun a => a.pop) g1 rfl
  show wpAny _ _ (updateSeq S (fun a => a.push .none) >>= fun _ => updateSeq S fun a => a.pop) _ _ _
  exact wpAny_bind (wpAny_updateSeq hS rfl (wpAny_updateSeq g1 rfl (k _ _ g2 fun b o nb e => by
    rw [Heap.get?_update_other _ _ nb.symm, Heap.get?_update_other _ _ nb.symm, e])))
variable {I S : Addr} {fp wr : List Addr} {n c : Nat} {P : Nat → Value → Prop} {St : Nat → Heap → Prop} {T : String} {room : Bool} {R : Result → Shared → Prop} {res : Value}
/-- what stands behind the pouring -/
abbrev Poured (s : Shared) (S : Addr) (wr : List Addr) (n : Nat) (P : Nat → Value → Prop) (k : Shared → Prop) : Prop :=
  ∀ (h2 : Heap) (tk : Nat) (acc : Array Value) (c2 : Nat), (∀ b o, b ∉ wr → b ≠ S → s.heap.get? b = some o → h2.get? b = some o) → h2.get? S = some (lstO acc c2) → ItemsOf P acc n → k { s with heap := h2, toks := tk }
theorem pour (p : Pours prog w A I fp wr n P St T room) (st : St 0 s.heap) (nS : S ∉ fp) (hS : s.heap.get? S = some (lstO #[] c)) (k : Poured s S wr n P fun t => R (.ok (.ret res)) t) :
    wpAny (model prog w) A.in1 (Builtin.List.listExtendWith (.ref S) (.ref I) res) (AfterB prog w A R) (fun e t => R (.error e) t) s := by
  have ne : S ≠ I := fun z => nS (z ▸ p.at_)
  have run : ∀ (t : Shared) (c1 : Nat), St 0 t.heap → t.heap.get? S = some (lstO #[] c1) → (∀ b o, b ≠ S → s.heap.get? b = some o → t.heap.get? b = some o) → (∃ h1 k1, t = { s with heap := h1, toks := k1 }) →
      AfterB prog w A R (.again (.builtin "list.extend.loop" ⟨[.ref S, .ref I, res], []⟩)) t := by
    rintro t c1 st1 g1 o1 ⟨h1, k1, rfl⟩
    refine ⟨plainId_quiet F.plain_extend_loop _, codeAny_extend_loopS p.walk.toS p.few S nS res n 0 _ _ _ rfl (Nat.zero_le _) st1 g1 (ItemsOf.nil _) fun t2 acc c2 mv g2 it => ?_⟩
    rw [Moved.eq_with mv]
    exact k _ _ acc c2 (fun b o nb nS2 e => mv.heap b o (fun z => (List.mem_cons.mp z).elim nS2 nb) (o1 b o nS2 e)) g2 it
  have same : Builtin.List.listSameRef (.ref S) (.ref I) = false := by
    simp [Builtin.List.listSameRef, ne]
  rw [Builtin.List.listExtendWith]
  refine wpAny_bind (wpAny_typeOf (p.ty s st) (wpAny_ite_false (by rw [same, Bool.false_or, p.plain]; rfl) ?_))
  refine wpAny_bind (p.walk.self 0 s _ _ st (wpAny_bind (wpAny_holding (p.ask s _ _ st fun tk => ?_))))
  dsimp only
  split
  · refine wpAny_bind (wpAny_rule (wpAny_bind (touch_empty (s := { s with toks := tk }) hS fun h2 c2 g2 o2 => wpAny_pure ?_)))
    exact run _ c2 (p.walk.frame 0 _ h2 st fun b hb o e => o2 b o (fun z => nS (z ▸ hb)) e) g2 o2 ⟨_, _, rfl⟩
  · exact wpAny_pure (run _ c st hS (fun b o _ e => e) ⟨_, _, rfl⟩)
/-- list(I) -/
theorem list_of (p : Pours prog w A.in1 I fp wr n P St T room) (st : St 0 s.heap) (lo : ∀ b ∈ fp, b < s.heap.objs.size) {Q : Value → Shared → Prop} (k : Poured s s.heap.objs.size wr n P (Q (.ref s.heap.objs.size))) : wpAny (model prog w) A (call (.type "list") [.ref I]) Q E s := by
  let S := s.heap.objs.size
  have nS : S ∉ fp := fun z => Nat.lt_irrefl _ (lo _ z)
  have g0 : (s.heap.push (lstO #[] 0)).get? S = some (lstO #[] 0) := Heap.get?_push_size _ rfl
  have g1 := Heap.get?_update_self (Obj.mapSeq fun _ => (#[] : Array Value)) g0 rfl
  have old : ∀ b o, b ≠ S → s.heap.get? b = some o → ((s.heap.push (lstO #[] 0)).update S (Obj.mapSeq fun _ => #[])).get? b = some o := fun b o nb e => by
    rw [Heap.get?_update_other _ _ nb.symm, Heap.get?_push_of_some _ e]
  refine callType_codes (Q₁ := fun v t => v = .ref S ∧ t = { s with heap := s.heap.push (lstO #[] 0) }) F.called_list (F.typeCall_list_1 _) F.entry_list_init (code_list_new _ ⟨rfl, rfl⟩) ?_
  rintro _ _ ⟨rfl, rfl⟩
  refine ⟨⟨_, g0, rfl⟩, F.args_list_init_2 _ _, ?_⟩
  show wpAny _ _ (Builtin.List.listItems (.ref S) >>= fun xs => Builtin.List.listUpdate (.ref S) (fun _ => #[]) >>= fun _ => letGo xs.toList.reverse >>= fun _ => Builtin.List.listExtendWith (.ref S) (.ref I) .none) _ _ _
  rw [Builtin.List.listItems]
  refine wpAny_bind (wpAny_bind (wpAny_seqItems g0 rfl (wpAny_pure (wpAny_bind (wpAny_updateSeq g0 rfl (wpAny_bind (wpAny_letGo ?_)))))))
  refine pour (s := { s with heap := (s.heap.push (lstO #[] 0)).update S (Obj.mapSeq fun _ => #[]) }) p (p.walk.frame 0 _ _ st fun b hb o e => old b o (fun z => nS (z ▸ hb)) e) nS g1 fun h2 tk acc c2 o2 g2 it => ?_
  exact ⟨rfl, k h2 tk acc c2 (fun b o nb nS2 e => o2 b o nb nS2 (old b o nS2 e)) g2 it⟩
end
/-! ### list(reversed(x)), x a list -/
theorem pours_rev {prog : Program} {w : World} {A : Around} (calm : A.handled = none) {it l : Addr} (ne : l ≠ it) {xs : Array Value} (le : xs.size ≤ sizeLine) :
    Pours prog w A it [it, l] [it] xs.size (fun i v => xs[xs.size - 1 - i]? = some v) (fun i h => i ≤ xs.size ∧ h.IsRevIter it l ((xs.size : Int) - 1 - (i : Int)) ∧ h.IsList l xs) "list_reverseiterator" false where
  walk := Walks.listRev (A := A.in1) calm it l ne xs
  at_ := List.mem_cons_self
  few := le
  plain := by decide
  ty := fun t st => st.2.1.typeIs
  ask := fun t Q E st q => by
    rw [Builtin.List.listLengthHint]
    refine wpAny_bind (wpAny_specialOf st.2.1.typeIs nolen_lri (wpAny_bind (wpAny_specialOf st.2.1.typeIs hint_lri ?_)))
    generalize nm : ("list_reverseiterator.__length_hint__" : String) = id1
    wp_delta
    rw [show splitId id1 = some ("list_reverseiterator", "__length_hint__") from by rw [← nm]; decide +kernel]
    subst nm
    refine wpAny_bind (wpAny_isInstance (b := true) st.2.1.typeIs (by rw [isSubtype_type]; kernel_rfl) (wpAny_pure ?_))
    exact q t.toks
section
variable {X : Cx}
def tLstRev (K : PySem.W.Frag) (te : TE) : TE := fun σ H Q => te σ H fun v H1 => ∃ (a : Addr) (xs : List V), v = .ref a ∧ SqL K H1 a xs ∧ ∀ q, H1 q = none → Q (.ref q) (upd H1 q (.lst xs.reverse))
theorem pe_listRev {e : Expr} {te : TE} {p p2 pos pos2 : Pos} (hc : X.calm = true) (hg : Gl X "list") (hm : X.mg "list" = none) (hg2 : Gl X "reversed") (hm2 : X.mg "reversed" = none) (he : PE X e te)
    (h1 : starEach [e] X.env = (false, eval e X.env) :: starEach [] X.env := by rfl) (h2 : starEach [.Call (.Name "reversed" p2) [e] [] pos2] X.env = (false, eval (.Call (.Name "reversed" p2) [e] [] pos2) X.env) :: starEach [] X.env := by rfl) :
    PE X (.Call (.Name "list" p) [.Call (.Name "reversed" p2) [e] [] pos2] [] pos) (tLstRev X.K te) := by
  refine ⟨fun pins s σ H Q I h => Call_ (ld_blt I hg hm (show bootBuiltins "list" = some (.type "list") by decide +kernel) (PyProof.Rows.callWith_type1 (args_cons (Call_ (ld_blt I hg2 hm2 PyProof.Rows.boot_reversed (PyProof.Rows.callWith_type1 (args_cons (thn (he.run pins s σ H _ I h) ?_) h1) h1 rfl))) h2) h2 rfl))⟩
  rintro u s1 ⟨_, H1, J, r, a, xs, rfl, sq, q⟩
  obtain rfl : u = Value.ref a := r
  obtain ⟨its, rv, pl, le⟩ := J.list sq
  have lst := pl.isList
  obtain ⟨o, go, _⟩ := id lst
  have lt := Heap.lt_size go
  have sz : its.toArray.size ≤ sizeLine := by
    rw [List.size_toArray, ← rv.length]
    exact le
  refine args_nil (call_reversed_list lst (args_nil ?_))
  generalize ht : ({ s1 with heap := s1.heap.push (revObj a ((its.toArray.size : Int) - 1)) } : Shared) = t
  have J2 : Inv X pins σ H1 t := ht ▸ J.kept (t' := s1.toks) fun b o z => Heap.get?_push_of_some _ z
  have gI : t.heap.IsRevIter s1.heap.objs.size a ((its.toArray.size : Int) - 1 - ((0 : Nat) : Int)) := by
    rw [Int.natCast_zero, Int.sub_zero, ← ht]
    refine ⟨revObj a ((its.toArray.size : Int) - 1), Heap.get?_push_size _ rfl, rfl, rfl⟩
  have sT : t.heap.objs.size = s1.heap.objs.size + 1 := by rw [← ht]; exact Heap.size_push ..
  obtain ⟨f0, f1, f2, f3, f4, f5⟩ := J.fpOk (H' := H1) (b := s1.heap.objs.size) (Nat.le_refl _) (J.hok.fresh (Nat.le_refl _))
  refine list_of (A := X.A) (pours_rev (A := X.A.in1) (J.ok.hd hc) (Nat.ne_of_lt lt) sz) ⟨Nat.zero_le _, gI, ht ▸ lst.push _⟩ (fun b hb => ?_) fun h2 tk acc c2 old new it => ?_
  · rw [sT]
    rcases (show b = s1.heap.objs.size ∨ b = a by simpa using hb) with z | z
    · rw [z]; exact Nat.lt_succ_self _
    · rw [z]; exact Nat.lt_succ_of_lt lt
  have fr : H1 t.heap.objs.size = none := J2.hok.fresh (Nat.le_refl _)
  have L := J2.laid (a := t.heap.objs.size) (o := .lst xs.reverse) (h' := t.heap.push (lstO acc c2)) (t' := t.toks) (fun b o z => Heap.get?_push_of_some _ z) (Nat.le_refl _) (show ObjOk X.prog X.w _ _ _ (.lst xs.reverse) from ⟨by rw [List.length_reverse]; exact le, acc.toList, c2, vals_rev rv it, by rw [Array.toArray_toList]; exact Heap.get?_push_size _ rfl⟩)
  have nI : s1.heap.objs.size ≠ t.heap.objs.size := by
    rw [sT]
    exact Nat.ne_of_lt (Nat.lt_succ_self _)
  have T := L.turned (h' := h2) (t' := tk) (it := s1.heap.objs.size) (fun b o nb z => ?_) (by rw [upd_ne nI]; exact f0) f1 f3 f4 f5
  · exact ⟨.ref _, _, T, rfl, q _ fr⟩
  by_cases w : b = t.heap.objs.size
  · rw [w, Heap.get?_push_size _ rfl] at z
    rw [w, new, ← z]
  · exact old b o (fun m => nb (List.mem_singleton.mp m)) w ((Heap.get?_push_ne _ _ _ w).symm.trans z)
end
end Z
namespace Z
open PySem PySem.Spec PyProof.Rows L2
open C8 (Cal Def fnScope fnBody fnArgs pe_c cal0)
/-! ### built-in names -/
theorem bb_abs : bootBuiltins "abs" = some (.builtin "abs") := by decide +kernel
theorem bb_len : bootBuiltins "len" = some (.builtin "len") := by decide +kernel
theorem bb_isinstance : bootBuiltins "isinstance" = some (.builtin "isinstance") := by decide +kernel
theorem bb_sum : bootBuiltins "sum" = some (.builtin "sum") := by decide +kernel
theorem bb_all : bootBuiltins "all" = some (.builtin "all") := by decide +kernel
theorem bb_min : bootBuiltins "min" = some (.builtin "min") := by decide +kernel
theorem bb_max : bootBuiltins "max" = some (.builtin "max") := by decide +kernel
theorem bb_sorted : bootBuiltins "sorted" = some (.builtin "sorted") := by decide +kernel
theorem bb_list : bootBuiltins "list" = some (.type "list") := by decide +kernel
theorem bb_tuple : bootBuiltins "tuple" = some (.type "tuple") := by decide +kernel
theorem bb_int : bootBuiltins "int" = some (.type "int") := by decide +kernel
theorem bb_bool : bootBuiltins "bool" = some (.type "bool") := by decide +kernel
theorem bb_str : bootBuiltins "str" = some (.type "str") := by decide +kernel
theorem bb_ValueError : bootBuiltins "ValueError" = some (.type "ValueError") := by decide +kernel
structure Mb (mg : Str → Option Value) : Prop where
  abs : mg "abs" = none
  len : mg "len" = none
  isinstance : mg "isinstance" = none
  sum : mg "sum" = none
  all : mg "all" = none
  min : mg "min" = none
  max : mg "max" = none
  sorted : mg "sorted" = none
  list : mg "list" = none
  tuple : mg "tuple" = none
  int : mg "int" = none
  bool : mg "bool" = none
  str : mg "str" = none
  range : mg "range" = none
  reversed : mg "reversed" = none
  enumerate : mg "enumerate" = none
  zip : mg "zip" = none
  ValueError : mg "ValueError" = none
/-! ### operators -/
section
variable {X : Cx}
/-- a written power -/
def rPw (i j r : Int) : R2 := fun x y H Q => x = .int i ∧ y = .int j ∧ Q (.int r) H
theorem op_pw {i j : Int} (r : Int) (h : CPow i j) (e : i ^ j.toNat = r) : OpR X (binaryOp .Pow) (rPw i j r) := by
  rintro pins s σ H _ _ v u Q I rx ry ⟨rfl, rfl, q⟩
  exact op_pow pins s σ H _ _ v u Q I rx ry ⟨i, j, rfl, rfl, h, by show Q (.int (i ^ j.toNat)) H; rw [e]; exact q⟩
theorem p18 : OpR X (binaryOp .Pow) (rPw 10 18 1000000000000000000) := op_pw _ ⟨by decide, by decide, by decide⟩ (by decide +kernel)
theorem p15 : OpR X (binaryOp .Pow) (rPw 10 15 1000000000000000) := op_pw _ ⟨by decide, by decide, by decide⟩ (by decide +kernel)
theorem p14 : OpR X (binaryOp .Pow) (rPw 10 14 100000000000000) := op_pw _ ⟨by decide, by decide, by decide⟩ (by decide +kernel)
theorem p10 : OpR X (binaryOp .Pow) (rPw 10 10 10000000000) := op_pw _ ⟨by decide, by decide, by decide⟩ (by decide +kernel)
theorem p9 : OpR X (binaryOp .Pow) (rPw 10 9 1000000000) := op_pw _ ⟨by decide, by decide, by decide⟩ (by decide +kernel)
theorem p6 : OpR X (binaryOp .Pow) (rPw 10 6 1000000) := op_pw _ ⟨by decide, by decide, by decide⟩ (by decide +kernel)
theorem p4 : OpR X (binaryOp .Pow) (rPw 10 4 10000) := op_pw _ ⟨by decide, by decide, by decide⟩ (by decide +kernel)
theorem p40 : OpR X (binaryOp .Pow) (rPw 10 40 10000000000000000000000000000000000000000) := op_pw _ ⟨by decide, by decide, by decide⟩ (by decide +kernel)
/-- // by any divisor but 0, below 2 ^ 9000 -/
def CDivZ (_ j : Int) : Prop := j ≠ 0 ∧ j.natAbs.log2 < 9000
theorem op_fdivZ : OpR X (binaryOp .FloorDiv) (rI CDivZ fun i j => .int (i.fdiv j)) := opI fun i j _ _ _ _ _ hc q => floordiv_int hc.1 q (.inl (PyProof.noPylong_of_log2 hc.2))
end
/-! ### what is kept but for one object -/
def Of (d : Addr) (H H' : Hp) : Prop := ∀ a o, a ≠ d → H a = some o → H' a = some o
theorem Of.refl (d : Addr) (H : Hp) : Of d H H := fun _ _ _ h => h
theorem Of.trans {d : Addr} {H H1 H2 : Hp} (a : Of d H H1) (b : Of d H1 H2) : Of d H H2 := fun x o n h => b x o n (a x o n h)
theorem Of.same {d : Addr} {H H1 : Hp} (a : Same H H1) : Of d H H1 := fun x o _ h => a x o h
theorem Of.new {d p : Addr} {o : HO} {H : Hp} (h : H p = none) : Of d H (upd H p o) := fun x u _ e => by rw [upd_ne (ne_of_none e h)]; exact e
theorem Of.put {d : Addr} {o : HO} {H : Hp} : Of d H (upd H d o) := fun x u n e => by rw [upd_ne n]; exact e
theorem same_new {p : Addr} {o : HO} {H : Hp} (h : H p = none) : Same H (upd H p o) := fun x u e => by rw [upd_ne (ne_of_none e h)]; exact e
theorem same_put {H H1 : Hp} {p : Addr} {o : HO} (e : Same H H1) (h : H p = none) : Same H (upd H1 p o) := fun x u z => by rw [upd_ne (ne_of_none z h)]; exact e x u z
theorem tup_of {d a : Addr} {H H' : Hp} {xs ys : List V} (e : Of d H H') (hd : H d = some (.lst ys)) (h : H a = some (.tup xs)) : H' a = some (.tup xs) := e a _ (ne_of h hd (fun z => by cases z)) h
/-! ### the deck: what the drawn numbers are taken from -/
def Drawn (ns : List Int) : Prop := ns.length ≤ 400 ∧ ∀ n ∈ ns, 0 ≤ n ∧ n < 1000000000000000
def Deck (H : Hp) (d : Addr) : Prop := ∃ ns : List Int, H d = some (.lst (ns.map V.int)) ∧ Drawn ns
theorem Deck.same {H H' : Hp} {d : Addr} (h : Deck H d) (e : Same H H') : Deck H' d := let ⟨ns, a, b⟩ := h; ⟨ns, e d _ a, b⟩
theorem Deck.of {H H' : Hp} {d x : Addr} (h : Deck H d) (e : Of x H H') (n : d ≠ x) : Deck H' d := let ⟨ns, a, b⟩ := h; ⟨ns, e d _ n a, b⟩
theorem Deck.ne_none {H : Hp} {d p : Addr} (h : Deck H d) (n : H p = none) : p ≠ d := let ⟨_, a, _⟩ := h; (ne_of_none a n).symm
theorem Deck.ne_tup {H : Hp} {d p : Addr} {xs : List V} (h : Deck H d) (n : H p = some (.tup xs)) : p ≠ d := let ⟨_, a, _⟩ := h; ne_of n a (fun z => by cases z)
theorem Deck.tup {H H' : Hp} {d p : Addr} {xs : List V} (h : Deck H d) (e : Of d H H') (n : H p = some (.tup xs)) : H' p = some (.tup xs) := e p _ (h.ne_tup n) n
/-! ### promises of the law's own helpers -/
def spMixed : Sp := fun vs H Q _ => ∃ c k : Int, vs = [.int c, .int k] ∧ 0 ≤ k ∧ k ≤ 1000 ∧ ∀ r : Int, 0 ≤ r → Q (.int r) H
def spDeck (K : PySem.W.Frag) : Sp := fun vs H Q _ => ∃ (a : Addr) (ns : List Int) (n : Int), vs = [.ref a, .int n] ∧ SqL K H a (ns.map V.int) ∧ ns.length ≤ 63 ∧ 0 ≤ n ∧ n ≤ 400 ∧
  ∀ H' p, Same H H' → H p = none → Deck H' p → Q (.ref p) H'
def spNext : Sp := fun vs H Q _ => ∃ d, vs = [.ref d] ∧ Deck H d ∧ ∀ r H', 0 ≤ r → r < 1000000000000000 → Of d H H' → Deck H' d → Q (.int r) H'
def spWhole (K : PySem.W.Frag) : Sp := fun vs H Q _ => ∃ x T b c, vs = [x] ∧ TyX K H x (.type T) ∧ kitB T "int" = some b ∧ kitB T "bool" = some c ∧ Q (.bl (b && !c)) H
def spGcd : Sp := fun vs H Q _ => ∃ a b : Int, vs = [.int a, .int b] ∧ Q (.int (Int.gcd a b : Nat)) H
theorem whole_int {K : PySem.W.Frag} {i : Int} {H : Hp} {Q : VK} {E : XK} (h : Q (.bl true) H) : spWhole K [.int i] H Q E := ⟨.int i, "int", true, false, rfl, .base (.int i), by decide +kernel, by decide +kernel, h⟩
end Z
namespace Z
open PySem PySem.Spec PyProof.Rows L2
theorem abs_nat (x : Int) : (if x < 0 then -x else x) = ((x.natAbs : Nat) : Int) := by
  split <;> omega
theorem ixN_in {n j : Nat} (hj : j < n) : ixN n (j : Int) = some j := by
  unfold ixN
  rw [if_pos (show (0 : Int) ≤ (j : Int) by omega), if_pos (by omega)]
  simp
theorem cut_to (xs : List V) (n : Nat) : cutV xs none (some (n : Int)) = xs.take n := by
  unfold cutV
  rw [HT.sIx_none, show HT.sIx xs.length xs.length (some (n : Int)) = min n xs.length from HT.sIx_nat xs.length xs.length n]
  rw [Nat.sub_zero, List.drop_zero, Nat.min_def]
  split
  · rfl
  · rw [List.take_of_length_le (Nat.le_refl _), List.take_of_length_le (by omega)]
theorem deck_own (ns : List Int) (h : ns.length ≤ 63) : ∃ ms : List Int, cutV (ns.map V.int) none (some 60) ++ (List.replicate (if decide (V.int ((ns.map V.int).length : Int) = V.int 0) = true then (1 : Int) else 0).toNat [V.int 0]).flatten = ms.map V.int ∧ 0 < ms.length ∧ ms.length ≤ 64 := by
  rw [show cutV (ns.map V.int) none (some 60) = (ns.map V.int).take 60 from cut_to _ 60]
  cases ns with
  | nil => exact ⟨[0], by simp, by decide, by decide⟩
  | cons x r =>
    refine ⟨(x :: r).take 60, ?_, ?_, ?_⟩
    · rw [if_neg (by simp; omega)]
      simp
    · simp
    · simp
      omega
theorem yes_if {σ : L2.St} {H : Hp} {A B : Hp → Prop} (h : A H) : tYes σ H (fun b H3 => if b = true then A H3 else B H3) := by
  show if true = true then A H else B H
  rw [if_pos rfl]
  exact h
/-! ### a def as it stands behind the top -/
def DefIn (K : PySem.W.Frag) (x : Str) (st : Stmt) : Prop := ∃ (f : Addr) (fd : FuncData), C8.Fun K x x st f fd ∧ fd.defaults = .none ∧ PySem.W.nsIn K mainGlobals x = some (some (.ref f)) ∧ PySem.W.keepIn K (.ref f) = true
theorem din {K : PySem.W.Frag} {x : Str} {st : Stmt} {f : Addr} {oc kV doc pm cdv ct : Value} {od an : Option Addr} {osl : Array (Option Value)} (a : PySem.W.nsIn K mainGlobals x = some (some (.ref f)))
    (l : K.lookup f = some ⟨oc, od, .func (PySem.W.fnOf x x (C8.fnArgs st) (C8.fnBody st) (C8.fnScope st) .none kV doc pm an cdv ct), osl⟩) (c : PySem.W.codeIn K cdv x = true) (k : PySem.W.keepIn K (.ref f) = true) : DefIn K x st :=
  ⟨f, _, ⟨oc, od, .none, kV, doc, pm, an, cdv, ct, osl, rfl, l, c⟩, rfl, a, k⟩
theorem DefIn.get {K : PySem.W.Frag} {x : Str} {st : Stmt} {h : Heap} {mg : Str → Option Value} (D : DefIn K x st) (X : K.In h) (G : h.Ns mainGlobals mg) : ∃ (f : Addr) (fd : FuncData), C8.Def K mg x st f fd ∧ fd.defaults = .none := by
  obtain ⟨f, fd, F, e, a, k⟩ := D
  exact ⟨f, fd, ⟨F, PySem.W.mg_of X G a, k⟩, e⟩
def NonIn (K : PySem.W.Frag) : Prop := ∀ x ∈ ["abs", "len", "isinstance", "sum", "all", "min", "max", "sorted", "list", "tuple", "int", "bool", "str", "range", "reversed", "enumerate", "zip", "ValueError"], PySem.W.nsIn K mainGlobals (Str.ofString x) = some none
theorem NonIn.mb {K : PySem.W.Frag} {h : Heap} {mg : Str → Option Value} (N : NonIn K) (X : K.In h) (G : h.Ns mainGlobals mg) : Mb mg := by
  have z : ∀ x ∈ ["abs", "len", "isinstance", "sum", "all", "min", "max", "sorted", "list", "tuple", "int", "bool", "str", "range", "reversed", "enumerate", "zip", "ValueError"], mg (Str.ofString x) = none := fun x hx => PySem.W.mg_none_of X G (N x hx)
  refine ⟨?_, ?_, ?_, ?_, ?_, ?_, ?_, ?_, ?_, ?_, ?_, ?_, ?_, ?_, ?_, ?_, ?_, ?_⟩ <;> exact z _ (by simp)
theorem Of.mut {d p : Addr} {o : HO} {H H1 : Hp} (e : Of d H H1) (h : H p = none) : Of d H (upd H1 p o) := fun a u n z => by rw [upd_ne (ne_of_none z h)]; exact e a u n z
theorem Deck.mut {d p : Addr} {o : HO} {H : Hp} (h : Deck H d) (n : d ≠ p) : Deck (upd H p o) d := let ⟨ns, a, b⟩ := h; ⟨ns, by rw [upd_ne n]; exact a, b⟩
/-! ### rules whose reading names the written part outright (for use within a comprehension) -/
section
variable {X : Cx}
theorem k_ixL (K : PySem.W.Frag) (h : X.K = K) : IxR X (rIxL K) := by subst h; exact ix_list
theorem k_ixT (K : PySem.W.Frag) (h : X.K = K) : IxR X (rIxT K) := by subst h; exact ix_tup
theorem k_slL (K : PySem.W.Frag) (h : X.K = K) : SlR X (rSlL K) := by subst h; exact sl_list
theorem k_slT (K : PySem.W.Frag) (h : X.K = K) : SlR X (rSlT K) := by subst h; exact sl_tup
theorem k_in (K : PySem.W.Frag) (h : X.K = K) : OpR X (compareOp .In) (rIn K false) := by subst h; exact op_in_seq
theorem k_notIn (K : PySem.W.Frag) (h : X.K = K) : OpR X (compareOp .NotIn) (rIn K true) := by subst h; exact op_notIn_seq
theorem k_eqD (K : PySem.W.Frag) (h : X.K = K) (hu : X.A.units + 64 < cLine) : OpR X (compareOp .Eq) (rEqD K) := by subst h; exact op_eqD hu
theorem k_neD (K : PySem.W.Frag) (h : X.K = K) (hu : X.A.units + 64 < cLine) : OpR X (compareOp .NotEq) (rNeD K) := by subst h; exact op_neD hu
def rLenK (K : PySem.W.Frag) : List V → Hp → VK → Prop := fun xs H Q => ∃ p ys, xs = [.ref p] ∧ (SqL K H p ys ∨ SqT K H p ys) ∧ Q (.int ys.length) H
def rListK (K : PySem.W.Frag) : List V → Hp → VK → Prop := fun xs H Q => ∃ p ys, xs = [.ref p] ∧ (SqL K H p ys ∨ SqT K H p ys) ∧ ∀ l, H l = none → Q (.ref l) (upd H l (.lst ys))
def rTupleK (K : PySem.W.Frag) : List V → Hp → VK → Prop := fun xs H Q => ∃ p ys, xs = [.ref p] ∧ ((SqL K H p ys ∧ ∀ l, H l = none → Q (.ref l) (upd H l (.tup ys))) ∨ (SqT K H p ys ∧ Q (.ref p) H))
theorem k_len (K : PySem.W.Frag) (h : X.K = K) : CallR X (.builtin "len") (rLenK K) := by subst h; exact call_len_seq
theorem k_list (K : PySem.W.Frag) (h : X.K = K) : CallR X (.type "list") (rListK K) := by subst h; exact call_list_of
theorem k_tuple (K : PySem.W.Frag) (h : X.K = K) : CallR X (.type "tuple") (rTupleK K) := by subst h; exact call_tuple_of
theorem k_isi (K : PySem.W.Frag) (h : X.K = K) : CallR X (.builtin "isinstance") (rIsi K) := by subst h; exact call_isi
theorem k_isiT (K : PySem.W.Frag) (h : X.K = K) : CallR X (.builtin "isinstance") (rIsiT K) := by subst h; exact call_isiT
theorem k_sum (K : PySem.W.Frag) (h : X.K = K) (hc : X.calm = true) : CallR X (.builtin "sum") (rSum K) := by subst h; exact cr_sum hc
theorem k_all (K : PySem.W.Frag) (h : X.K = K) (hc : X.calm = true) : CallR X (.builtin "all") (rAll K) := by subst h; exact cr_all hc
theorem k_max (K : PySem.W.Frag) (h : X.K = K) (hc : X.calm = true) : CallR X (.builtin "max") (rMax K) := by subst h; exact cr_max hc
theorem k_min (K : PySem.W.Frag) (h : X.K = K) (hc : X.calm = true) : CallR X (.builtin "min") (rMin K) := by subst h; exact cr_min hc
theorem k_sorted (K : PySem.W.Frag) (h : X.K = K) : CallR X (.builtin "sorted") (rSorted K) := by subst h; exact cr_sorted
end
theorem dec_yes {c : Prop} [Decidable c] {Q : VK} {H : Hp} (hc : c) (q : Q (.bl true) H) : Q (.bl (decide c)) H := by
  rw [decide_eq_true hc]
  exact q
theorem dec_no {c : Prop} [Decidable c] {Q : VK} {H : Hp} (hc : c) (q : Q (.bl false) H) : Q (.bl (!decide c)) H := by
  rw [decide_eq_true hc]
  exact q
theorem cut_ints {α : Type} (f : α → V) (ks : List α) (n : Nat) : cutV (ks.map f) none (some (n : Int)) = (ks.take n).map f := by rw [cut_to, List.map_take]
end Z
namespace Z
open PySem PySem.Spec PyProof.Rows L2
/-! ### fractions -/
def B (n : Nat) (x : Int) : Prop := x.natAbs < 2 ^ n
theorem B.mono {n m : Nat} {x : Int} (h : B n x) (l : n ≤ m) : B m x := Nat.lt_of_lt_of_le h (Nat.pow_le_pow_right (by decide) l)
theorem B.le {n : Nat} {x y : Int} (h : B n y) (l : x.natAbs ≤ y.natAbs) : B n x := Nat.lt_of_le_of_lt l h
theorem B.mul {n m : Nat} {x y : Int} (h : B n x) (k : B m y) : B (n + m) (x * y) := wide_lt h k
theorem B.add {n : Nat} {x y : Int} (h : B n x) (k : B n y) : B (n + 1) (x + y) := by
  unfold B at *
  have e : 2 ^ (n + 1) = 2 ^ n + 2 ^ n := by rw [Nat.pow_succ]; omega
  have z := Int.natAbs_add_le x y
  omega
theorem B.cm {n m : Nat} {x y : Int} (h : B n x) (k : B m y) (l : n + m ≤ 900000) : CMulW x y :=
  wide_mul (a := n + 1) (b := m + 1) (h.mono (Nat.le_succ n)) (k.mono (Nat.le_succ m)) (Nat.succ_pos _) (Nat.succ_pos _) (by omega)
structure Low (x y t b : Int) : Prop where
  pos : 0 < b
  cop : Int.gcd t b = 1
  eq : t * y = x * b
  lt : t.natAbs ≤ x.natAbs
  lb : b.natAbs ≤ y.natAbs
theorem natAbs_le_mul {t s : Int} (h : s ≠ 0) : t.natAbs ≤ (t * s).natAbs := by
  rw [Int.natAbs_mul]
  exact Nat.le_mul_of_pos_right _ (Int.natAbs_pos.mpr h)
theorem pos_of_mul {s b : Int} (hs : 0 < s) (h : 0 < s * b) : 0 < b := by
  rcases Int.lt_trichotomy b 0 with z | z | z
  · have := Int.mul_neg_of_pos_of_neg hs z
    omega
  · subst z
    rw [Int.mul_zero] at h
    omega
  · exact z
theorem dvd_cop {b t c : Int} (h : b ∣ t * c) (g : Int.gcd t b = 1) : b ∣ c := by
  have z := Int.natAbs_dvd_natAbs.mpr h
  rw [Int.natAbs_mul] at z
  have k : Nat.Coprime b.natAbs t.natAbs := by
    rw [Nat.coprime_comm]
    exact g
  exact Int.natAbs_dvd_natAbs.mp (k.dvd_of_dvd_mul_left z)
theorem low_of {x y s : Int} (hy : y ≠ 0) (hs : s.natAbs = Int.gcd x y) (hp : (0 < s ∧ 0 < y) ∨ (s < 0 ∧ y < 0)) : Low x y (x.fdiv s) (y.fdiv s) := by
  have hs0 : s ≠ 0 := by omega
  have dx : s ∣ x := Int.natAbs_dvd.mp (by rw [hs]; exact Int.gcd_dvd_left ..)
  have dy : s ∣ y := Int.natAbs_dvd.mp (by rw [hs]; exact Int.gcd_dvd_right ..)
  obtain ⟨t, ex⟩ := dx
  obtain ⟨b, ey⟩ := dy
  have e1 : x.fdiv s = t := by rw [ex]; exact Int.mul_fdiv_cancel_left _ hs0
  have e2 : y.fdiv s = b := by rw [ey]; exact Int.mul_fdiv_cancel_left _ hs0
  rw [e1, e2]
  have hb : 0 < b := by
    rcases hp with ⟨h1, h2⟩ | ⟨h1, h2⟩
    · rw [ey] at h2
      exact pos_of_mul h1 h2
    · rw [ey] at h2
      have h3 : 0 < (-s) * b := by rw [Int.neg_mul]; omega
      exact pos_of_mul (by omega : 0 < -s) h3
  refine ⟨hb, ?_, ?_, ?_, ?_⟩
  · have hg : Int.gcd (s * t) (s * b) = s.natAbs * Int.gcd t b := Int.gcd_mul_left ..
    rw [← ex, ← ey, ← hs] at hg
    have hp0 : 0 < s.natAbs := Int.natAbs_pos.mpr hs0
    exact (Nat.eq_of_mul_eq_mul_left hp0 (by rw [Nat.mul_one]; exact hg)).symm
  · rw [ex, ey, Int.mul_comm s t, Int.mul_assoc]
  · rw [ex, Int.mul_comm]
    exact natAbs_le_mul hs0
  · rw [ey, Int.mul_comm]
    exact natAbs_le_mul hs0
theorem low_unique {t b u c : Int} (h1 : 0 < b) (h2 : Int.gcd t b = 1) (h3 : 0 < c) (h4 : Int.gcd u c = 1) (e : t * c = u * b) : t = u ∧ b = c := by
  have d1 : b ∣ c := by
    have z : b ∣ t * c := ⟨u, by rw [e, Int.mul_comm]⟩
    exact dvd_cop z h2
  have d2 : c ∣ b := by
    have z : c ∣ u * b := ⟨t, by rw [← e, Int.mul_comm]⟩
    exact dvd_cop z h4
  have hbc : b = c := Int.dvd_antisymm (by omega) (by omega) d1 d2
  subst hbc
  exact ⟨Int.eq_of_mul_eq_mul_right (by omega) e, rfl⟩
/-- alike fractions have one form -/
theorem Low.same {x y k t b u c : Int} (l : Low (x * k) (y * k) t b) (m : Low x y u c) (hk : k ≠ 0) (hy : y ≠ 0) : u = t ∧ c = b := by
  refine low_unique m.pos m.cop l.pos l.cop ?_
  have e1 := l.eq
  have e2 := m.eq
  have e3 : (t * y) * k = (x * b) * k := by rw [Int.mul_assoc, e1, Int.mul_assoc, Int.mul_comm k b, ← Int.mul_assoc]
  have e4 : t * y = x * b := Int.eq_of_mul_eq_mul_right hk e3
  have e5 : (u * b) * y = (t * c) * y := by
    calc (u * b) * y = (u * y) * b := by rw [Int.mul_assoc, Int.mul_comm b y, ← Int.mul_assoc]
      _ = (x * c) * b := by rw [e2]
      _ = (x * b) * c := by rw [Int.mul_assoc, Int.mul_comm c b, ← Int.mul_assoc]
      _ = (t * y) * c := by rw [e4]
      _ = (t * c) * y := by rw [Int.mul_assoc, Int.mul_comm y c, ← Int.mul_assoc]
  exact Int.eq_of_mul_eq_mul_right hy e5
theorem Low.up {x y k t b : Int} (l : Low (x * k) (y * k) t b) (hk : k ≠ 0) : t * y = x * b := by
  have e1 := l.eq
  have e3 : (t * y) * k = (x * b) * k := by rw [Int.mul_assoc, e1, Int.mul_assoc, Int.mul_comm k b, ← Int.mul_assoc]
  exact Int.eq_of_mul_eq_mul_right hk e3
/-! ### the promises -/
abbrev Fr (H : Hp) (a : Addr) (t b : Int) : Prop := H a = some (.tup [.int t, .int b])
def spLow : Sp := fun vs H Q _ => ∃ x y : Int, vs = [.int x, .int y] ∧ y ≠ 0 ∧ B 4000 y ∧ ∀ H' p t b, Same H H' → H p = none → Fr H' p t b → Low x y t b → Q (.ref p) H'
def spPlus : Sp := fun vs H Q _ => ∃ a c t b u d, vs = [.ref a, .ref c] ∧ Fr H a t b ∧ Fr H c u d ∧ b ≠ 0 ∧ d ≠ 0 ∧ B 500 t ∧ B 500 b ∧ B 500 u ∧ B 500 d ∧
  ∀ H' p r q, Same H H' → H p = none → Fr H' p r q → Low (t * d + u * b) (b * d) r q → Q (.ref p) H'
def spTimes : Sp := fun vs H Q _ => ∃ a c t b u d, vs = [.ref a, .ref c] ∧ Fr H a t b ∧ Fr H c u d ∧ b ≠ 0 ∧ d ≠ 0 ∧ B 500 t ∧ B 500 b ∧ B 500 u ∧ B 500 d ∧
  ∀ H' p r q, Same H H' → H p = none → Fr H' p r q → Low (t * u) (b * d) r q → Q (.ref p) H'
def spLess : Sp := fun vs H Q _ => ∃ a c t b u d, vs = [.ref a, .ref c] ∧ Fr H a t b ∧ Fr H c u d ∧ B 500 t ∧ B 500 b ∧ B 500 u ∧ B 500 d ∧ Q (.bl (decide (t * d < u * b))) H
def spIsFr : Sp := fun vs H Q _ => ∃ a t b, vs = [.ref a] ∧ Fr H a t b ∧ 0 < b ∧ Int.gcd t b = 1 ∧ Q (.bl true) H
end Z
namespace Z
open PySem PySem.Spec PyProof.Rows L2
open C8 (Cal Def fnScope fnBody fnArgs pe_c cal0)
def topS (i : Nat) : Stmt := PySem.Challenge.pw_fallgain_k82_fractions.main.body.getD i (.Pass ⟨0, 0, 0, 0⟩)
section
variable {P : Program} {w : World} {K : PySem.W.Frag} {mg : Str → Option Value} {base : Heap} {f : Addr} {fd : FuncData}
/-! ### _law_mixed -/
abbrev s_mixed : Stmt := topS 7
theorem sc_mixed : FnScope ["_law_cell", "_law_k", "_law_number_here"] ["_law_cell", "_law_k"] (fnScope s_mixed) := ⟨rfl, rfl, rfl, by decide +kernel, rfl, by decide +kernel, by decide +kernel⟩
theorem c_mixed (F : Def K mg "_law_mixed" s_mixed f fd) (b : Binds K fd ["_law_cell", "_law_k"] []) : Cal P w K mg base 1 "_law_mixed" spMixed [] := by
  refine cal0 (k := 0) F b .nil sc_mixed (fun vs H Q E h => ?_) (fun cdv A outer s H vs Q E hr h => ?_)
  · obtain ⟨c, k, rfl, _⟩ := h
    rfl
  · obtain ⟨c, k, rfl, h0, h1, q⟩ := h
    refine ⟨_, (pss_cons (ps_set (i := 2) sc_mixed.nd rfl (Or.inl rfl) (pe_op op_mod (pe_op op_add (pe_op op_add (pv 0) (pe_op op_mul (pe_op op_mul (pv 1) (pv 1)) pe_int)) pe_int) pe_int))
      (pss_cons (ps_set (i := 2) sc_mixed.nd rfl (Or.inl rfl) (pe_op op_mod (pe_op op_mul (pv 2) (pv 2)) pe_int))
      (pss_cons (ps_set (i := 2) sc_mixed.nd rfl (Or.inl rfl) (pe_op op_mod (pe_op op_mul (pe_op op_add (pe_op op_add (pv 2) (pe_op op_mul (pv 1) pe_int)) pe_int) pe_int) pe_int))
      (pss_one (ps_ret (pe_op op_fdivW (pe_op op_mod (pe_op op_mul (pv 2) (pv 2)) pe_int) pe_int)))))), ?_⟩
    refine ⟨_, rfl, _, rfl, _, rfl, _, _, rfl, rfl, .inl ⟨by omega, by omega⟩, _, _, rfl, rfl, .inr ⟨by omega, by omega⟩, _, _, rfl, rfl, _, _, rfl, rfl, _, _, rfl, rfl, (by show (0 : Int) < 2305843009213693951; decide), ?_⟩
    have a0 := Int.emod_nonneg (c + k * k * 40503 + 12345) (show (2305843009213693951 : Int) ≠ 0 by decide)
    have a1 := Int.emod_lt_of_pos (c + k * k * 40503 + 12345) (show (0 : Int) < 2305843009213693951 by decide)
    generalize (c + k * k * 40503 + 12345) % 2305843009213693951 = n at a0 a1 ⊢
    refine ⟨_, rfl, _, rfl, _, _, rfl, rfl, .inl ⟨by omega, by omega⟩, _, _, rfl, rfl, (by show (0 : Int) < 2305843009213693951; decide), ?_⟩
    have b0 := Int.emod_nonneg (n * n) (show (2305843009213693951 : Int) ≠ 0 by decide)
    generalize (n * n) % 2305843009213693951 = m at b0 ⊢
    refine ⟨_, rfl, _, rfl, _, _, rfl, rfl, .inl ⟨by omega, by omega⟩, _, _, rfl, rfl, _, _, rfl, rfl, _, _, rfl, rfl, .inr ⟨by omega, by omega⟩, _, _, rfl, rfl, (by show (0 : Int) < 2305843009213693951; decide), ?_⟩
    have d0 := Int.emod_nonneg ((m + k * 7919 + 1) * 48271) (show (2305843009213693951 : Int) ≠ 0 by decide)
    have d1 := Int.emod_lt_of_pos ((m + k * 7919 + 1) * 48271) (show (0 : Int) < 2305843009213693951 by decide)
    generalize ((m + k * 7919 + 1) * 48271) % 2305843009213693951 = l at d0 d1 ⊢
    refine ⟨_, rfl, _, rfl, _, _, rfl, rfl, .inl ⟨by omega, by omega⟩, _, _, rfl, rfl, (by show (0 : Int) < 2305843009213693951; decide), _, _, rfl, rfl, ⟨by decide, by decide⟩, ?_⟩
    exact q _ (Int.ediv_nonneg (Int.emod_nonneg _ (by decide)) (by decide))
/-! ### _law_next -/
abbrev s_next : Stmt := topS 9
theorem sc_next : FnScope ["_law_deck_here"] ["_law_deck_here"] (fnScope s_next) := ⟨rfl, rfl, rfl, by decide +kernel, rfl, by decide +kernel, by decide +kernel⟩
theorem c_next (T : Mb mg) (F : Def K mg "_law_next" s_next f fd) (b : Binds K fd ["_law_deck_here"] []) : Cal P w K mg base 1 "_law_next" spNext [] := by
  refine cal0 (k := 0) F b .nil sc_next (fun vs H Q E h => ?_) (fun cdv A outer s H vs Q E hr h => ?_)
  · obtain ⟨d, rfl, _⟩ := h
    rfl
  · obtain ⟨d, rfl, ⟨ns, hd, hz, hn⟩, q⟩ := h
    refine ⟨_, (pss_cons (ps_if (pt_cmpR op_gt (pe_callB (k_len K rfl) (by rfl) T.len bb_len (pa_cons (pv 0) pa_nil)) pe_int (nomark _)) (pss_one (ps_ret (pe_bm0 PySem.F.plainAttrs_list PySem.F.slot_list_pop PySem.F.type_list_pop mt_pop (pv 0)))) pss_nil)
      (pss_one (ps_ret pe_int))), ?_⟩
    refine ⟨.ref d, rfl, d, _, rfl, .inl (SqL.of hd), _, _, rfl, rfl, _, rfl, ite2 (fun e => ?_) (fun e => ?_)⟩
    · have e0 := of_decide_eq_true e
      rw [List.length_map] at e0
      obtain ⟨ms, x, rfl⟩ : ∃ ms x, ns = ms ++ [x] := ⟨ns.dropLast, ns.getLast (fun z => by subst z; exact absurd e0 (by decide)), (List.dropLast_concat_getLast _).symm⟩
      have hx := hn x (by simp)
      refine ⟨.ref d, rfl, .inl ⟨rfl, _, SqL.of hd⟩, d, _, .int x, rfl, rfl, hd, ?_, ?_⟩
      · simp
      · refine q x _ hx.1 hx.2 Of.put ⟨ms, ?_, ?_, fun n z => hn n (by simp [z])⟩
        · rw [upd_same, List.map_append, List.map_singleton, List.dropLast_concat]
        · rw [List.length_append] at hz
          omega
    · exact q 0 H (by decide) (by decide) (Of.refl d H) ⟨ns, hd, hz, hn⟩
/-! ### _law_whole -/
abbrev s_whole : Stmt := topS 10
theorem sc_whole : FnScope ["_law_found"] ["_law_found"] (fnScope s_whole) := ⟨rfl, rfl, rfl, by decide +kernel, rfl, by decide +kernel, by decide +kernel⟩
theorem c_whole (T : Mb mg) (F : Def K mg "_law_whole" s_whole f fd) (b : Binds K fd ["_law_found"] []) : Cal P w K mg base 1 "_law_whole" (spWhole K) [] := by
  refine cal0 (k := 0) F b .nil sc_whole (fun vs H Q E h => ?_) (fun cdv A outer s H vs Q E hr h => ?_)
  · obtain ⟨x, t, b1, b2, rfl, _⟩ := h
    rfl
  · obtain ⟨x, t, b1, b2, rfl, ht, e1, e2, q⟩ := h
    refine ⟨_, (pss_one (ps_ret (pe_and (pe_callB (k_isi K rfl) (by rfl) T.isinstance bb_isinstance (pa_cons (pv 0) (pa_cons (pe_bltn (v := .ty "int") (by rfl) T.int bb_int rfl) pa_nil))) (pe_one (pe_not (pe_callB (k_isi K rfl) (by rfl) T.isinstance bb_isinstance (pa_cons (pv 0) (pa_cons (pe_bltn (v := .ty "bool") (by rfl) T.bool bb_bool rfl) pa_nil)))))))), ?_⟩
    refine ⟨x, rfl, x, .ty "int", _, _, b1, rfl, .ty _, ht, kit_ty e1, b1, rfl, ?_⟩
    cases b1 with
    | true => exact iteT ⟨x, rfl, x, .ty "bool", _, _, b2, rfl, .ty _, ht, kit_ty e2, b2, rfl, q⟩
    | false => exact iteF q
/-! ### _law_divisor -/
abbrev s_divisor : Stmt := topS 11
theorem sc_divisor : FnScope ["_law_one", "_law_other"] ["_law_one", "_law_other"] (fnScope s_divisor) := ⟨rfl, rfl, rfl, by decide +kernel, rfl, by decide +kernel, by decide +kernel⟩
theorem c_divisor (T : Mb mg) (F : Def K mg "_law_divisor" s_divisor f fd) (b : Binds K fd ["_law_one", "_law_other"] []) : Cal P w K mg base 1 "_law_divisor" spGcd [] := by
  refine cal0 (k := 0) F b .nil sc_divisor (fun vs H Q E h => ?_) (fun cdv A outer s H vs Q E hr h => ?_)
  · obtain ⟨x, y, rfl, _⟩ := h
    rfl
  · obtain ⟨x, y, rfl, q⟩ := h
    refine ⟨_, (pss_cons (ps_par (i := 0) (j := 1) (by rfl) sc_divisor.nd rfl rfl (by decide) rfl rfl (pa_cons (pe_callB call_abs (by rfl) T.abs bb_abs (pa_cons (pv 0) pa_nil)) (pa_cons (pe_callB call_abs (by rfl) T.abs bb_abs (pa_cons (pv 1) pa_nil)) pa_nil)) (by rfl))
      (pss_cons (ps_while PassesOwn.never (pt_cmpR op_gt (pv 1) pe_int (nomark _)) (pss_one (ps_par (i := 0) (j := 1) (by rfl) sc_divisor.nd rfl rfl (by decide) rfl rfl (pa_cons (pv 1) (pa_cons (pe_op op_mod (pv 0) (pv 1)) pa_nil)) (by rfl))))
      (pss_one (ps_ret (pv 0))))), ?_⟩
    refine ⟨.int x, rfl, x, rfl, .int y, rfl, y, rfl, _, _, rfl, ?_⟩
    rw [abs_nat, abs_nat]
    refine ⟨fun m σ H1 => ∃ n : Nat, σ = [some (.int (n : Int)), some (.int (m : Int))] ∧ Nat.gcd n m = Int.gcd x y ∧ H1 = H, ⟨y.natAbs, x.natAbs, rfl, rfl, rfl⟩, fun m σ H1 hw => ?_⟩
    obtain ⟨n, rfl, hg, rfl⟩ := hw
    refine ⟨_, rfl, _, _, rfl, rfl, _, rfl, ite2 (fun e => ?_) (fun e => ?_)⟩
    · have e0 := of_decide_eq_true e
      refine ⟨fun σ' H' => σ' = [some (.int (m : Int)), some (.int ((n % m : Nat) : Int))] ∧ H' = H1, fun σ' H' h => ?_, ?_⟩
      · obtain ⟨rfl, rfl⟩ := h
        exact ⟨n % m, Nat.mod_lt _ (by omega), m, rfl, by rw [← hg, Nat.gcd_comm n m, Nat.gcd_rec m n, Nat.gcd_comm], rfl⟩
      · exact ⟨_, rfl, _, rfl, _, rfl, _, _, rfl, rfl, e0, _, _, rfl, rfl, rfl⟩
    · have e0 : m = 0 := by
        have z : ¬ (0 : Int) < (m : Int) := fun z => e (decide_eq_true z)
        omega
      subst e0
      refine ⟨_, rfl, ?_⟩
      rw [Nat.gcd_zero_right] at hg
      rw [hg]
      exact q
/-! ### common_divisor -/
abbrev s_common_divisor : Stmt := topS 1
theorem sc_common_divisor : FnScope ["one", "other"] ["one", "other"] (fnScope s_common_divisor) := ⟨rfl, rfl, rfl, by decide +kernel, rfl, by decide +kernel, by decide +kernel⟩
theorem c_common_divisor (T : Mb mg) (F : Def K mg "common_divisor" s_common_divisor f fd) (b : Binds K fd ["one", "other"] []) : Cal P w K mg base 1 "common_divisor" spGcd [] := by
  refine cal0 (k := 0) F b .nil sc_common_divisor (fun vs H Q E h => ?_) (fun cdv A outer s H vs Q E hr h => ?_)
  · obtain ⟨x, y, rfl, _⟩ := h
    rfl
  · obtain ⟨x, y, rfl, q⟩ := h
    refine ⟨_, (pss_cons (ps_par (i := 0) (j := 1) (by rfl) sc_common_divisor.nd rfl rfl (by decide) rfl rfl (pa_cons (pe_callB call_abs (by rfl) T.abs bb_abs (pa_cons (pv 0) pa_nil)) (pa_cons (pe_callB call_abs (by rfl) T.abs bb_abs (pa_cons (pv 1) pa_nil)) pa_nil)) (by rfl))
      (pss_cons (ps_while PassesOwn.never (pt_cmpR op_gt (pv 1) pe_int (nomark _)) (pss_one (ps_par (i := 0) (j := 1) (by rfl) sc_common_divisor.nd rfl rfl (by decide) rfl rfl (pa_cons (pv 1) (pa_cons (pe_op op_mod (pv 0) (pv 1)) pa_nil)) (by rfl))))
      (pss_one (ps_ret (pv 0))))), ?_⟩
    refine ⟨.int x, rfl, x, rfl, .int y, rfl, y, rfl, _, _, rfl, ?_⟩
    rw [abs_nat, abs_nat]
    refine ⟨fun m σ H1 => ∃ n : Nat, σ = [some (.int (n : Int)), some (.int (m : Int))] ∧ Nat.gcd n m = Int.gcd x y ∧ H1 = H, ⟨y.natAbs, x.natAbs, rfl, rfl, rfl⟩, fun m σ H1 hw => ?_⟩
    obtain ⟨n, rfl, hg, rfl⟩ := hw
    refine ⟨_, rfl, _, _, rfl, rfl, _, rfl, ite2 (fun e => ?_) (fun e => ?_)⟩
    · have e0 := of_decide_eq_true e
      refine ⟨fun σ' H' => σ' = [some (.int (m : Int)), some (.int ((n % m : Nat) : Int))] ∧ H' = H1, fun σ' H' h => ?_, ?_⟩
      · obtain ⟨rfl, rfl⟩ := h
        exact ⟨n % m, Nat.mod_lt _ (by omega), m, rfl, by rw [← hg, Nat.gcd_comm n m, Nat.gcd_rec m n, Nat.gcd_comm], rfl⟩
      · exact ⟨_, rfl, _, rfl, _, rfl, _, _, rfl, rfl, e0, _, _, rfl, rfl, rfl⟩
    · have e0 : m = 0 := by
        have z : ¬ (0 : Int) < (m : Int) := fun z => e (decide_eq_true z)
        omega
      subst e0
      refine ⟨_, rfl, ?_⟩
      rw [Nat.gcd_zero_right] at hg
      rw [hg]
      exact q
/-! ### _law_deck -/
abbrev s_deck : Stmt := topS 8
theorem sc_deck : FnScope ["_law_script", "_law_many", "_law_own", "_law_rest", "_law_deck_here", "_law_k", "_law_at", "_law_cell"] ["_law_script", "_law_many"] (fnScope s_deck) := ⟨rfl, rfl, rfl, by decide +kernel, rfl, by decide +kernel, by decide +kernel⟩
theorem c_deck (T : Mb mg) (c_mixed : Cal P w K mg base 1 "_law_mixed" spMixed []) (F : Def K mg "_law_deck" s_deck f fd) (b : Binds K fd ["_law_script", "_law_many"] []) : Cal P w K mg base 2 "_law_deck" (spDeck K) [] := by
  refine cal0 (k := 1) F b .nil sc_deck (fun vs H Q E h => ?_) (fun cdv A outer s H vs Q E hr h => ?_)
  · obtain ⟨a, ns, n, rfl, _⟩ := h
    rfl
  · obtain ⟨a, ns, n, rfl, hS, hl, hn0, hn1, q⟩ := h
    refine ⟨_, (pss_cons (ps_set (i := 2) sc_deck.nd rfl (Or.inl rfl) (pe_op op_cat (pe_callTy (k_list K rfl) (by rfl) T.list bb_list (pa_cons (pe_slice (k_slL K rfl) (pv 0) po_none (po_some pe_int)) pa_nil)) (pe_op op_rep (pe_lst (pa_cons pe_int pa_nil)) (pe_callTy call_int1 (by rfl) T.int bb_int (pa_cons (pe_cmpR op_eq (pe_callB (k_len K rfl) (by rfl) T.len bb_len (pa_cons (pv 0) pa_nil)) pe_int (nomark _)) pa_nil)))))
      (pss_cons (ps_setLc (i := 3) (own := [("_law_cell", 7)]) (g := gName 7) (tt := tYes) rfl sc_deck.nd rfl rfl (sw_true rfl rfl rfl (by decide +kernel)) (pi_list (pv 2)) (blkOk_by (own := [("_law_cell", 7)]) (N := ["_law_script", "_law_many", "_law_own", "_law_rest", "_law_deck_here", "_law_k", "_law_at", "_law_cell"]) (sc := fnScope s_deck) (by decide +kernel)) (fun _ _ _ _ _ => (pg_name (i := 7) sc_deck.nd rfl (Or.inl rfl))) (fun _ _ _ _ _ => pts_nil) (fun _ _ _ _ _ => (pe_op op_mul (pv 7) (pe_callTy call_int1 (by rfl) T.int bb_int (pa_cons (pe_cmpR op_ge (pv 7) (pe_op p18 pe_int pe_int) (nomark _)) pa_nil)))))
      (pss_cons (ps_set (i := 4) sc_deck.nd rfl (Or.inl rfl) (pe_lst pa_nil))
      (pss_cons (ps_for PassesOwn.never rfl (pi_range1 (by rfl) T.range (pa_cons (pv 1) pa_nil)) (pg_name (i := 5) sc_deck.nd rfl (Or.inl rfl)) (pss_cons (ps_set (i := 6) sc_deck.nd rfl (Or.inl rfl) (pe_op op_mod (pv 5) (pe_callB (k_len K rfl) (by rfl) T.len bb_len (pa_cons (pv 2) pa_nil))))
      (pss_one (ps_if (pt_cmpR op_gt (pe_ix (k_ixL K rfl) (pv 3) (pv 6) (fun _ _ => rfl)) pe_int (nomark _)) (pss_cons (ps_expr (pe_bm PySem.F.plainAttrs_list PySem.F.slot_list_append PySem.F.type_list_append mt_append (pv 4) (pa_cons (pe_op op_mod (pe_ix (k_ixL K rfl) (pv 3) (pv 6) (fun _ _ => rfl)) (pe_op p15 pe_int pe_int)) pa_nil)))
      (pss_one (ps_asg (pe_op op_fdivW (pe_ix (k_ixL K rfl) (pv 3) (pv 6) (fun _ _ => rfl)) (pe_op p15 pe_int pe_int)) (pg_sub (pv 3) (pv 6) set_list)))) (pss_one (ps_expr (pe_bm PySem.F.plainAttrs_list PySem.F.slot_list_append PySem.F.type_list_append mt_append (pv 4) (pa_cons (pe_op op_mod (pe_c c_mixed hr (by decide) (by rfl) (pa_cons (pe_ix (k_ixL K rfl) (pv 2) (pv 6) (fun _ _ => rfl)) (pa_cons (pe_op op_add (pv 5) pe_int) pa_nil))) (pe_op p15 pe_int pe_int)) pa_nil))))))))
      (pss_one (ps_ret (pe_listRev rfl (by rfl) T.list (by rfl) T.reversed (pv 4)))))))), ?_⟩
    -- own = list(script[:60]) + [0] * int(len(script) == 0)
    refine ⟨.ref a, rfl, _, rfl, a, _, rfl, hS, fun p1 f1 => ?_⟩
    refine ⟨p1, _, rfl, .inl (SqL.of upd_same), fun p2 f2 => ?_⟩
    have s1 := same_new (o := .lst (cutV (ns.map V.int) none (some 60))) f1
    have s2 := s1.trans (same_new (o := .lst (cutV (ns.map V.int) none (some 60))) f2)
    refine ⟨by show 1 ≤ sizeLine; decide, fun p3 f3 => ?_⟩
    have s3 := s2.trans (same_new (o := .lst [.int 0]) f3)
    refine ⟨.ref a, rfl, a, _, rfl, .inl (s3.seq hS), rfl, .inr ⟨_, rfl, ?_⟩⟩
    refine ⟨p3, _, [.int 0], rfl, rfl, upd_same, ?_, ?_, ?_, fun p4 f4 => ?_⟩
    · split <;> decide
    · split <;> decide
    · split <;> decide
    have s4 := s3.trans (same_new (o := .lst (List.replicate (if decide (V.int ((ns.map V.int).length : Int) = V.int 0) = true then (1 : Int) else 0).toNat [V.int 0]).flatten) f4)
    obtain ⟨ms, e1, g0, g1⟩ := deck_own ns hl
    refine ⟨p2, p4, cutV (ns.map V.int) none (some 60), _, rfl, rfl, ?_, upd_same, ?_, fun o f5 => ?_⟩
    · exact (same_new f4) p2 _ ((same_new f3) p2 _ upd_same)
    · rw [← List.length_append, e1, List.length_map]
      exact Nat.le_of_lt (small1000 (by omega))
    rw [e1]
    have s5 := s4.trans (same_new (o := .lst (ms.map V.int)) f5)
    have fo : H o = none := s4.free f5
    generalize hH5 : upd _ o (.lst (ms.map V.int)) = H5 at s5
    have ho : H5 o = some (.lst (ms.map V.int)) := by
      rw [← hH5]
      exact upd_same
    -- rest
    refine ⟨.ref o, rfl, o, rfl, ⟨_, SqL.of ho⟩, fun r fr => lc_list (K := K) (a := o) (xs := ms.map V.int) (fun i H' => Same H5 H' ∧ ∃ rs : List Int, rs.length = i ∧ H' r = some (.lst (rs.map V.int))) ⟨same_new fr, [], rfl, upd_same⟩ (fun i H' _ h => h.1.seq (SqL.of ho)) (fun i x H' hx h => ?_) (fun H' h => ?_)⟩
    · obtain ⟨sm, rs, e2, e3⟩ := h
      obtain ⟨z, rfl⟩ : ∃ z, x = V.int z := by
        rw [List.getElem?_map] at hx
        cases hz : ms[i]? with
        | none => rw [hz] at hx; cases hx
        | some z => rw [hz] at hx; exact ⟨z, (Option.some.inj hx).symm⟩
      have hi : i < (ms.map V.int).length := (List.getElem?_eq_some_iff.mp hx).1
      rw [List.length_map] at hi
      refine ⟨rfl, yes_if ⟨_, rfl, _, rfl, rfl, rfl, _, _, rfl, rfl, .inr ⟨_, rfl, _, _, rfl, rfl, .inr ?_, _, e3, ?_, ?_⟩⟩⟩
      · split <;> exact ⟨by decide, by decide⟩
      · rw [List.length_map]
        exact small1000 (by omega)
      · refine ⟨same_put sm fr, rs ++ [z * (if decide (1000000000000000000 ≤ z) = true then 1 else 0)], ?_, ?_⟩
        · rw [List.length_append, e2]
          rfl
        · rw [upd_same, List.map_append]
          rfl
    obtain ⟨sm6, rs, e2, hr6⟩ := h
    rw [List.length_map] at e2
    have s6 := s5.trans sm6
    have ho6 := sm6 _ _ ho
    -- the deck
    refine ⟨Nat.zero_le _, fun d fd7 => ?_⟩
    have s7 := s6.trans (same_new (o := .lst []) fd7)
    have nrd : r ≠ d := ne_of_none hr6 fd7
    have nod : o ≠ d := ne_of_none ho6 fd7
    have nor : o ≠ r := ne_of_none ho fr
    refine ⟨.int n, rfl, n, rfl, by omega, by omega, for_range (lo := 0) (n := n.toNat) (fun i σ H' => ∃ y5 y6 y7, σ = [some (.ref a), some (.int n), some (.ref o), some (.ref r), some (.ref d), y5, y6, y7] ∧ Same H H' ∧ H' o = some (.lst (ms.map V.int)) ∧ (∃ rs : List Int, rs.length = ms.length ∧ H' r = some (.lst (rs.map V.int))) ∧
        ∃ ds : List Int, ds.length = i ∧ H' d = some (.lst (ds.map V.int)) ∧ ∀ z ∈ ds, 0 ≤ z ∧ z < 1000000000000000) ?_ (fun i σ H' hi h => ?_) (fun σ H' h => ?_)⟩
    · refine ⟨none, none, none, rfl, s7, ?_, ⟨rs, e2, ?_⟩, [], rfl, upd_same, fun z hz => by cases hz⟩
      · rw [upd_ne nod]
        exact ho6
      · rw [upd_ne nrd]
        exact hr6
    · obtain ⟨y5, y6, y7, rfl, sm, ho8, ⟨rs, e2, hr8⟩, ds, e4, hd8, hd9⟩ := h
      have fr0 : H r = none := s5.free fr
      have fd0 : H d = none := s6.free fd7
      have m0 : (0 : Int) < ((ms.map V.int).length : Int) := by
        rw [List.length_map]
        omega
      refine ⟨_, rfl, .ref o, rfl, o, _, rfl, .inl (SqL.of ho8), _, _, rfl, rfl, m0, ?_⟩
      have k0 := Int.emod_nonneg (0 + (i : Int)) (show ((ms.map V.int).length : Int) ≠ 0 by omega)
      have k1 := Int.emod_lt_of_pos (0 + (i : Int)) m0
      rw [List.length_map] at k0 k1
      rw [List.length_map]
      obtain ⟨j, ej⟩ := Int.eq_ofNat_of_zero_le k0
      dsimp only
      rw [ej] at k1 ⊢
      have hj : j < rs.length := by omega
      have hj2 : j < ms.length := by omega
      have ga : atI (rs.map V.int) (j : Int) = some (.int rs[j]) := atI_nat (by rw [List.getElem?_map, List.getElem?_eq_getElem hj]; rfl)
      have gb : atI (ms.map V.int) (j : Int) = some (.int ms[j]) := atI_nat (by rw [List.getElem?_map, List.getElem?_eq_getElem hj2]; rfl)
      have hsz : (ds.map V.int).length < sizeLine := by
        rw [List.length_map]
        exact small1000 (by omega)
      refine ⟨.ref r, rfl, _, rfl, r, _, _, _, rfl, rfl, SqL.of hr8, ga, _, _, rfl, rfl, _, rfl, ite2 (fun e => ?_) (fun e => ?_)⟩
      · refine ⟨.ref d, rfl, .inl ⟨rfl, _, SqL.of hd8⟩, .ref r, rfl, _, rfl, r, _, _, _, rfl, rfl, SqL.of hr8, ga, rfl, rfl, _, _, rfl, rfl, (by show (0 : Int) < 1000000000000000; decide), d, _, _, rfl, rfl, hd8, hsz, ?_⟩
        have hr9 : (upd H' d (.lst (ds.map V.int ++ [.int (rs[j] % 1000000000000000)]))) r = some (.lst (rs.map V.int)) := by
          rw [upd_ne nrd]
          exact hr8
        refine ⟨.ref r, rfl, _, rfl, r, _, _, _, rfl, rfl, SqL.of hr9, ga, rfl, rfl, _, _, rfl, rfl, ⟨by decide, by decide⟩, .ref r, rfl, _, rfl, r, _, _, j, rfl, rfl, hr9, ixN_in (by rw [List.length_map]; exact hj), ?_⟩
        refine ⟨_, _, y7, rfl, same_put (same_put sm fd0) fr0, ?_, ⟨rs.set j (rs[j] / 1000000000000000), by rw [List.length_set]; exact e2, ?_⟩, ds ++ [rs[j] % 1000000000000000], ?_, ?_, ?_⟩
        · rw [upd_ne nor, upd_ne nod]
          exact ho8
        · rw [upd_same, List.map_set]
        · rw [List.length_append, e4]
          rfl
        · rw [upd_ne nrd.symm, upd_same, List.map_append]
          rfl
        · intro z hz
          rcases (List.mem_append.mp hz : _ ∨ _) with hz | hz
          · exact hd9 z hz
          · rw [List.mem_singleton.mp hz]
            exact ⟨Int.emod_nonneg _ (show (1000000000000000 : Int) ≠ 0 by decide), Int.emod_lt_of_pos _ (by decide)⟩
      · refine ⟨.ref d, rfl, .inl ⟨rfl, _, SqL.of hd8⟩, .ref o, rfl, _, rfl, o, _, _, _, rfl, rfl, SqL.of ho8, gb, _, rfl, _, _, rfl, rfl, _, _, rfl, by omega, by omega, fun v hv => ?_⟩
        refine ⟨rfl, rfl, _, _, rfl, rfl, (by show (0 : Int) < 1000000000000000; decide), d, _, _, rfl, rfl, hd8, hsz, ?_⟩
        refine ⟨_, _, y7, rfl, same_put sm fd0, ?_, ⟨rs, e2, ?_⟩, ds ++ [v % 1000000000000000], ?_, ?_, ?_⟩
        · rw [upd_ne nod]
          exact ho8
        · rw [upd_ne nrd]
          exact hr8
        · rw [List.length_append, e4]
          rfl
        · rw [upd_same, List.map_append]
          rfl
        · intro z hz
          rcases (List.mem_append.mp hz : _ ∨ _) with hz | hz
          · exact hd9 z hz
          · rw [List.mem_singleton.mp hz]
            exact ⟨Int.emod_nonneg _ (show (1000000000000000 : Int) ≠ 0 by decide), Int.emod_lt_of_pos _ (by decide)⟩
    · obtain ⟨y5, y6, y7, rfl, sm, _, _, ds, e4, hd8, hd9⟩ := h
      refine ⟨.ref d, rfl, d, _, rfl, SqL.of hd8, fun p fp => ?_⟩
      refine q _ p (sm.trans (same_new fp)) (sm.free fp) ⟨ds.reverse, ?_, ?_, ?_⟩
      · rw [upd_same, List.map_reverse]
      · rw [List.length_reverse]
        omega
      · exact fun z hz => hd9 z (List.mem_reverse.mp hz)
/-! ### lowest_terms, plus, times, is_less -/
abbrev s_lowest_terms : Stmt := topS 2
theorem sc_lowest_terms : FnScope ["top", "bottom", "divisor"] ["top", "bottom"] (fnScope s_lowest_terms) := ⟨rfl, rfl, rfl, by decide +kernel, rfl, by decide +kernel, by decide +kernel⟩
theorem c_lowest_terms (c_common_divisor : Cal P w K mg base 1 "common_divisor" spGcd []) (F : Def K mg "lowest_terms" s_lowest_terms f fd) (b : Binds K fd ["top", "bottom"] []) : Cal P w K mg base 2 "lowest_terms" spLow [] := by
  refine cal0 (k := 1) F b .nil sc_lowest_terms (fun vs H Q E h => ?_) (fun cdv A outer s H vs Q E hr h => ?_)
  · obtain ⟨x, y, rfl, _⟩ := h
    rfl
  · obtain ⟨x, y, rfl, hy, hB, q⟩ := h
    refine ⟨_, (pss_cons (ps_set (i := 2) sc_lowest_terms.nd rfl (Or.inl rfl) (pe_c c_common_divisor hr (by decide) (by rfl) (pa_cons (pv 0) (pa_cons (pv 1) pa_nil))))
      (pss_cons (ps_if (pt_cmpR op_lt (pv 1) pe_int (nomark _)) (pss_one (ps_set (i := 2) sc_lowest_terms.nd rfl (Or.inl rfl) (pe_un un_neg (pv 2)))) pss_nil)
      (pss_one (ps_ret (pe_tup (pa_cons (pe_op op_fdivZ (pv 0) (pv 2)) (pa_cons (pe_op op_fdivZ (pv 1) (pv 2)) pa_nil))))))), ?_⟩
    have hg : (Int.gcd x y) ≤ y.natAbs := Nat.le_of_dvd (Int.natAbs_pos.mpr hy) (Int.natAbs_dvd_natAbs.mpr (Int.gcd_dvd_right x y) |> fun z => by rwa [Int.natAbs_natCast] at z)
    have h0 : 0 < Int.gcd x y := Int.gcd_pos_of_ne_zero_right x hy
    have cd : ∀ s : Int, s.natAbs = Int.gcd x y → ∀ i, CDivZ i s := fun s e i => ⟨by omega, by
      rw [e]
      exact Nat.lt_of_lt_of_le (PySem.Flt.log2_lt_of (by decide) (Nat.lt_of_le_of_lt hg hB)) (by decide)⟩
    refine ⟨_, rfl, _, rfl, x, y, rfl, ?_⟩
    refine ⟨_, rfl, _, _, rfl, rfl, _, rfl, ite2 (fun e => ?_) (fun e => ?_)⟩
    · have e0 : y < 0 := of_decide_eq_true e
      have hs : (-((Int.gcd x y : Nat) : Int)).natAbs = Int.gcd x y := by omega
      refine ⟨_, rfl, _, rfl, ?_⟩
      refine ⟨_, rfl, _, rfl, _, _, rfl, rfl, cd _ hs _, _, rfl, _, rfl, _, _, rfl, rfl, cd _ hs _, by show 2 ≤ sizeLine; decide, fun p fp => ?_⟩
      exact q _ p _ _ (same_new fp) fp upd_same (low_of hy hs (.inr ⟨by omega, e0⟩))
    · have e0 : 0 < y := by
        have z : ¬ y < 0 := fun z => e (decide_eq_true z)
        omega
      have hs : (((Int.gcd x y : Nat) : Int)).natAbs = Int.gcd x y := by omega
      refine ⟨_, rfl, _, rfl, _, _, rfl, rfl, cd _ hs _, _, rfl, _, rfl, _, _, rfl, rfl, cd _ hs _, by show 2 ≤ sizeLine; decide, fun p fp => ?_⟩
      exact q _ p _ _ (same_new fp) fp upd_same (low_of hy hs (.inl ⟨by omega, e0⟩))
/-! ### plus, times, is_less -/
abbrev s_plus : Stmt := topS 3
theorem sc_plus : FnScope ["one", "other"] ["one", "other"] (fnScope s_plus) := ⟨rfl, rfl, rfl, by decide +kernel, rfl, by decide +kernel, by decide +kernel⟩
theorem c_plus (c_lowest_terms : Cal P w K mg base 2 "lowest_terms" spLow []) (F : Def K mg "plus" s_plus f fd) (b : Binds K fd ["one", "other"] []) : Cal P w K mg base 3 "plus" spPlus [] := by
  refine cal0 (k := 2) F b .nil sc_plus (fun vs H Q E h => ?_) (fun cdv A outer s H vs Q E hr h => ?_)
  · obtain ⟨a, c, t, b, u, d, rfl, _⟩ := h
    rfl
  · obtain ⟨a, c, t, b, u, d, rfl, ha, hc, hb, hd, B1, B2, B3, B4, q⟩ := h
    refine ⟨_, (pss_one (ps_ret (pe_c c_lowest_terms hr (by decide) (by rfl) (pa_cons (pe_op op_add (pe_op op_mulW (pe_ix (k_ixT K rfl) (pv 0) pe_int (fun _ _ => rfl)) (pe_ix (k_ixT K rfl) (pv 1) pe_int (fun _ _ => rfl))) (pe_op op_mulW (pe_ix (k_ixT K rfl) (pv 1) pe_int (fun _ _ => rfl)) (pe_ix (k_ixT K rfl) (pv 0) pe_int (fun _ _ => rfl)))) (pa_cons (pe_op op_mulW (pe_ix (k_ixT K rfl) (pv 0) pe_int (fun _ _ => rfl)) (pe_ix (k_ixT K rfl) (pv 1) pe_int (fun _ _ => rfl))) pa_nil))))), ?_⟩
    refine ⟨_, rfl, a, _, 0, _, rfl, rfl, SqT.of ha, rfl, _, rfl, c, _, 1, _, rfl, rfl, SqT.of hc, rfl, _, _, rfl, rfl, B1.cm B4 (by decide), _, rfl, c, _, 0, _, rfl, rfl, SqT.of hc, rfl, _, rfl, a, _, 1, _, rfl, rfl, SqT.of ha, rfl, _, _, rfl, rfl, B3.cm B2 (by decide), _, _, rfl, rfl,
      _, rfl, a, _, 1, _, rfl, rfl, SqT.of ha, rfl, _, rfl, c, _, 1, _, rfl, rfl, SqT.of hc, rfl, _, _, rfl, rfl, B2.cm B4 (by decide), _, _, rfl, Int.mul_ne_zero hb hd, (B2.mul B4).mono (by decide), q⟩
abbrev s_times : Stmt := topS 4
theorem sc_times : FnScope ["one", "other"] ["one", "other"] (fnScope s_times) := ⟨rfl, rfl, rfl, by decide +kernel, rfl, by decide +kernel, by decide +kernel⟩
theorem c_times (c_lowest_terms : Cal P w K mg base 2 "lowest_terms" spLow []) (F : Def K mg "times" s_times f fd) (b : Binds K fd ["one", "other"] []) : Cal P w K mg base 3 "times" spTimes [] := by
  refine cal0 (k := 2) F b .nil sc_times (fun vs H Q E h => ?_) (fun cdv A outer s H vs Q E hr h => ?_)
  · obtain ⟨a, c, t, b, u, d, rfl, _⟩ := h
    rfl
  · obtain ⟨a, c, t, b, u, d, rfl, ha, hc, hb, hd, B1, B2, B3, B4, q⟩ := h
    refine ⟨_, (pss_one (ps_ret (pe_c c_lowest_terms hr (by decide) (by rfl) (pa_cons (pe_op op_mulW (pe_ix (k_ixT K rfl) (pv 0) pe_int (fun _ _ => rfl)) (pe_ix (k_ixT K rfl) (pv 1) pe_int (fun _ _ => rfl))) (pa_cons (pe_op op_mulW (pe_ix (k_ixT K rfl) (pv 0) pe_int (fun _ _ => rfl)) (pe_ix (k_ixT K rfl) (pv 1) pe_int (fun _ _ => rfl))) pa_nil))))), ?_⟩
    refine ⟨_, rfl, a, _, 0, _, rfl, rfl, SqT.of ha, rfl, _, rfl, c, _, 0, _, rfl, rfl, SqT.of hc, rfl, _, _, rfl, rfl, B1.cm B3 (by decide),
      _, rfl, a, _, 1, _, rfl, rfl, SqT.of ha, rfl, _, rfl, c, _, 1, _, rfl, rfl, SqT.of hc, rfl, _, _, rfl, rfl, B2.cm B4 (by decide), _, _, rfl, Int.mul_ne_zero hb hd, (B2.mul B4).mono (by decide), q⟩
abbrev s_is_less : Stmt := topS 5
theorem sc_is_less : FnScope ["one", "other"] ["one", "other"] (fnScope s_is_less) := ⟨rfl, rfl, rfl, by decide +kernel, rfl, by decide +kernel, by decide +kernel⟩
theorem c_is_less (F : Def K mg "is_less" s_is_less f fd) (b : Binds K fd ["one", "other"] []) : Cal P w K mg base 1 "is_less" spLess [] := by
  refine cal0 (k := 0) F b .nil sc_is_less (fun vs H Q E h => ?_) (fun cdv A outer s H vs Q E hr h => ?_)
  · obtain ⟨a, c, t, b, u, d, rfl, _⟩ := h
    rfl
  · obtain ⟨a, c, t, b, u, d, rfl, ha, hc, B1, B2, B3, B4, q⟩ := h
    refine ⟨_, (pss_one (ps_ret (pe_cmpR op_lt (pe_op op_mulW (pe_ix (k_ixT K rfl) (pv 0) pe_int (fun _ _ => rfl)) (pe_ix (k_ixT K rfl) (pv 1) pe_int (fun _ _ => rfl))) (pe_op op_mulW (pe_ix (k_ixT K rfl) (pv 1) pe_int (fun _ _ => rfl)) (pe_ix (k_ixT K rfl) (pv 0) pe_int (fun _ _ => rfl))) (nomark _)))), ?_⟩
    refine ⟨_, rfl, a, _, 0, _, rfl, rfl, SqT.of ha, rfl, _, rfl, c, _, 1, _, rfl, rfl, SqT.of hc, rfl, _, _, rfl, rfl, B1.cm B4 (by decide), _, rfl, c, _, 0, _, rfl, rfl, SqT.of hc, rfl, _, rfl, a, _, 1, _, rfl, rfl, SqT.of ha, rfl, _, _, rfl, rfl, B3.cm B2 (by decide), _, _, rfl, rfl, q⟩
/-! ### _law_is_fraction -/
abbrev s_is_fraction : Stmt := topS 12
theorem sc_is_fraction : FnScope ["_law_found"] ["_law_found"] (fnScope s_is_fraction) := ⟨rfl, rfl, rfl, by decide +kernel, rfl, by decide +kernel, by decide +kernel⟩
theorem c_is_fraction (T : Mb mg) (c_whole : Cal P w K mg base 1 "_law_whole" (spWhole K) []) (c_divisor : Cal P w K mg base 1 "_law_divisor" spGcd []) (F : Def K mg "_law_is_fraction" s_is_fraction f fd) (b : Binds K fd ["_law_found"] []) : Cal P w K mg base 2 "_law_is_fraction" spIsFr [] := by
  refine cal0 (k := 1) F b .nil sc_is_fraction (fun vs H Q E h => ?_) (fun cdv A outer s H vs Q E hr h => ?_)
  · obtain ⟨a, t, b, rfl, _⟩ := h
    rfl
  · obtain ⟨a, t, b, rfl, ha, hb, hg, q⟩ := h
    refine ⟨_, (pss_cons (ps_if (PW.pt (pw_or (pt_not (pt_val (pe_callB (k_isi K rfl) (by rfl) T.isinstance bb_isinstance (pa_cons (pv 0) (pa_cons (pe_bltn (v := .ty "tuple") (by rfl) T.tuple bb_tuple rfl) pa_nil))))) (pw_or (pt_cmpR op_ne (pe_callB (k_len K rfl) (by rfl) T.len bb_len (pa_cons (pv 0) pa_nil)) pe_int (nomark _)) (pw_or (pt_not (pt_val (pe_c c_whole hr (by decide) (by rfl) (pa_cons (pe_ix (k_ixT K rfl) (pv 0) pe_int (fun _ _ => rfl)) pa_nil)))) (pw_or1 (pt_not (pt_val (pe_c c_whole hr (by decide) (by rfl) (pa_cons (pe_ix (k_ixT K rfl) (pv 0) pe_int (fun _ _ => rfl)) pa_nil))))))))) (pss_one (ps_ret pe_bl)) pss_nil)
      (pss_one (ps_ret (pe_and (pe_cmpR op_gt (pe_ix (k_ixT K rfl) (pv 0) pe_int (fun _ _ => rfl)) pe_int (nomark _)) (pe_one (pe_cmpR op_eq (pe_c c_divisor hr (by decide) (by rfl) (pa_cons (pe_ix (k_ixT K rfl) (pv 0) pe_int (fun _ _ => rfl)) (pa_cons (pe_ix (k_ixT K rfl) (pv 0) pe_int (fun _ _ => rfl)) pa_nil))) pe_int (nomark _))))))), ?_⟩
    refine ⟨_, rfl, .ref a, .ty "tuple", _, _, true, rfl, .ty _, .base (.tup ha), kit_ty (by decide +kernel), true, rfl, iteF ?_⟩
    refine ⟨_, rfl, a, _, rfl, .inr (SqT.of ha), rfl, _, rfl, iteF ?_⟩
    refine ⟨_, rfl, a, _, 0, _, rfl, rfl, SqT.of ha, rfl, _, "int", true, false, rfl, .base (.int _), by decide +kernel, by decide +kernel, true, rfl, iteF ?_⟩
    refine ⟨_, rfl, a, _, 1, _, rfl, rfl, SqT.of ha, rfl, _, "int", true, false, rfl, .base (.int _), by decide +kernel, by decide +kernel, true, rfl, iteF ?_⟩
    refine ⟨_, rfl, a, _, 1, _, rfl, rfl, SqT.of ha, rfl, _, _, rfl, rfl, _, rfl, ?_⟩
    rw [decide_eq_true hb]
    refine iteT ⟨_, rfl, a, _, 0, _, rfl, rfl, SqT.of ha, rfl, _, rfl, a, _, 1, _, rfl, rfl, SqT.of ha, rfl, t, b, rfl, rfl, ?_⟩
    rw [hg]
    exact q
/-! ### the numbers of k82 -/
def spNumber : Sp := fun vs H Q _ => ∃ d, vs = [.ref d] ∧ Deck H d ∧ ∀ n H', n.natAbs ≤ 10000000000000000000000000000000000000000 → Of d H H' → Deck H' d → Q (.int n) H'
def spBottom : Sp := fun vs H Q _ => ∃ d, vs = [.ref d] ∧ Deck H d ∧ ∀ n H', n ≠ 0 → n.natAbs ≤ 10000000000000000000000000000000000000000 → Of d H H' → Deck H' d → Q (.int n) H'
theorem pick5 {a b c d e : Int} {j : Int} (h0 : 0 ≤ j) (h1 : j < 5) {M : Nat} (ha : a.natAbs ≤ M) (hb : b.natAbs ≤ M) (hc : c.natAbs ≤ M) (hd : d.natAbs ≤ M) (he : e.natAbs ≤ M) : ∃ x : Int, atI [V.int a, .int b, .int c, .int d, .int e] j = some (.int x) ∧ x.natAbs ≤ M := by
  obtain ⟨n, rfl⟩ : ∃ n : Nat, j = (n : Int) := Int.eq_ofNat_of_zero_le h0
  have hn : n < 5 := by omega
  match n, hn with
  | 0, _ => exact ⟨a, rfl, ha⟩
  | 1, _ => exact ⟨b, rfl, hb⟩
  | 2, _ => exact ⟨c, rfl, hc⟩
  | 3, _ => exact ⟨d, rfl, hd⟩
  | 4, _ => exact ⟨e, rfl, he⟩
theorem pick2 {a b : Int} {j : Int} (h0 : 0 ≤ j) (h1 : j < 2) : ∃ x : Int, atI [V.int a, .int b] j = some (.int x) ∧ (x = a ∨ x = b) := by
  obtain ⟨n, rfl⟩ : ∃ n : Nat, j = (n : Int) := Int.eq_ofNat_of_zero_le h0
  have hn : n < 2 := by omega
  match n, hn with
  | 0, _ => exact ⟨a, rfl, .inl rfl⟩
  | 1, _ => exact ⟨b, rfl, .inr rfl⟩
abbrev s_number : Stmt := topS 13
theorem sc_number : FnScope ["_law_deck_here", "_law_draw", "_law_some"] ["_law_deck_here"] (fnScope s_number) := ⟨rfl, rfl, rfl, by decide +kernel, rfl, by decide +kernel, by decide +kernel⟩
theorem c_number (c_next : Cal P w K mg base 1 "_law_next" spNext []) (F : Def K mg "_law_number" s_number f fd) (b : Binds K fd ["_law_deck_here"] []) : Cal P w K mg base 2 "_law_number" spNumber [] := by
  refine cal0 (k := 1) F b .nil sc_number (fun vs H Q E h => ?_) (fun cdv A outer s H vs Q E hr h => ?_)
  · obtain ⟨d, rfl, _⟩ := h
    rfl
  · obtain ⟨d, rfl, hd, q⟩ := h
    refine ⟨_, (pss_cons (ps_set (i := 1) sc_number.nd rfl (Or.inl rfl) (pe_c c_next hr (by decide) (by rfl) (pa_cons (pv 0) pa_nil)))
      (pss_cons (ps_set (i := 2) sc_number.nd rfl (Or.inl rfl) (pe_lst (pa_cons (pe_op op_mod (pe_op op_fdivW (pv 1) pe_int) pe_int) (pa_cons (pe_op op_mod (pe_op op_fdivW (pv 1) pe_int) (pe_op op_add (pe_op p9 pe_int pe_int) pe_int)) (pa_cons (pe_op op_mul (pe_op op_mul (pv 1) (pe_op op_add (pe_c c_next hr (by decide) (by rfl) (pa_cons (pv 0) pa_nil)) pe_int)) (pe_op p10 pe_int pe_int)) (pa_cons pe_int (pa_cons (pe_op p40 pe_int pe_int) pa_nil)))))))
      (pss_one (ps_ret (pe_op op_mul (pe_ix (k_ixL K rfl) (pv 2) (pe_op op_mod (pv 1) pe_int) (fun _ _ => rfl)) (pe_ix (k_ixL K rfl) (pe_lst (pa_cons pe_int (pa_cons (pe_un un_neg pe_int) pa_nil))) (pe_op op_mod (pe_c c_next hr (by decide) (by rfl) (pa_cons (pv 0) pa_nil)) pe_int) (fun _ _ => rfl))))))), ?_⟩
    refine ⟨_, rfl, d, rfl, hd, fun x H1 x0 x1 o1 d1 => ?_⟩
    have a1 := Int.emod_nonneg (x / 8) (show (7 : Int) ≠ 0 by decide)
    have a2 := Int.emod_lt_of_pos (x / 8) (show (0 : Int) < 7 by decide)
    have a3 := Int.emod_nonneg (x / 8) (show (1000000001 : Int) ≠ 0 by decide)
    have a4 := Int.emod_lt_of_pos (x / 8) (show (0 : Int) < 1000000001 by decide)
    refine ⟨_, rfl, _, _, rfl, rfl, ⟨by decide, by decide⟩, _, _, rfl, rfl, (by show (0 : Int) < 7; decide), _, rfl, _, _, rfl, rfl, ⟨by decide, by decide⟩, rfl, rfl, _, _, rfl, rfl, _, _, rfl, rfl, (by show (0 : Int) < 1000000000 + 1; decide), ?_⟩
    refine ⟨_, rfl, _, rfl, d, rfl, d1, fun y H2 y0 y1 o2 d2 => ?_⟩
    refine ⟨_, _, rfl, rfl, _, _, rfl, rfl, .inl ⟨by omega, by omega⟩, rfl, rfl, _, _, rfl, rfl, .inr ⟨by omega, by omega⟩, rfl, rfl, by show 5 ≤ sizeLine; decide, fun p fp => ?_⟩
    have d3 : Deck (upd H2 p (.lst [.int (x / 8 % 7), .int (x / 8 % (1000000000 + 1)), .int (x * (y + 1) * 10000000000), .int 0, .int 10000000000000000000000000000000000000000])) d := d2.same (same_new fp)
    have hxy : 0 ≤ x * (y + 1) := Int.mul_nonneg x0 (by omega)
    have hxz : x * (y + 1) ≤ 1000000000000000 * 1000000000000000 := Int.mul_le_mul (by omega) (by omega) (by omega) (by decide)
    obtain ⟨v, ev, hv⟩ := pick5 (a := x / 8 % 7) (b := x / 8 % (1000000000 + 1)) (c := x * (y + 1) * 10000000000) (d := 0) (e := 10000000000000000000000000000000000000000) (Int.emod_nonneg x (show (5 : Int) ≠ 0 by decide)) (Int.emod_lt_of_pos x (show (0 : Int) < 5 by decide)) (M := 10000000000000000000000000000000000000000)
      (by omega) (by have e : x / 8 % (1000000000 + 1) = x / 8 % 1000000001 := rfl
                     rw [e]
                     omega) (by generalize x * (y + 1) = g at hxy hxz ⊢
                                omega) (by decide) (by decide)
    refine ⟨_, rfl, _, rfl, _, _, rfl, rfl, (by show (0 : Int) < 5; decide), p, _, _, _, rfl, rfl, SqL.of upd_same, ev, ?_⟩
    refine ⟨_, rfl, by show 2 ≤ sizeLine; decide, fun p4 f4 => ?_⟩
    refine ⟨_, rfl, d, rfl, d3.same (same_new f4), fun z H5 z0 z1 o5 d5 => ?_⟩
    obtain ⟨u, eu, hu⟩ := pick2 (a := 1) (b := -1) (Int.emod_nonneg z (show (2 : Int) ≠ 0 by decide)) (Int.emod_lt_of_pos z (show (0 : Int) < 2 by decide))
    have n4 : p4 ≠ d := (d3.ne_none f4)
    refine ⟨_, _, rfl, rfl, (by show (0 : Int) < 2; decide), p4, _, _, _, rfl, rfl, SqL.of (o5 p4 _ n4 upd_same), eu, _, _, rfl, rfl, .inr ?_, ?_⟩
    · rcases hu with rfl | rfl <;> exact ⟨by decide, by decide⟩
    · refine q _ _ ?_ (o1.trans (o2.trans ((Of.new fp).trans ((Of.new f4).trans o5)))) d5
      rcases hu with rfl | rfl
      · rw [Int.mul_one]
        exact hv
      · rw [Int.mul_neg, Int.mul_one, Int.natAbs_neg]
        exact hv
abbrev s_bottom : Stmt := topS 14
theorem sc_bottom : FnScope ["_law_deck_here", "_law_found"] ["_law_deck_here"] (fnScope s_bottom) := ⟨rfl, rfl, rfl, by decide +kernel, rfl, by decide +kernel, by decide +kernel⟩
theorem c_bottom (c_next : Cal P w K mg base 1 "_law_next" spNext []) (c_number : Cal P w K mg base 2 "_law_number" spNumber []) (F : Def K mg "_law_bottom" s_bottom f fd) (b : Binds K fd ["_law_deck_here"] []) : Cal P w K mg base 3 "_law_bottom" spBottom [] := by
  refine cal0 (k := 2) F b .nil sc_bottom (fun vs H Q E h => ?_) (fun cdv A outer s H vs Q E hr h => ?_)
  · obtain ⟨d, rfl, _⟩ := h
    rfl
  · obtain ⟨d, rfl, hd, q⟩ := h
    refine ⟨_, (pss_cons (ps_set (i := 1) sc_bottom.nd rfl (Or.inl rfl) (pe_c c_number hr (by decide) (by rfl) (pa_cons (pv 0) pa_nil)))
      (pss_cons (ps_if (pt_cmpR op_eq (pv 1) pe_int (nomark _)) (pss_one (ps_ret (pe_op op_add pe_int (pe_op op_mod (pe_c c_next hr (by decide) (by rfl) (pa_cons (pv 0) pa_nil)) pe_int)))) pss_nil)
      (pss_one (ps_ret (pv 1))))), ?_⟩
    refine ⟨_, rfl, d, rfl, hd, fun n H1 hn o1 d1 => ?_⟩
    refine ⟨_, rfl, rfl, _, rfl, ite2 (fun e => ?_) (fun e => ?_)⟩
    · refine ⟨_, rfl, d, rfl, d1, fun y H2 y0 y1 o2 d2 => ?_⟩
      have a1 := Int.emod_nonneg y (show (9 : Int) ≠ 0 by decide)
      have a2 := Int.emod_lt_of_pos y (show (0 : Int) < 9 by decide)
      refine ⟨_, _, rfl, rfl, (by show (0 : Int) < 9; decide), _, _, rfl, rfl, ?_⟩
      exact q _ _ (by omega) (by omega) (o1.trans o2) d2
    · have e0 : n ≠ 0 := fun z => e (by rw [z]; rfl)
      exact ⟨_, rfl, q n H1 e0 hn o1 d1⟩
def spRight : Sp := fun vs H Q _ => ∃ a c t b u d, vs = [.ref a, .ref c] ∧ Fr H a t b ∧ Fr H c u d ∧ 0 < b ∧ 0 < d ∧ B 150 t ∧ B 150 b ∧ B 150 u ∧ B 150 d ∧ ∀ H', Same H H' → Q (.bl true) H'
abbrev s_right : Stmt := topS 15
theorem sc_right : FnScope ["_law_one", "_law_other", "_law_both", "_law_found", "_law_top", "_law_bottom_here", "_law_less"] ["_law_one", "_law_other"] (fnScope s_right) := ⟨rfl, rfl, rfl, by decide +kernel, rfl, by decide +kernel, by decide +kernel⟩
theorem c_right (T : Mb mg) (c_plus : Cal P w K mg base 3 "plus" spPlus []) (c_times : Cal P w K mg base 3 "times" spTimes []) (c_is_less : Cal P w K mg base 1 "is_less" spLess []) (c_is_fraction : Cal P w K mg base 2 "_law_is_fraction" spIsFr [])
    (F : Def K mg "_law_right" s_right f fd) (b : Binds K fd ["_law_one", "_law_other"] []) : Cal P w K mg base 4 "_law_right" spRight [] := by
  refine cal0 (k := 3) F b .nil sc_right (fun vs H Q E h => ?_) (fun cdv A outer s H vs Q E hr h => ?_)
  · obtain ⟨a, c, t, b, u, d, rfl, _⟩ := h
    rfl
  · obtain ⟨a, c, t, b, u, d, rfl, ha, hc, hb, hd, B1, B2, B3, B4, q⟩ := h
    refine ⟨_, (pss_cons (ps_set (i := 2) sc_right.nd rfl (Or.inl rfl) (pe_lst (pa_cons (pe_c c_plus hr (by decide) (by rfl) (pa_cons (pv 0) (pa_cons (pv 1) pa_nil))) (pa_cons (pe_c c_times hr (by decide) (by rfl) (pa_cons (pv 0) (pa_cons (pv 1) pa_nil))) pa_nil))))
      (pss_cons (ps_for PassesOwn.never rfl (pi_list (pv 2)) (pg_name (i := 3) sc_right.nd rfl (Or.inl rfl)) (pss_one (ps_if (pt_not (pt_val (pe_c c_is_fraction hr (by decide) (by rfl) (pa_cons (pv 3) pa_nil)))) (pss_one (ps_ret pe_bl)) pss_nil)))
      (pss_cons (ps_set (i := 4) sc_right.nd rfl (Or.inl rfl) (pe_op op_add (pe_op op_mulW (pe_ix (k_ixT K rfl) (pv 0) pe_int (fun _ _ => rfl)) (pe_ix (k_ixT K rfl) (pv 1) pe_int (fun _ _ => rfl))) (pe_op op_mulW (pe_ix (k_ixT K rfl) (pv 1) pe_int (fun _ _ => rfl)) (pe_ix (k_ixT K rfl) (pv 0) pe_int (fun _ _ => rfl)))))
      (pss_cons (ps_set (i := 5) sc_right.nd rfl (Or.inl rfl) (pe_op op_mulW (pe_ix (k_ixT K rfl) (pv 0) pe_int (fun _ _ => rfl)) (pe_ix (k_ixT K rfl) (pv 1) pe_int (fun _ _ => rfl))))
      (pss_cons (ps_if (PW.pt (pw_or (pt_cmpR op_ne (pe_op op_mulW (pe_ix (k_ixT K rfl) (pe_ix (k_ixL K rfl) (pv 2) pe_int (fun _ _ => rfl)) pe_int (fun _ _ => rfl)) (pv 5)) (pe_op op_mulW (pv 4) (pe_ix (k_ixT K rfl) (pe_ix (k_ixL K rfl) (pv 2) pe_int (fun _ _ => rfl)) pe_int (fun _ _ => rfl))) (nomark _)) (pw_or1 (pt_cmpR op_ne (pe_op op_mulW (pe_ix (k_ixT K rfl) (pe_ix (k_ixL K rfl) (pv 2) pe_int (fun _ _ => rfl)) pe_int (fun _ _ => rfl)) (pv 5)) (pe_op op_mulW (pe_op op_mulW (pe_ix (k_ixT K rfl) (pv 0) pe_int (fun _ _ => rfl)) (pe_ix (k_ixT K rfl) (pv 1) pe_int (fun _ _ => rfl))) (pe_ix (k_ixT K rfl) (pe_ix (k_ixL K rfl) (pv 2) pe_int (fun _ _ => rfl)) pe_int (fun _ _ => rfl))) (nomark _))))) (pss_one (ps_ret pe_bl)) pss_nil)
      (pss_cons (ps_set (i := 6) sc_right.nd rfl (Or.inl rfl) (pe_c c_is_less hr (by decide) (by rfl) (pa_cons (pv 0) (pa_cons (pv 1) pa_nil))))
      (pss_one (ps_ret (pe_and (pe_callB (k_isi K rfl) (by rfl) T.isinstance bb_isinstance (pa_cons (pv 6) (pa_cons (pe_bltn (v := .ty "bool") (by rfl) T.bool bb_bool rfl) pa_nil))) (pe_one (pe_cmpR op_eq (pv 6) (pe_cmpR op_lt (pe_op op_mulW (pe_ix (k_ixT K rfl) (pv 0) pe_int (fun _ _ => rfl)) (pe_ix (k_ixT K rfl) (pv 1) pe_int (fun _ _ => rfl))) (pe_op op_mulW (pe_ix (k_ixT K rfl) (pv 1) pe_int (fun _ _ => rfl)) (pe_ix (k_ixT K rfl) (pv 0) pe_int (fun _ _ => rfl))) (nomark _)) (nomark _)))))))))))), ?_⟩
    refine ⟨_, rfl, _, rfl, a, c, t, b, u, d, rfl, ha, hc, by omega, by omega, B1.mono (by decide), B2.mono (by decide), B3.mono (by decide), B4.mono (by decide), fun H1 p1 r1 q1 s1 f1 k1 l1 => ?_⟩
    refine ⟨_, rfl, _, rfl, a, c, t, b, u, d, rfl, s1 _ _ ha, s1 _ _ hc, by omega, by omega, B1.mono (by decide), B2.mono (by decide), B3.mono (by decide), B4.mono (by decide), fun H2 p2 r2 q2 s2 f2 k2 l2 => ?_⟩
    refine ⟨by show 2 ≤ sizeLine; decide, fun l fl => ?_⟩
    have s3 : Same H (upd H2 l (.lst [.ref p1, .ref p2])) := (s1.trans s2).trans (same_new fl)
    have hl : (upd H2 l (.lst [.ref p1, .ref p2])) l = some (.lst [.ref p1, .ref p2]) := upd_same
    have g1 := (s2.trans (same_new (o := .lst [.ref p1, .ref p2]) fl)) _ _ k1
    have g2 := (same_new (o := .lst [.ref p1, .ref p2]) fl) _ _ k2
    have ha3 := s3 _ _ ha
    have hc3 := s3 _ _ hc
    generalize upd H2 l (.lst [.ref p1, .ref p2]) = H3 at s3 hl g1 g2 ha3 hc3
    refine ⟨_, rfl, l, rfl, ⟨_, SqL.of hl⟩, for_list (xs := [.ref p1, .ref p2]) (fun i σ H' => ∃ y, σ = [some (.ref a), some (.ref c), some (.ref l), y, none, none, none] ∧ H' = H3) ⟨none, rfl, rfl⟩ (fun i σ H' _ h => ?_) (fun i x σ H' hx h => ?_) (fun σ H' h => ?_)⟩
    · obtain ⟨y, rfl, rfl⟩ := h
      exact SqL.of hl
    · obtain ⟨y, rfl, rfl⟩ := h
      match i, hx with
      | 0, hx =>
        obtain rfl := Option.some.inj hx
        exact ⟨_, rfl, p1, r1, q1, rfl, g1, l1.pos, l1.cop, true, rfl, iteF ⟨_, rfl, rfl⟩⟩
      | 1, hx =>
        obtain rfl := Option.some.inj hx
        exact ⟨_, rfl, p2, r2, q2, rfl, g2, l2.pos, l2.cop, true, rfl, iteF ⟨_, rfl, rfl⟩⟩
    · obtain ⟨y, rfl, rfl⟩ := h
      have W1 : B 301 (t * d + u * b) := (B1.mul B4).add (B3.mul B2)
      have W2 : B 300 (b * d) := B2.mul B4
      refine ⟨_, rfl, a, _, 0, _, rfl, rfl, SqT.of ha3, rfl, _, rfl, c, _, 1, _, rfl, rfl, SqT.of hc3, rfl, _, _, rfl, rfl, B1.cm B4 (by decide), _, rfl, c, _, 0, _, rfl, rfl, SqT.of hc3, rfl, _, rfl, a, _, 1, _, rfl, rfl, SqT.of ha3, rfl, _, _, rfl, rfl, B3.cm B2 (by decide), _, _, rfl, rfl, ?_⟩
      refine ⟨_, rfl, a, _, 1, _, rfl, rfl, SqT.of ha3, rfl, _, rfl, c, _, 1, _, rfl, rfl, SqT.of hc3, rfl, _, _, rfl, rfl, B2.cm B4 (by decide), ?_⟩
      refine ⟨_, rfl, l, _, 0, _, rfl, rfl, SqL.of hl, rfl, p1, _, 0, _, rfl, rfl, SqT.of g1, rfl, _, rfl, _, _, rfl, rfl, (W1.le l1.lt).cm W2 (by decide), _, rfl, _, rfl, l, _, 0, _, rfl, rfl, SqL.of hl, rfl, p1, _, 1, _, rfl, rfl, SqT.of g1, rfl, _, _, rfl, rfl, W1.cm (W2.le l1.lb) (by decide), rfl, _, rfl, iteNS (congrArg V.int l1.eq) ?_⟩
      refine ⟨_, rfl, l, _, 1, _, rfl, rfl, SqL.of hl, rfl, p2, _, 0, _, rfl, rfl, SqT.of g2, rfl, _, rfl, _, _, rfl, rfl, ((B1.mul B3).le l2.lt).cm W2 (by decide), _, rfl, a, _, 0, _, rfl, rfl, SqT.of ha3, rfl, _, rfl, c, _, 0, _, rfl, rfl, SqT.of hc3, rfl, _, _, rfl, rfl, B1.cm B3 (by decide), _, rfl, l, _, 1, _, rfl, rfl, SqL.of hl, rfl, p2, _, 1, _, rfl, rfl, SqT.of g2, rfl, _, _, rfl, rfl, (B1.mul B3).cm (W2.le l2.lb) (by decide), rfl, _, rfl, iteNS (congrArg V.int l2.eq) ?_⟩
      refine ⟨_, rfl, _, rfl, a, c, t, b, u, d, rfl, ha3, hc3, B1.mono (by decide), B2.mono (by decide), B3.mono (by decide), B4.mono (by decide), ?_⟩
      refine ⟨_, rfl, .bl _, .ty "bool", _, _, true, rfl, .ty _, .base (.bl _), kit_ty (by decide +kernel), true, rfl, iteT ?_⟩
      refine ⟨_, rfl, _, rfl, a, _, 0, _, rfl, rfl, SqT.of ha3, rfl, _, rfl, c, _, 1, _, rfl, rfl, SqT.of hc3, rfl, _, _, rfl, rfl, B1.cm B4 (by decide), _, rfl, c, _, 0, _, rfl, rfl, SqT.of hc3, rfl, _, rfl, a, _, 1, _, rfl, rfl, SqT.of ha3, rfl, _, _, rfl, rfl, B3.cm B2 (by decide), _, _, rfl, rfl, rfl, ?_⟩
      dsimp only
      rw [decide_eq_true rfl]
      exact q _ s3
/-! ### the law -/
def spLaw (K : PySem.W.Frag) : Sp := fun vs H Q _ => ∃ (a : Addr) (ns : List Int), vs = [.ref a] ∧ SqL K H a (ns.map V.int) ∧ ns.length ≤ 63 ∧ ∀ H', Q (.bl true) H'
theorem big_B {n : Int} (h : n.natAbs ≤ 10000000000000000000000000000000000000000) : B 134 n := Nat.lt_of_le_of_lt h (by decide)
def GoodF (H : Hp) (v : V) : Prop := ∃ a t b, v = .ref a ∧ Fr H a t b ∧ 0 < b ∧ B 150 t ∧ B 150 b
theorem GoodF.of {H H' : Hp} {v : V} (g : GoodF H v) (e : ∀ a xs, H a = some (.tup xs) → H' a = some (.tup xs)) : GoodF H' v := by
  obtain ⟨a, t, b, h1, h2, h3⟩ := g
  exact ⟨a, t, b, h1, e _ _ h2, h3⟩
theorem Dp.fr {H : Hp} {a : Addr} {t b : Int} (h : Fr H a t b) : Dp K H (.ref a) (.tuple [.int t, .int b]) := .tup (SqT.of h) (.cons (.int t) (.cons (.int b) .nil))
abbrev s_law : Stmt := topS 16
theorem sc_law : FnScope ["_law_script", "_law_deck_here", "_law_found", "_law_turn", "_law_one", "_law_by", "_law_other", "_law_top", "_law_bottom_here"] ["_law_script"] (fnScope s_law) := ⟨rfl, rfl, rfl, by decide +kernel, rfl, by decide +kernel, by decide +kernel⟩
theorem c_law (T : Mb mg) (c_deck : Cal P w K mg base 2 "_law_deck" (spDeck K) []) (c_next : Cal P w K mg base 1 "_law_next" spNext []) (c_number : Cal P w K mg base 2 "_law_number" spNumber []) (c_bottom : Cal P w K mg base 3 "_law_bottom" spBottom [])
    (c_lowest_terms : Cal P w K mg base 2 "lowest_terms" spLow []) (c_is_fraction : Cal P w K mg base 2 "_law_is_fraction" spIsFr []) (c_right : Cal P w K mg base 4 "_law_right" spRight [])
    (F : C8.Fun K "law" "law" s_law f fd) : FnOk P w K mg base C8.CX0 5 f fd ["_law_script"] (spLaw K) := by
  refine C8.fn0 (k := 4) F sc_law (fun vs H Q E h => ?_) (fun cdv A outer s H vs Q E hr h => ?_)
  · obtain ⟨a, ns, rfl, _⟩ := h
    rfl
  · obtain ⟨a, ns, rfl, hS, hl, q⟩ := h
    refine ⟨_, (pss_cons (ps_set (i := 1) sc_law.nd rfl (Or.inl rfl) (pe_c c_deck hr (by decide) (by rfl) (pa_cons (pv 0) (pa_cons pe_int pa_nil))))
      (pss_cons (ps_set (i := 2) sc_law.nd rfl (Or.inl rfl) (pe_lst pa_nil))
      (pss_cons (ps_for PassesOwn.never rfl (pi_range1 (by rfl) T.range (pa_cons pe_int pa_nil)) (pg_name (i := 3) sc_law.nd rfl (Or.inl rfl)) (pss_cons (ps_par (i := 7) (j := 8) (by rfl) sc_law.nd rfl rfl (by decide) rfl rfl (pa_cons (pe_c c_number hr (by decide) (by rfl) (pa_cons (pv 1) pa_nil)) (pa_cons (pe_c c_bottom hr (by decide) (by rfl) (pa_cons (pv 1) pa_nil)) pa_nil)) (by rfl))
      (pss_cons (ps_set (i := 5) sc_law.nd rfl (Or.inl rfl) (pe_op op_add pe_int (pe_op op_mod (pe_c c_next hr (by decide) (by rfl) (pa_cons (pv 1) pa_nil)) pe_int)))
      (pss_cons (ps_set (i := 4) sc_law.nd rfl (Or.inl rfl) (pe_c c_lowest_terms hr (by decide) (by rfl) (pa_cons (pe_op op_mulW (pv 7) (pv 5)) (pa_cons (pe_op op_mulW (pv 8) (pv 5)) pa_nil))))
      (pss_cons (ps_if (PW.pt (pw_or (pt_not (pt_val (pe_c c_is_fraction hr (by decide) (by rfl) (pa_cons (pv 4) pa_nil)))) (pw_or (pt_cmpR op_ne (pe_op op_mulW (pe_ix (k_ixT K rfl) (pv 4) pe_int (fun _ _ => rfl)) (pv 8)) (pe_op op_mulW (pv 7) (pe_ix (k_ixT K rfl) (pv 4) pe_int (fun _ _ => rfl))) (nomark _)) (pw_or1 (pt_cmpR (k_neD K rfl hr.units) (pe_c c_lowest_terms hr (by decide) (by rfl) (pa_cons (pv 7) (pa_cons (pv 8) pa_nil))) (pv 4) (nomark _)))))) (pss_one (ps_ret pe_bl)) pss_nil)
      (pss_one (ps_expr (pe_bm PySem.F.plainAttrs_list PySem.F.slot_list_append PySem.F.type_list_append mt_append (pv 2) (pa_cons (pv 4) pa_nil)))))))))
      (pss_cons (ps_for PassesOwn.never rfl (pi_list (pv 2)) (pg_name (i := 4) sc_law.nd rfl (Or.inl rfl)) (pss_one (ps_for PassesOwn.never rfl (pi_list (pv 2)) (pg_name (i := 6) sc_law.nd rfl (Or.inl rfl)) (pss_one (ps_if (pt_not (pt_val (pe_c c_right hr (by decide) (by rfl) (pa_cons (pv 4) (pa_cons (pv 6) pa_nil))))) (pss_one (ps_ret pe_bl)) pss_nil)))))
      (pss_one (ps_ret pe_bl)))))), ?_⟩
    refine ⟨_, rfl, a, ns, 200, rfl, hS, hl, by decide, by decide, fun H1 d s1 fd1 d1 => ?_⟩
    refine ⟨Nat.zero_le _, fun l fl => ?_⟩
    have nl : l ≠ d := d1.ne_none fl
    have d2 : Deck (upd H1 l (.lst [])) d := d1.same (same_new fl)
    refine ⟨6, rfl, by decide, by decide, for_range (lo := 0) (n := 6) (fun i σ H' => ∃ y3 y4 y5 y6 y7 y8, σ = [some (.ref a), some (.ref d), some (.ref l), y3, y4, y5, y6, y7, y8] ∧ Deck H' d ∧ ∃ vs, H' l = some (.lst vs) ∧ vs.length = i ∧ ∀ v ∈ vs, GoodF H' v) ?_ (fun i σ H' hi h => ?_) (fun σ H' h => ?_)⟩
    · exact ⟨none, none, none, none, none, none, rfl, d2, [], upd_same, rfl, fun v hv => by cases hv⟩
    · obtain ⟨y3, y4, y5, y6, y7, y8, rfl, hd, vs, hv, ev, gv⟩ := h
      refine ⟨_, rfl, d, rfl, hd, fun x H3 hx o3 d3 => ?_⟩
      refine ⟨_, rfl, d, rfl, d3, fun y H4 hy0 hy o4 d4 => ⟨_, _, rfl, ?_⟩⟩
      refine ⟨_, rfl, d, rfl, d4, fun z H5 z0 z1 o5 d5 => ⟨_, _, rfl, rfl, (by show (0 : Int) < 1000; decide), _, _, rfl, rfl, ?_⟩⟩
      have k0 := Int.emod_nonneg z (show (1000 : Int) ≠ 0 by decide)
      have k1 := Int.emod_lt_of_pos z (show (0 : Int) < 1000 by decide)
      have ek : ∃ k, k = 1 + z % 1000 := ⟨_, rfl⟩
      obtain ⟨k, ek⟩ := ek
      dsimp only
      rw [← ek]
      have hk0 : k ≠ 0 := by omega
      have Bk : B 10 k := by
        unfold B
        omega
      have Bx := big_B hx
      have By := big_B hy
      refine ⟨_, rfl, _, rfl, _, _, rfl, rfl, Bx.cm Bk (by decide), _, rfl, _, rfl, _, _, rfl, rfl, By.cm Bk (by decide), _, _, rfl, Int.mul_ne_zero hy0 hk0, (By.mul Bk).mono (by decide), fun H6 p t b s6 f6 h6 low => ?_⟩
      refine ⟨_, rfl, p, t, b, rfl, h6, low.pos, low.cop, true, rfl, iteF ?_⟩
      have Bt : B 144 t := (Bx.mul Bk).le low.lt
      have Bb : B 144 b := (By.mul Bk).le low.lb
      refine ⟨_, rfl, p, _, 0, _, rfl, rfl, SqT.of h6, rfl, _, rfl, _, _, rfl, rfl, Bt.cm By (by decide), _, rfl, _, rfl, p, _, 1, _, rfl, rfl, SqT.of h6, rfl, _, _, rfl, rfl, Bx.cm Bb (by decide), rfl, _, rfl, iteNS (congrArg V.int (low.up hk0)) ?_⟩
      refine ⟨_, rfl, _, rfl, x, y, rfl, hy0, By.mono (by decide), fun H7 p7 t7 b7 s7 f7 h7 low7 => ?_⟩
      obtain ⟨rfl, rfl⟩ := low.same low7 hk0 hy0
      have h67 := s7 _ _ h6
      refine ⟨_, rfl, _, _, Dp.fr h7, Dp.fr h67, rfl, rfl, _, rfl, ?_⟩
      rw [SeqAt.eqv_refl _ rfl]
      refine iteF ?_
      have o7 : Of d H' H7 := (o3.trans (o4.trans o5)).trans (Of.same (s6.trans s7))
      have hv7 : H7 l = some (.lst vs) := o7 l _ nl hv
      have d7 : Deck H7 d := d5.same (s6.trans s7)
      refine ⟨_, rfl, .inl ⟨rfl, _, SqL.of hv7⟩, _, rfl, l, vs, _, rfl, rfl, hv7, small1000 (by omega), ?_⟩
      have ntup : ∀ a xs, H7 a = some (.tup xs) → (upd H7 l (.lst (vs ++ [.ref p]))) a = some (.tup xs) := fun a xs e => by
        rw [upd_ne (ne_of e hv7 (fun z => by cases z))]
        exact e
      refine ⟨_, _, _, _, _, _, rfl, ⟨?_, _, upd_same, ?_, fun v hm => ?_⟩⟩
      · obtain ⟨ms, e1, e2⟩ := d7
        exact ⟨ms, by rw [upd_ne nl.symm]; exact e1, e2⟩
      · rw [List.length_append, ev]
        rfl
      · rcases (List.mem_append.mp hm : _ ∨ _) with hm | hm
        · exact (gv v hm).of fun a xs e => ntup a xs (hd.tup o7 e)
        · rw [(List.mem_singleton.mp hm : _ = _)]
          exact ⟨p, _, _, rfl, ntup _ _ h67, low.pos, Bt.mono (by decide), Bb.mono (by decide)⟩
    · obtain ⟨y3, y4, y5, y6, y7, y8, rfl, hd, vs, hv, ev, gv⟩ := h
      have gat : ∀ i x, vs[i]? = some x → GoodF H' x := fun i x e => gv x (List.mem_of_getElem? e)
      refine ⟨_, rfl, l, rfl, ⟨_, SqL.of hv⟩, for_list (xs := vs) (fun i σ H2 => ∃ y3 y4 y5 y6 y7 y8, σ = [some (.ref a), some (.ref d), some (.ref l), y3, y4, y5, y6, y7, y8] ∧ Same H' H2) ⟨_, _, _, _, _, _, rfl, Same.refl _⟩ (fun i σ H2 _ h => ?_) (fun i x σ H2 hx h => ?_) (fun σ H2 h => ?_)⟩
      · obtain ⟨y3, y4, y5, y6, y7, y8, rfl, sm⟩ := h
        exact SqL.of (sm _ _ hv)
      · obtain ⟨y3, y4, y5, y6, y7, y8, rfl, sm⟩ := h
        refine ⟨_, rfl, l, rfl, ⟨_, SqL.of (sm _ _ hv)⟩, for_list (xs := vs) (fun i σ H3 => ∃ y3 y5 y6 y7 y8, σ = [some (.ref a), some (.ref d), some (.ref l), y3, some x, y5, y6, y7, y8] ∧ Same H' H3) ⟨_, _, _, _, _, rfl, sm⟩ (fun j σ H3 _ h => ?_) (fun j z σ H3 hz h => ?_) (fun σ H3 h => ?_)⟩
        · obtain ⟨y3, y5, y6, y7, y8, rfl, sm⟩ := h
          exact SqL.of (sm _ _ hv)
        · obtain ⟨y3, y5, y6, y7, y8, rfl, sm⟩ := h
          obtain ⟨p, t, b, rfl, hp, hb, Bt, Bb⟩ := (gat i x hx).of fun a xs e => sm _ _ e
          obtain ⟨p2, t2, b2, rfl, hp2, hb2, Bt2, Bb2⟩ := (gat j z hz).of fun a xs e => sm _ _ e
          exact ⟨_, rfl, _, rfl, p, p2, t, b, t2, b2, rfl, hp, hp2, hb, hb2, Bt, Bb, Bt2, Bb2, fun H4 s4 => ⟨true, rfl, iteF ⟨_, _, _, _, _, rfl, sm.trans s4⟩⟩⟩
        · obtain ⟨y3, y5, y6, y7, y8, rfl, sm⟩ := h
          exact ⟨_, _, _, _, _, _, rfl, sm⟩
      · obtain ⟨y3, y4, y5, y6, y7, y8, rfl, sm⟩ := h
        exact q _
end
theorem all_in {l : PySem.W.OpenLaw} {w : World} {K : PySem.W.Frag} {h : Heap} {mg : Str → Option Value} {fa : Addr} (X : K.In h) (G : h.Ns mainGlobals mg) (hfa : mg "law" = some (.ref fa)) (N : NonIn K)
    (d_mixed : DefIn K "_law_mixed" s_mixed) (d_next : DefIn K "_law_next" s_next) (d_whole : DefIn K "_law_whole" s_whole) (d_divisor : DefIn K "_law_divisor" s_divisor) (d_common_divisor : DefIn K "common_divisor" s_common_divisor) (d_deck : DefIn K "_law_deck" s_deck) (d_lowest_terms : DefIn K "lowest_terms" s_lowest_terms) (d_plus : DefIn K "plus" s_plus) (d_times : DefIn K "times" s_times) (d_is_less : DefIn K "is_less" s_is_less) (d_is_fraction : DefIn K "_law_is_fraction" s_is_fraction) (d_number : DefIn K "_law_number" s_number) (d_bottom : DefIn K "_law_bottom" s_bottom) (d_right : DefIn K "_law_right" s_right) (d_law : DefIn K "law" s_law) :
    ∃ fd : FuncData, (∀ (s : Shared) (v : Value), BindsTo s fd ⟨[v], []⟩ [("_law_script", v)]) ∧ ∀ base : Heap, K.In base → base.Ns mainGlobals mg → FnOk l.prog w K mg base C8.CX0 5 fa fd ["_law_script"] (spLaw K) := by
  have T := N.mb X G
  obtain ⟨f_mixed, g_mixed, F_mixed, e_mixed⟩ := d_mixed.get X G
  obtain ⟨f_next, g_next, F_next, e_next⟩ := d_next.get X G
  obtain ⟨f_whole, g_whole, F_whole, e_whole⟩ := d_whole.get X G
  obtain ⟨f_divisor, g_divisor, F_divisor, e_divisor⟩ := d_divisor.get X G
  obtain ⟨f_common_divisor, g_common_divisor, F_common_divisor, e_common_divisor⟩ := d_common_divisor.get X G
  obtain ⟨f_deck, g_deck, F_deck, e_deck⟩ := d_deck.get X G
  obtain ⟨f_lowest_terms, g_lowest_terms, F_lowest_terms, e_lowest_terms⟩ := d_lowest_terms.get X G
  obtain ⟨f_plus, g_plus, F_plus, e_plus⟩ := d_plus.get X G
  obtain ⟨f_times, g_times, F_times, e_times⟩ := d_times.get X G
  obtain ⟨f_is_less, g_is_less, F_is_less, e_is_less⟩ := d_is_less.get X G
  obtain ⟨f_is_fraction, g_is_fraction, F_is_fraction, e_is_fraction⟩ := d_is_fraction.get X G
  obtain ⟨f_number, g_number, F_number, e_number⟩ := d_number.get X G
  obtain ⟨f_bottom, g_bottom, F_bottom, e_bottom⟩ := d_bottom.get X G
  obtain ⟨f_right, g_right, F_right, e_right⟩ := d_right.get X G
  obtain ⟨f_law, g_law, F_law, e_law⟩ := d_law.get X G
  have ef : f_law = fa := by
    have z := F_law.mgf.symm.trans hfa
    cases z
    rfl
  subst ef
  refine ⟨g_law, fun s v => ?_, fun base _ _ => ?_⟩
  · obtain ⟨oc, od, dV, kV, doc, pm, an, cdv, ct, osl, rfl, lk, hcd⟩ := F_law.fn.ex; obtain rfl : dV = .none := e_law
    exact .of_eq rfl
  · skip
    have c_mixed := c_mixed (P := l.prog) (w := w) (base := base)  F_mixed (F_mixed.fn.binds e_mixed fun _ _ _ _ _ _ us hl => match us, hl with | [_, _], _ => rfl)
    have c_next := c_next (P := l.prog) (w := w) (base := base) T F_next (F_next.fn.binds e_next fun _ _ _ _ _ _ us hl => match us, hl with | [_], _ => rfl)
    have c_whole := c_whole (P := l.prog) (w := w) (base := base) T F_whole (F_whole.fn.binds e_whole fun _ _ _ _ _ _ us hl => match us, hl with | [_], _ => rfl)
    have c_divisor := c_divisor (P := l.prog) (w := w) (base := base) T F_divisor (F_divisor.fn.binds e_divisor fun _ _ _ _ _ _ us hl => match us, hl with | [_, _], _ => rfl)
    have c_common_divisor := c_common_divisor (P := l.prog) (w := w) (base := base) T F_common_divisor (F_common_divisor.fn.binds e_common_divisor fun _ _ _ _ _ _ us hl => match us, hl with | [_, _], _ => rfl)
    have c_deck := c_deck (P := l.prog) (w := w) (base := base) T c_mixed F_deck (F_deck.fn.binds e_deck fun _ _ _ _ _ _ us hl => match us, hl with | [_, _], _ => rfl)
    have c_lowest_terms := c_lowest_terms (P := l.prog) (w := w) (base := base) c_common_divisor F_lowest_terms (F_lowest_terms.fn.binds e_lowest_terms fun _ _ _ _ _ _ us hl => match us, hl with | [_, _], _ => rfl)
    have c_plus := c_plus (P := l.prog) (w := w) (base := base) c_lowest_terms F_plus (F_plus.fn.binds e_plus fun _ _ _ _ _ _ us hl => match us, hl with | [_, _], _ => rfl)
    have c_times := c_times (P := l.prog) (w := w) (base := base) c_lowest_terms F_times (F_times.fn.binds e_times fun _ _ _ _ _ _ us hl => match us, hl with | [_, _], _ => rfl)
    have c_is_less := c_is_less (P := l.prog) (w := w) (base := base)  F_is_less (F_is_less.fn.binds e_is_less fun _ _ _ _ _ _ us hl => match us, hl with | [_, _], _ => rfl)
    have c_is_fraction := c_is_fraction (P := l.prog) (w := w) (base := base) T c_whole c_divisor F_is_fraction (F_is_fraction.fn.binds e_is_fraction fun _ _ _ _ _ _ us hl => match us, hl with | [_], _ => rfl)
    have c_number := c_number (P := l.prog) (w := w) (base := base) c_next F_number (F_number.fn.binds e_number fun _ _ _ _ _ _ us hl => match us, hl with | [_], _ => rfl)
    have c_bottom := c_bottom (P := l.prog) (w := w) (base := base) c_next c_number F_bottom (F_bottom.fn.binds e_bottom fun _ _ _ _ _ _ us hl => match us, hl with | [_], _ => rfl)
    have c_right := c_right (P := l.prog) (w := w) (base := base) T c_plus c_times c_is_less c_is_fraction F_right (F_right.fn.binds e_right fun _ _ _ _ _ _ us hl => match us, hl with | [_, _], _ => rfl)
    exact c_law T c_deck c_next c_number c_bottom c_lowest_terms c_is_fraction c_right F_law.fn
end Z
open PySem PySem.W PyProof.Rows
set_option maxHeartbeats 0 in
theorem PySem.Challenge.cw_fallgain_k82_fractions_holds : PySem.Challenge.rw_fallgain_k82_fractions.Holds := by
  w_on; o_law; k_head; (case hw => w_witness2)
  k_fill
  refine L2.walk_of (l := PySem.Challenge.rw_fallgain_k82_fractions) (n := 63) (k := 5) (x := "_law_script") (CX := fun _ => C8.CX0) (sp := fun w => Z.spLaw _) rfl (by decide) rfl ⟨rfl, by decide, by decide⟩ (fun w h Y => PySem.W.kIn_of Y) ?F (fun _ _ a ns hl _ hS => ⟨a, ns, rfl, hS, hl, fun _ => rfl⟩) (fun _ _ _ _ _ h => h)
  case F =>
    intro w mg fa h KX G hmg
    refine' Z.all_in KX G hmg ?n ?d0 ?d1 ?d2 ?d3 ?d4 ?d5 ?d6 ?d7 ?d8 ?d9 ?d10 ?d11 ?d12 ?d13 ?d14
    case n => intro x hx; simp only [List.mem_cons, List.not_mem_nil, or_false] at hx; (rcases hx with rfl | rfl | rfl | rfl | rfl | rfl | rfl | rfl | rfl | rfl | rfl | rfl | rfl | rfl | rfl | rfl | rfl | rfl) <;> k_is
    all_goals (refine' Z.din ?a ?l ?c ?k; (case a => k_is); (case l => k_is); (case c => k_is); (case k => k_is))
