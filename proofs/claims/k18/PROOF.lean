import PyProof.Rows.All
import Wide.All
import OpenK.AllK
import Wide.FinOn
import HandS.Base
import HandS.Call
import HandS.List
import HandS.Comp
import HandS.Ends
import HandS.Rev
import HandS.ForMost
import HandS.Codes
import HandS.Wide
import HandS.WideBits
import HandS.IsInst
import HandS.Conv
import HandS.EndBits
import KE.GoesEnum
import KE.GoesMore
import PySem.Challenge.RW_fallgain_k18_prices
set_option Elab.async false
set_option linter.all false
set_option maxRecDepth 100000
set_option maxHeartbeats 4000000
namespace Z
open PySem PySem.Spec PyProof.Rows L2 RT
section
variable {prog : Program} {w : World} {A : Around} {E : Value → Shared → Prop} {s : Shared}
/-- an empty list takes all that a reversed list's iterator gives -/
theorem ext_rev {R : Result → Shared → Prop} {S it l : Addr} {c0 : Nat} {res : Value} {xs : Array Value} (hh : A.handled = none) (a1 : s.heap.IsRevIter it l ((xs.size : Int) - 1)) (a2 : s.heap.IsList l xs) (a3 : l ≠ it) (a4 : xs.size ≤ sizeLine) (n1 : S ≠ it) (n2 : S ≠ l)
    (hS : s.heap.get? S = some { cls := .type "list", data := .seq #[] c0 })
    (hR : ∀ (h' : Heap) (tk : Nat) (acc : Array Value) (c' : Nat), (∀ b o, b ≠ it → b ≠ S → s.heap.get? b = some o → h'.get? b = some o) → h'.get? S = some { cls := .type "list", dict := none, data := .seq acc c', slots := #[] } →
      ItemsOf (fun i v => xs[xs.size - 1 - i]? = some v) acc xs.size → R (.ok (.ret res)) { s with heap := h', toks := tk }) :
    wpAny (model prog w) A.in1 (Builtin.List.listExtendWith (.ref S) (.ref it) res)
      (fun fin s' => match fin with | .done f => R (.ok f) s' | .again c' => c'.quiet = true ∧ codeAny (model prog w) A c' R s') (fun e s' => R (.error e) s') s := by
  have WW := (Walks.listRev (prog := prog) (w := w) (A := A.in1) hh it l a3 xs).toS
  have nS : S ∉ [it, l] := by
    intro z
    rcases List.mem_cons.mp z with z | z
    · exact n1 z
    · exact n2 (List.mem_singleton.mp z)
  have ty : s.TypeIs (.ref it) "list_reverseiterator" := a1.typeIs
  have no : Builtin.List.listSameRef (.ref S) (.ref it) = false := by simp [Builtin.List.listSameRef, n1]
  unfold Builtin.List.listExtendWith
  refine wpAny_bind (wpAny_typeOf ty ?_); rw [if_neg (by rw [no]; decide)]
  refine wpAny_bind (wpAny_pyIter_revIter a1 ?_); refine wpAny_bind (wpAny_holding ?_)
  unfold Builtin.List.listLengthHint
  refine wpAny_bind (wpAny_specialOf ty nolen_lri ?_)
  show wpAny _ A.in1 (specialOf (Value.ref it) (Str.ofString "__length_hint__") >>= fun _ => _) _ _ _
  refine wpAny_bind (wpAny_specialOf ty hint_lri ?_)
  generalize nm : ("list_reverseiterator.__length_hint__" : String) = id1
  wp_delta
  rw [show splitId id1 = some ("list_reverseiterator", "__length_hint__") from by rw [← nm]; decide +kernel]
  subst nm
  refine wpAny_bind (wpAny_isInstance (b := true) ty (by rw [isSubtype_type]; kernel_rfl) ?_); refine wpAny_pure ?_
  rw [if_neg (by decide)]
  have z0 : ((xs.size : Nat) : Int) - 1 - ((0 : Nat) : Int) = (xs.size : Int) - 1 := by omega
  refine wpAny_pure ⟨plainId_quiet F.plain_extend_loop _, codeAny_extend_loopS WW a4 _ nS _ xs.size 0 _ _ _ rfl (Nat.zero_le _) ⟨Nat.zero_le _, by rw [z0]; exact a1, a2⟩ hS (ItemsOf.nil _) fun s2 acc2 c2 hm q2 q3 => ?_⟩
  rw [Moved.eq_with hm]
  refine hR s2.heap s2.toks acc2 c2 (fun b o hb hc e => hm.heap b o (fun z => ?_) e) q2 q3
  rcases List.mem_cons.mp z with z | z
  · exact hc z
  · exact hb (List.mem_singleton.mp z)
theorem init_rev {R : Result → Shared → Prop} {S it l : Addr} {xs : Array Value} (hh : A.handled = none) (a1 : s.heap.IsRevIter it l ((xs.size : Int) - 1)) (a2 : s.heap.IsList l xs) (a3 : l ≠ it) (a4 : xs.size ≤ sizeLine) (n1 : S ≠ it) (n2 : S ≠ l)
    (hS : s.heap.get? S = some { cls := .type "list", data := .seq #[] })
    (hR : ∀ (h' : Heap) (tk : Nat) (acc : Array Value) (c' : Nat), (∀ b o, b ≠ it → b ≠ S → s.heap.get? b = some o → h'.get? b = some o) → h'.get? S = some { cls := .type "list", dict := none, data := .seq acc c', slots := #[] } →
      ItemsOf (fun i v => xs[xs.size - 1 - i]? = some v) acc xs.size → R (.ok (.ret .none)) { s with heap := h', toks := tk }) :
    wpAny (model prog w) A.in1 (Builtin.«list.__init__» ⟨[.ref S, .ref it], []⟩)
      (fun fin s' => match fin with | .done f => R (.ok f) s' | .again c' => c'.quiet = true ∧ codeAny (model prog w) A c' R s') (fun e s' => R (.error e) s') s := by
  show wpAny _ A.in1 (do
    let old ← Builtin.List.listItems (.ref S)
    Builtin.List.listUpdate (.ref S) (fun _ => #[])
    letGo old.toList.reverse
    Builtin.List.listExtendWith (.ref S) (.ref it) .none) _ _ s
  refine wpAny_bind ?_
  unfold Builtin.List.listItems
  refine wpAny_bind (wpAny_seqItems hS rfl (wpAny_pure ?_))
  show wpAny _ A.in1 (updateSeq S (fun _ => #[]) >>= fun _ => letGo (#[] : Array Value).toList.reverse >>= fun _ =>
    Builtin.List.listExtendWith (.ref S) (.ref it) .none) _ _ s
  refine wpAny_bind (wpAny_updateSeq hS rfl ?_)
  have h2 := Heap.get?_update_self (Obj.mapSeq (fun _ => (#[] : Array Value))) hS rfl
  have oth : ∀ b o, b ≠ S → s.heap.get? b = some o → (s.heap.update S (Obj.mapSeq (fun _ => (#[] : Array Value)))).get? b = some o := fun b o hb e => (Heap.get?_update_other _ _ (Ne.symm hb)).trans e
  refine wpAny_bind (wpAny_letGo ?_)
  refine ext_rev (s := { s with heap := s.heap.update S (Obj.mapSeq (fun _ => (#[] : Array Value))) }) hh (a1.at fun o e => oth _ o n1.symm e) ?_ a3 a4 n1 n2 h2 fun h' tk acc c' k1 k2 k3 => ?_
  · obtain ⟨o, e, r⟩ := a2
    exact ⟨o, oth _ o n2.symm e, r⟩
  · exact hR h' tk acc c' (fun b o hb hc e => k1 b o hb hc (oth b o hc e)) k2 k3
theorem call_list_rev {Q : Value → Shared → Prop} {it l : Addr} {xs : Array Value} (hh : A.handled = none) (a1 : s.heap.IsRevIter it l ((xs.size : Int) - 1)) (a2 : s.heap.IsList l xs) (a3 : l ≠ it) (a4 : xs.size ≤ sizeLine)
    (hQ : ∀ (h' : Heap) (tk : Nat) (acc : Array Value) (c' : Nat), (∀ b o, b ≠ it → s.heap.get? b = some o → h'.get? b = some o) → h'.get? s.heap.objs.size = some { cls := .type "list", dict := none, data := .seq acc c', slots := #[] } →
      ItemsOf (fun i v => xs[xs.size - 1 - i]? = some v) acc xs.size → Q (.ref s.heap.objs.size) { s with heap := h', toks := tk }) :
    wpAny (model prog w) A (call (.type "list") [.ref it]) Q E s := by
  obtain ⟨oi, e1, q1⟩ := id a1
  obtain ⟨ol, e2, q2⟩ := id a2
  refine callType_codes (Q₁ := fun obj s1 => obj = .ref s.heap.objs.size ∧ s1 = { s with heap := s.heap.push { cls := .type "list", data := .seq #[] } }) F.called_list (F.typeCall_list_1 _) F.entry_list_init (code_list_new _ ⟨rfl, rfl⟩) fun obj s1 h1 => ?_
  obtain ⟨rfl, rfl⟩ := h1
  have hS : (s.heap.push { cls := .type "list", data := .seq #[] }).get? s.heap.objs.size = some { cls := .type "list", data := .seq #[] } := Heap.get?_push_size _ rfl
  refine ⟨⟨_, hS, rfl⟩, F.args_list_init_2 _ _, init_rev (A := A.in1) hh (a1.at fun o e => Heap.get?_push_of_some _ e) (a2.push _) a3 a4 (Nat.ne_of_gt (Heap.lt_size e1)) (Nat.ne_of_gt (Heap.lt_size e2)) hS fun h' tk acc c' k1 k2 k3 => ?_⟩
  exact ⟨rfl, hQ h' tk acc c' (fun b o hb e => k1 b o hb (Nat.ne_of_lt (Heap.lt_size e)) (Heap.get?_push_of_some _ e)) k2 k3⟩
end
section
variable {X : Cx}
def tLstRev (K : PySem.W.Frag) (te : TE) : TE := fun σ H Q => te σ H fun v H1 => ∃ (a : Addr) (xs : List V), v = .ref a ∧ SqL K H1 a xs ∧ ∀ q, H1 q = none → Q (.ref q) (upd H1 q (.lst xs.reverse))
/-- list(reversed(x)), x a list: a new list -/
theorem pe_listRev {e : Expr} {te : TE} {p p2 pos pos2 : Pos} (hc : X.calm = true) (hg : Gl X "list") (hm : X.mg "list" = none) (hg2 : Gl X "reversed") (hm2 : X.mg "reversed" = none) (he : PE X e te)
    (hs : starEach [e] X.env = (false, eval e X.env) :: starEach [] X.env := by rfl)
    (hs2 : starEach [.Call (.Name "reversed" p2) [e] [] pos2] X.env = (false, eval (.Call (.Name "reversed" p2) [e] [] pos2) X.env) :: starEach [] X.env := by rfl) :
    PE X (.Call (.Name "list" p) [.Call (.Name "reversed" p2) [e] [] pos2] [] pos) (tLstRev X.K te) := by
  refine ⟨fun pins s σ H Q I h => ?_⟩
  refine Call_ (ld_blt I hg hm (show bootBuiltins "list" = some (.type "list") by decide +kernel) (PyProof.Rows.callWith_type1 (args_cons (Call_ (ld_blt I hg2 hm2 PyProof.Rows.boot_reversed (PyProof.Rows.callWith_type1 (args_cons (thn (he.run pins s σ H _ I h) fun u s1 ⟨v, H1, J, r1, q1⟩ => args_nil ?_) hs) hs rfl))) hs2) hs2 rfl))
  obtain ⟨a, xs, ev, hq, q⟩ := q1; subst ev; obtain rfl : u = Value.ref a := r1
  obtain ⟨its, rv, pp, hz⟩ := J.list hq
  refine call_reversed_list pp.isList (args_nil ?_)
  have I2 : Inv X pins σ H1 { s1 with heap := s1.heap.push (revObj a ((its.toArray.size : Int) - 1)) } := J.kept (t' := s1.toks) fun b o e => Heap.get?_push_of_some _ e
  obtain ⟨f0, f1, f2, f3, f4, f5⟩ := J.fpOk (H' := H1) (b := s1.heap.objs.size) (Nat.le_refl _) (J.hok.fresh (Nat.le_refl _))
  have hl := pp.isList; obtain ⟨ol, hol, _⟩ := id hl
  have hne : a ≠ s1.heap.objs.size := Nat.ne_of_lt (Heap.lt_size hol)
  have hn : its.toArray.size ≤ sizeLine := by rw [List.size_toArray, ← rv.length]; exact hz
  refine call_list_rev (s := { s1 with heap := s1.heap.push (revObj a ((its.toArray.size : Int) - 1)) }) (J.ok.hd hc) ⟨_, Heap.get?_push_size _ rfl, rfl, rfl⟩ (hl.push _) hne hn fun h' tk acc c' hk hS hi => ?_
  have lt : s1.heap.objs.size < (s1.heap.push (revObj a ((its.toArray.size : Int) - 1))).objs.size := Heap.lt_size (Heap.get?_push_size _ rfl)
  have fr : H1 (s1.heap.push (revObj a ((its.toArray.size : Int) - 1))).objs.size = none := I2.hok.fresh (Nat.le_refl _)
  have IL : Inv X pins σ (upd H1 (s1.heap.push (revObj a ((its.toArray.size : Int) - 1))).objs.size (.lst xs.reverse)) { s1 with heap := (s1.heap.push (revObj a ((its.toArray.size : Int) - 1))).push { cls := .type "list", dict := none, data := .seq acc c', slots := #[] } } :=
    I2.laid (t' := s1.toks) (fun b o e => Heap.get?_push_of_some _ e) (Nat.le_refl _) (show ObjOk X.prog X.w _ _ _ (.lst xs.reverse) from ⟨by rw [List.length_reverse]; exact hz, acc.toList, c', vals_rev rv hi, by rw [Array.toArray_toList]; exact Heap.get?_push_size _ rfl⟩)
  have I3 := IL.turned (h' := h') (t' := tk) (it := s1.heap.objs.size) (fun b o hb e => ?_) (by rw [upd_ne (Nat.ne_of_lt lt)]; exact f0) f1 f3 f4 f5
  · exact ⟨.ref _, _, I3, rfl, q _ fr⟩
  · by_cases hS2 : b = (s1.heap.push (revObj a ((its.toArray.size : Int) - 1))).objs.size
    · subst hS2
      rw [Heap.get?_push_size _ rfl] at e
      rw [← e]
      exact hS
    · refine hk b o hb ?_
      rw [← e]
      exact (Heap.get?_push_ne _ _ _ hS2).symm
end
end Z
namespace Z
open PySem PySem.Spec PyProof.Rows L2
open C8 (Cal Def fnScope fnBody fnArgs pe_c cal0)
/-! ### built-in names -/
theorem bb_abs : bootBuiltins "abs" = some (.builtin "abs") := by decide +kernel
theorem bb_len : bootBuiltins "len" = some (.builtin "len") := by decide +kernel
theorem bb_isinstance : bootBuiltins "isinstance" = some (.builtin "isinstance") := by decide +kernel
theorem bb_sum : bootBuiltins "sum" = some (.builtin "sum") := by decide +kernel
theorem bb_all : bootBuiltins "all" = some (.builtin "all") := by decide +kernel
theorem bb_min : bootBuiltins "min" = some (.builtin "min") := by decide +kernel
theorem bb_max : bootBuiltins "max" = some (.builtin "max") := by decide +kernel
theorem bb_sorted : bootBuiltins "sorted" = some (.builtin "sorted") := by decide +kernel
theorem bb_list : bootBuiltins "list" = some (.type "list") := by decide +kernel
theorem bb_tuple : bootBuiltins "tuple" = some (.type "tuple") := by decide +kernel
theorem bb_int : bootBuiltins "int" = some (.type "int") := by decide +kernel
theorem bb_bool : bootBuiltins "bool" = some (.type "bool") := by decide +kernel
theorem bb_str : bootBuiltins "str" = some (.type "str") := by decide +kernel
theorem bb_ValueError : bootBuiltins "ValueError" = some (.type "ValueError") := by decide +kernel
structure Mb (mg : Str → Option Value) : Prop where
  abs : mg "abs" = none
  len : mg "len" = none
  isinstance : mg "isinstance" = none
  sum : mg "sum" = none
  all : mg "all" = none
  min : mg "min" = none
  max : mg "max" = none
  sorted : mg "sorted" = none
  list : mg "list" = none
  tuple : mg "tuple" = none
  int : mg "int" = none
  bool : mg "bool" = none
  str : mg "str" = none
  range : mg "range" = none
  reversed : mg "reversed" = none
  enumerate : mg "enumerate" = none
  zip : mg "zip" = none
  ValueError : mg "ValueError" = none
/-! ### operators -/
section
variable {X : Cx}
/-- a written power -/
def rPw (i j r : Int) : R2 := fun x y H Q => x = .int i ∧ y = .int j ∧ Q (.int r) H
theorem op_pw {i j : Int} (r : Int) (h : CPow i j) (e : i ^ j.toNat = r) : OpR X (binaryOp .Pow) (rPw i j r) := by
  intro pins s σ H x y v u Q I rx ry q
  obtain ⟨rfl, rfl, q⟩ := q
  exact op_pow pins s σ H _ _ v u Q I rx ry ⟨i, j, rfl, rfl, h, by show Q (.int (i ^ j.toNat)) H; rw [e]; exact q⟩
theorem p18 : OpR X (binaryOp .Pow) (rPw 10 18 1000000000000000000) := op_pw _ ⟨by decide, by decide, by decide⟩ (by decide +kernel)
theorem p15 : OpR X (binaryOp .Pow) (rPw 10 15 1000000000000000) := op_pw _ ⟨by decide, by decide, by decide⟩ (by decide +kernel)
theorem p14 : OpR X (binaryOp .Pow) (rPw 10 14 100000000000000) := op_pw _ ⟨by decide, by decide, by decide⟩ (by decide +kernel)
theorem p10 : OpR X (binaryOp .Pow) (rPw 10 10 10000000000) := op_pw _ ⟨by decide, by decide, by decide⟩ (by decide +kernel)
theorem p9 : OpR X (binaryOp .Pow) (rPw 10 9 1000000000) := op_pw _ ⟨by decide, by decide, by decide⟩ (by decide +kernel)
theorem p6 : OpR X (binaryOp .Pow) (rPw 10 6 1000000) := op_pw _ ⟨by decide, by decide, by decide⟩ (by decide +kernel)
theorem p4 : OpR X (binaryOp .Pow) (rPw 10 4 10000) := op_pw _ ⟨by decide, by decide, by decide⟩ (by decide +kernel)
theorem p40 : OpR X (binaryOp .Pow) (rPw 10 40 10000000000000000000000000000000000000000) := op_pw _ ⟨by decide, by decide, by decide⟩ (by decide +kernel)
/-- // by any divisor but 0, below 2 ^ 9000 -/
def CDivZ (_ j : Int) : Prop := j ≠ 0 ∧ j.natAbs.log2 < 9000
theorem op_fdivZ : OpR X (binaryOp .FloorDiv) (rI CDivZ fun i j => .int (i.fdiv j)) := opI fun i j _ _ _ _ _ hc q => floordiv_int hc.1 q (.inl (PyProof.noPylong_of_log2 hc.2))
end
/-! ### what is kept but for one object -/
def Of (d : Addr) (H H' : Hp) : Prop := ∀ a o, a ≠ d → H a = some o → H' a = some o
theorem Of.refl (d : Addr) (H : Hp) : Of d H H := fun _ _ _ h => h
theorem Of.trans {d : Addr} {H H1 H2 : Hp} (a : Of d H H1) (b : Of d H1 H2) : Of d H H2 := fun x o n h => b x o n (a x o n h)
theorem Of.same {d : Addr} {H H1 : Hp} (a : Same H H1) : Of d H H1 := fun x o _ h => a x o h
theorem Of.new {d p : Addr} {o : HO} {H : Hp} (h : H p = none) : Of d H (upd H p o) := fun x u _ e => by rw [upd_ne (ne_of_none e h)]; exact e
theorem Of.put {d : Addr} {o : HO} {H : Hp} : Of d H (upd H d o) := fun x u n e => by rw [upd_ne n]; exact e
theorem same_new {p : Addr} {o : HO} {H : Hp} (h : H p = none) : Same H (upd H p o) := fun x u e => by rw [upd_ne (ne_of_none e h)]; exact e
theorem same_put {H H1 : Hp} {p : Addr} {o : HO} (e : Same H H1) (h : H p = none) : Same H (upd H1 p o) := fun x u z => by rw [upd_ne (ne_of_none z h)]; exact e x u z
theorem tup_of {d a : Addr} {H H' : Hp} {xs ys : List V} (e : Of d H H') (hd : H d = some (.lst ys)) (h : H a = some (.tup xs)) : H' a = some (.tup xs) := e a _ (ne_of h hd (fun z => by cases z)) h
/-! ### the deck: what the drawn numbers are taken from -/
def Drawn (ns : List Int) : Prop := ns.length ≤ 400 ∧ ∀ n ∈ ns, 0 ≤ n ∧ n < 1000000000000000
def Deck (H : Hp) (d : Addr) : Prop := ∃ ns : List Int, H d = some (.lst (ns.map V.int)) ∧ Drawn ns
theorem Deck.same {H H' : Hp} {d : Addr} (h : Deck H d) (e : Same H H') : Deck H' d := let ⟨ns, a, b⟩ := h; ⟨ns, e d _ a, b⟩
theorem Deck.of {H H' : Hp} {d x : Addr} (h : Deck H d) (e : Of x H H') (n : d ≠ x) : Deck H' d := let ⟨ns, a, b⟩ := h; ⟨ns, e d _ n a, b⟩
theorem Deck.ne_none {H : Hp} {d p : Addr} (h : Deck H d) (n : H p = none) : p ≠ d := let ⟨_, a, _⟩ := h; (ne_of_none a n).symm
theorem Deck.ne_tup {H : Hp} {d p : Addr} {xs : List V} (h : Deck H d) (n : H p = some (.tup xs)) : p ≠ d := let ⟨_, a, _⟩ := h; ne_of n a (fun z => by cases z)
theorem Deck.tup {H H' : Hp} {d p : Addr} {xs : List V} (h : Deck H d) (e : Of d H H') (n : H p = some (.tup xs)) : H' p = some (.tup xs) := e p _ (h.ne_tup n) n
/-! ### promises of the law's own helpers -/
def spMixed : Sp := fun vs H Q _ => ∃ c k : Int, vs = [.int c, .int k] ∧ 0 ≤ k ∧ k ≤ 1000 ∧ ∀ r : Int, 0 ≤ r → Q (.int r) H
def spDeck (K : PySem.W.Frag) : Sp := fun vs H Q _ => ∃ (a : Addr) (ns : List Int) (n : Int), vs = [.ref a, .int n] ∧ SqL K H a (ns.map V.int) ∧ ns.length ≤ 63 ∧ 0 ≤ n ∧ n ≤ 400 ∧
  ∀ H' p, Same H H' → H p = none → Deck H' p → Q (.ref p) H'
def spNext : Sp := fun vs H Q _ => ∃ d, vs = [.ref d] ∧ Deck H d ∧ ∀ r H', 0 ≤ r → r < 1000000000000000 → Of d H H' → Deck H' d → Q (.int r) H'
def spWhole (K : PySem.W.Frag) : Sp := fun vs H Q _ => ∃ x T b c, vs = [x] ∧ TyX K H x (.type T) ∧ kitB T "int" = some b ∧ kitB T "bool" = some c ∧ Q (.bl (b && !c)) H
def spGcd : Sp := fun vs H Q _ => ∃ a b : Int, vs = [.int a, .int b] ∧ Q (.int (Int.gcd a b : Nat)) H
theorem whole_int {K : PySem.W.Frag} {i : Int} {H : Hp} {Q : VK} {E : XK} (h : Q (.bl true) H) : spWhole K [.int i] H Q E := ⟨.int i, "int", true, false, rfl, .base (.int i), by decide +kernel, by decide +kernel, h⟩
end Z
namespace Z
open PySem PySem.Spec PyProof.Rows L2
theorem abs_nat (x : Int) : (if x < 0 then -x else x) = ((x.natAbs : Nat) : Int) := by
  split <;> omega
theorem ixN_in {n j : Nat} (hj : j < n) : ixN n (j : Int) = some j := by
  unfold ixN
  rw [if_pos (by omega), if_pos (by omega)]
  simp
theorem cut_to (xs : List V) (n : Nat) : cutV xs none (some (n : Int)) = xs.take n := by
  unfold cutV
  rw [HT.sIx_none, show HT.sIx xs.length xs.length (some (n : Int)) = min n xs.length from HT.sIx_nat xs.length xs.length n]
  rw [Nat.sub_zero, List.drop_zero, Nat.min_def]
  split
  · rfl
  · rw [List.take_of_length_le (Nat.le_refl _), List.take_of_length_le (by omega)]
theorem deck_own (ns : List Int) (h : ns.length ≤ 63) : ∃ ms : List Int, cutV (ns.map V.int) none (some 60) ++ (List.replicate (if decide (V.int ((ns.map V.int).length : Int) = V.int 0) = true then (1 : Int) else 0).toNat [V.int 0]).flatten = ms.map V.int ∧ 0 < ms.length ∧ ms.length ≤ 64 := by
  rw [show cutV (ns.map V.int) none (some 60) = (ns.map V.int).take 60 from cut_to _ 60]
  cases ns with
  | nil => exact ⟨[0], by simp, by decide, by decide⟩
  | cons x r =>
    refine ⟨(x :: r).take 60, ?_, ?_, ?_⟩
    · rw [if_neg (by simp; omega)]
      simp
    · simp
    · simp
      omega
theorem yes_if {σ : L2.St} {H : Hp} {A B : Hp → Prop} (h : A H) : tYes σ H (fun b H3 => if b = true then A H3 else B H3) := by
  show if true = true then A H else B H
  rw [if_pos rfl]
  exact h
/-! ### a def as it stands behind the top -/
def DefIn (K : PySem.W.Frag) (x : Str) (st : Stmt) : Prop := ∃ (f : Addr) (fd : FuncData), C8.Fun K x x st f fd ∧ fd.defaults = .none ∧ PySem.W.nsIn K mainGlobals x = some (some (.ref f)) ∧ PySem.W.keepIn K (.ref f) = true
theorem din {K : PySem.W.Frag} {x : Str} {st : Stmt} {f : Addr} {oc kV doc pm cdv ct : Value} {od an : Option Addr} {osl : Array (Option Value)} (a : PySem.W.nsIn K mainGlobals x = some (some (.ref f)))
    (l : K.lookup f = some ⟨oc, od, .func (PySem.W.fnOf x x (C8.fnArgs st) (C8.fnBody st) (C8.fnScope st) .none kV doc pm an cdv ct), osl⟩) (c : PySem.W.codeIn K cdv x = true) (k : PySem.W.keepIn K (.ref f) = true) : DefIn K x st :=
  ⟨f, _, ⟨oc, od, .none, kV, doc, pm, an, cdv, ct, osl, rfl, l, c⟩, rfl, a, k⟩
theorem DefIn.get {K : PySem.W.Frag} {x : Str} {st : Stmt} {h : Heap} {mg : Str → Option Value} (D : DefIn K x st) (X : K.In h) (G : h.Ns mainGlobals mg) : ∃ (f : Addr) (fd : FuncData), C8.Def K mg x st f fd ∧ fd.defaults = .none := by
  obtain ⟨f, fd, F, e, a, k⟩ := D
  exact ⟨f, fd, ⟨F, PySem.W.mg_of X G a, k⟩, e⟩
def NonIn (K : PySem.W.Frag) : Prop := ∀ x ∈ ["abs", "len", "isinstance", "sum", "all", "min", "max", "sorted", "list", "tuple", "int", "bool", "str", "range", "reversed", "enumerate", "zip", "ValueError"], PySem.W.nsIn K mainGlobals (Str.ofString x) = some none
theorem NonIn.mb {K : PySem.W.Frag} {h : Heap} {mg : Str → Option Value} (N : NonIn K) (X : K.In h) (G : h.Ns mainGlobals mg) : Mb mg := by
  have z : ∀ x ∈ ["abs", "len", "isinstance", "sum", "all", "min", "max", "sorted", "list", "tuple", "int", "bool", "str", "range", "reversed", "enumerate", "zip", "ValueError"], mg (Str.ofString x) = none := fun x hx => PySem.W.mg_none_of X G (N x hx)
  refine ⟨?_, ?_, ?_, ?_, ?_, ?_, ?_, ?_, ?_, ?_, ?_, ?_, ?_, ?_, ?_, ?_, ?_, ?_⟩ <;> exact z _ (by simp)
theorem Of.mut {d p : Addr} {o : HO} {H H1 : Hp} (e : Of d H H1) (h : H p = none) : Of d H (upd H1 p o) := fun a u n z => by rw [upd_ne (ne_of_none z h)]; exact e a u n z
theorem Deck.mut {d p : Addr} {o : HO} {H : Hp} (h : Deck H d) (n : d ≠ p) : Deck (upd H p o) d := let ⟨ns, a, b⟩ := h; ⟨ns, by rw [upd_ne n]; exact a, b⟩
/-! ### rules whose reading names the written part outright (for use within a comprehension) -/
section
variable {X : Cx}
theorem k_ixL (K : PySem.W.Frag) (h : X.K = K) : IxR X (rIxL K) := by subst h; exact ix_list
theorem k_ixT (K : PySem.W.Frag) (h : X.K = K) : IxR X (rIxT K) := by subst h; exact ix_tup
theorem k_slL (K : PySem.W.Frag) (h : X.K = K) : SlR X (rSlL K) := by subst h; exact sl_list
theorem k_slT (K : PySem.W.Frag) (h : X.K = K) : SlR X (rSlT K) := by subst h; exact sl_tup
theorem k_in (K : PySem.W.Frag) (h : X.K = K) : OpR X (compareOp .In) (rIn K false) := by subst h; exact op_in_seq
theorem k_notIn (K : PySem.W.Frag) (h : X.K = K) : OpR X (compareOp .NotIn) (rIn K true) := by subst h; exact op_notIn_seq
theorem k_eqD (K : PySem.W.Frag) (h : X.K = K) (hu : X.A.units + 64 < cLine) : OpR X (compareOp .Eq) (rEqD K) := by subst h; exact op_eqD hu
theorem k_neD (K : PySem.W.Frag) (h : X.K = K) (hu : X.A.units + 64 < cLine) : OpR X (compareOp .NotEq) (rNeD K) := by subst h; exact op_neD hu
def rLenK (K : PySem.W.Frag) : List V → Hp → VK → Prop := fun xs H Q => ∃ p ys, xs = [.ref p] ∧ (SqL K H p ys ∨ SqT K H p ys) ∧ Q (.int ys.length) H
def rListK (K : PySem.W.Frag) : List V → Hp → VK → Prop := fun xs H Q => ∃ p ys, xs = [.ref p] ∧ (SqL K H p ys ∨ SqT K H p ys) ∧ ∀ l, H l = none → Q (.ref l) (upd H l (.lst ys))
def rTupleK (K : PySem.W.Frag) : List V → Hp → VK → Prop := fun xs H Q => ∃ p ys, xs = [.ref p] ∧ ((SqL K H p ys ∧ ∀ l, H l = none → Q (.ref l) (upd H l (.tup ys))) ∨ (SqT K H p ys ∧ Q (.ref p) H))
theorem k_len (K : PySem.W.Frag) (h : X.K = K) : CallR X (.builtin "len") (rLenK K) := by subst h; exact call_len_seq
theorem k_list (K : PySem.W.Frag) (h : X.K = K) : CallR X (.type "list") (rListK K) := by subst h; exact call_list_of
theorem k_tuple (K : PySem.W.Frag) (h : X.K = K) : CallR X (.type "tuple") (rTupleK K) := by subst h; exact call_tuple_of
theorem k_isi (K : PySem.W.Frag) (h : X.K = K) : CallR X (.builtin "isinstance") (rIsi K) := by subst h; exact call_isi
theorem k_isiT (K : PySem.W.Frag) (h : X.K = K) : CallR X (.builtin "isinstance") (rIsiT K) := by subst h; exact call_isiT
theorem k_sum (K : PySem.W.Frag) (h : X.K = K) (hc : X.calm = true) : CallR X (.builtin "sum") (rSum K) := by subst h; exact cr_sum hc
theorem k_all (K : PySem.W.Frag) (h : X.K = K) (hc : X.calm = true) : CallR X (.builtin "all") (rAll K) := by subst h; exact cr_all hc
theorem k_max (K : PySem.W.Frag) (h : X.K = K) (hc : X.calm = true) : CallR X (.builtin "max") (rMax K) := by subst h; exact cr_max hc
theorem k_min (K : PySem.W.Frag) (h : X.K = K) (hc : X.calm = true) : CallR X (.builtin "min") (rMin K) := by subst h; exact cr_min hc
theorem k_sorted (K : PySem.W.Frag) (h : X.K = K) : CallR X (.builtin "sorted") (rSorted K) := by subst h; exact cr_sorted
end
theorem dec_yes {c : Prop} [Decidable c] {Q : VK} {H : Hp} (hc : c) (q : Q (.bl true) H) : Q (.bl (decide c)) H := by
  rw [decide_eq_true hc]
  exact q
theorem dec_no {c : Prop} [Decidable c] {Q : VK} {H : Hp} (hc : c) (q : Q (.bl false) H) : Q (.bl (!decide c)) H := by
  rw [decide_eq_true hc]
  exact q
theorem cut_ints {α : Type} (f : α → V) (ks : List α) (n : Nat) : cutV (ks.map f) none (some (n : Int)) = (ks.take n).map f := by rw [cut_to, List.map_take]
end Z
namespace Z
open PySem PySem.Spec PyProof.Rows L2
/-! ### fractions -/
def B (n : Nat) (x : Int) : Prop := x.natAbs < 2 ^ n
theorem B.mono {n m : Nat} {x : Int} (h : B n x) (l : n ≤ m) : B m x := Nat.lt_of_lt_of_le h (Nat.pow_le_pow_right (by decide) l)
theorem B.le {n : Nat} {x y : Int} (h : B n y) (l : x.natAbs ≤ y.natAbs) : B n x := Nat.lt_of_le_of_lt l h
theorem B.mul {n m : Nat} {x y : Int} (h : B n x) (k : B m y) : B (n + m) (x * y) := wide_lt h k
theorem B.add {n : Nat} {x y : Int} (h : B n x) (k : B n y) : B (n + 1) (x + y) := by
  unfold B at *
  have e : 2 ^ (n + 1) = 2 ^ n + 2 ^ n := by rw [Nat.pow_succ]; omega
  have z := Int.natAbs_add_le x y
  omega
theorem B.cm {n m : Nat} {x y : Int} (h : B n x) (k : B m y) (l : n + m ≤ 900000) : CMulW x y :=
  wide_mul (a := n + 1) (b := m + 1) (h.mono (Nat.le_succ n)) (k.mono (Nat.le_succ m)) (Nat.succ_pos _) (Nat.succ_pos _) (by omega)
structure Low (x y t b : Int) : Prop where
  pos : 0 < b
  cop : Int.gcd t b = 1
  eq : t * y = x * b
  lt : t.natAbs ≤ x.natAbs
  lb : b.natAbs ≤ y.natAbs
theorem natAbs_le_mul {t s : Int} (h : s ≠ 0) : t.natAbs ≤ (t * s).natAbs := by
  rw [Int.natAbs_mul]
  exact Nat.le_mul_of_pos_right _ (Int.natAbs_pos.mpr h)
theorem pos_of_mul {s b : Int} (hs : 0 < s) (h : 0 < s * b) : 0 < b := by
  rcases Int.lt_trichotomy b 0 with z | z | z
  · have := Int.mul_neg_of_pos_of_neg hs z
    omega
  · subst z
    rw [Int.mul_zero] at h
    omega
  · exact z
theorem dvd_cop {b t c : Int} (h : b ∣ t * c) (g : Int.gcd t b = 1) : b ∣ c := by
  have z := Int.natAbs_dvd_natAbs.mpr h
  rw [Int.natAbs_mul] at z
  have k : Nat.Coprime b.natAbs t.natAbs := by
    rw [Nat.coprime_comm]
    exact g
  exact Int.natAbs_dvd_natAbs.mp (k.dvd_of_dvd_mul_left z)
theorem low_of {x y s : Int} (hy : y ≠ 0) (hs : s.natAbs = Int.gcd x y) (hp : (0 < s ∧ 0 < y) ∨ (s < 0 ∧ y < 0)) : Low x y (x.fdiv s) (y.fdiv s) := by
  have hs0 : s ≠ 0 := by omega
  have dx : s ∣ x := Int.natAbs_dvd.mp (by rw [hs]; exact Int.gcd_dvd_left ..)
  have dy : s ∣ y := Int.natAbs_dvd.mp (by rw [hs]; exact Int.gcd_dvd_right ..)
  obtain ⟨t, ex⟩ := dx
  obtain ⟨b, ey⟩ := dy
  have e1 : x.fdiv s = t := by rw [ex]; exact Int.mul_fdiv_cancel_left _ hs0
  have e2 : y.fdiv s = b := by rw [ey]; exact Int.mul_fdiv_cancel_left _ hs0
  rw [e1, e2]
  have hb : 0 < b := by
    rcases hp with ⟨h1, h2⟩ | ⟨h1, h2⟩
    · rw [ey] at h2
      exact pos_of_mul h1 h2
    · rw [ey] at h2
      have h3 : 0 < (-s) * b := by rw [Int.neg_mul]; omega
      exact pos_of_mul (by omega : 0 < -s) h3
  refine ⟨hb, ?_, ?_, ?_, ?_⟩
  · have hg : Int.gcd (s * t) (s * b) = s.natAbs * Int.gcd t b := Int.gcd_mul_left ..
    rw [← ex, ← ey, ← hs] at hg
    have hp0 : 0 < s.natAbs := Int.natAbs_pos.mpr hs0
    exact (Nat.eq_of_mul_eq_mul_left hp0 (by rw [Nat.mul_one]; exact hg)).symm
  · rw [ex, ey, Int.mul_comm s t, Int.mul_assoc]
  · rw [ex, Int.mul_comm]
    exact natAbs_le_mul hs0
  · rw [ey, Int.mul_comm]
    exact natAbs_le_mul hs0
theorem low_unique {t b u c : Int} (h1 : 0 < b) (h2 : Int.gcd t b = 1) (h3 : 0 < c) (h4 : Int.gcd u c = 1) (e : t * c = u * b) : t = u ∧ b = c := by
  have d1 : b ∣ c := by
    have z : b ∣ t * c := ⟨u, by rw [e, Int.mul_comm]⟩
    exact dvd_cop z h2
  have d2 : c ∣ b := by
    have z : c ∣ u * b := ⟨t, by rw [← e, Int.mul_comm]⟩
    exact dvd_cop z h4
  have hbc : b = c := Int.dvd_antisymm (by omega) (by omega) d1 d2
  subst hbc
  exact ⟨Int.eq_of_mul_eq_mul_right (by omega) e, rfl⟩
/-- alike fractions have one form -/
theorem Low.same {x y k t b u c : Int} (l : Low (x * k) (y * k) t b) (m : Low x y u c) (hk : k ≠ 0) (hy : y ≠ 0) : u = t ∧ c = b := by
  refine low_unique m.pos m.cop l.pos l.cop ?_
  have e1 := l.eq
  have e2 := m.eq
  have e3 : (t * y) * k = (x * b) * k := by rw [Int.mul_assoc, e1, Int.mul_assoc, Int.mul_comm k b, ← Int.mul_assoc]
  have e4 : t * y = x * b := Int.eq_of_mul_eq_mul_right hk e3
  have e5 : (u * b) * y = (t * c) * y := by
    calc (u * b) * y = (u * y) * b := by rw [Int.mul_assoc, Int.mul_comm b y, ← Int.mul_assoc]
      _ = (x * c) * b := by rw [e2]
      _ = (x * b) * c := by rw [Int.mul_assoc, Int.mul_comm c b, ← Int.mul_assoc]
      _ = (t * y) * c := by rw [e4]
      _ = (t * c) * y := by rw [Int.mul_assoc, Int.mul_comm y c, ← Int.mul_assoc]
  exact Int.eq_of_mul_eq_mul_right hy e5
theorem Low.up {x y k t b : Int} (l : Low (x * k) (y * k) t b) (hk : k ≠ 0) : t * y = x * b := by
  have e1 := l.eq
  have e3 : (t * y) * k = (x * b) * k := by rw [Int.mul_assoc, e1, Int.mul_assoc, Int.mul_comm k b, ← Int.mul_assoc]
  exact Int.eq_of_mul_eq_mul_right hk e3
/-! ### the promises -/
abbrev Fr (H : Hp) (a : Addr) (t b : Int) : Prop := H a = some (.tup [.int t, .int b])
def spLow : Sp := fun vs H Q _ => ∃ x y : Int, vs = [.int x, .int y] ∧ y ≠ 0 ∧ B 4000 y ∧ ∀ H' p t b, Same H H' → H p = none → Fr H' p t b → Low x y t b → Q (.ref p) H'
def spPlus : Sp := fun vs H Q _ => ∃ a c t b u d, vs = [.ref a, .ref c] ∧ Fr H a t b ∧ Fr H c u d ∧ b ≠ 0 ∧ d ≠ 0 ∧ B 500 t ∧ B 500 b ∧ B 500 u ∧ B 500 d ∧
  ∀ H' p r q, Same H H' → H p = none → Fr H' p r q → Low (t * d + u * b) (b * d) r q → Q (.ref p) H'
def spTimes : Sp := fun vs H Q _ => ∃ a c t b u d, vs = [.ref a, .ref c] ∧ Fr H a t b ∧ Fr H c u d ∧ b ≠ 0 ∧ d ≠ 0 ∧ B 500 t ∧ B 500 b ∧ B 500 u ∧ B 500 d ∧
  ∀ H' p r q, Same H H' → H p = none → Fr H' p r q → Low (t * u) (b * d) r q → Q (.ref p) H'
def spLess : Sp := fun vs H Q _ => ∃ a c t b u d, vs = [.ref a, .ref c] ∧ Fr H a t b ∧ Fr H c u d ∧ B 500 t ∧ B 500 b ∧ B 500 u ∧ B 500 d ∧ Q (.bl (decide (t * d < u * b))) H
def spIsFr : Sp := fun vs H Q _ => ∃ a t b, vs = [.ref a] ∧ Fr H a t b ∧ 0 < b ∧ Int.gcd t b = 1 ∧ Q (.bl true) H
end Z
namespace Z
open PySem PySem.Spec PyProof.Rows L2
/-! ### enumerate(t), t a tuple -/
theorem meets_enum1 {v : Value} {o : Obj} {H : Heap → Prop} (B : Begins v o H) :
    Meets (Builtin.«enumerate.__new__» ⟨[.type "enumerate", v], []⟩) (fun _ R s => H s.heap ∧
      R (.ok (.ret (.ref (s.heap.push o).objs.size))) { s with heap := (s.heap.push o).push { cls := .type "enumerate", data := .fields #[.none, .bool false, .ref s.heap.objs.size, rawInt 0, .none, .none] } }) :=
  .of_wp fun prog w A R s h => by
    obtain ⟨hp, g, d, tk, os⟩ := s
    obtain ⟨h1, h⟩ := h
    have su := sub_enumerate
    have q1 : ∀ {A' : Around} {E : Value → Shared → Prop} {Q : Value → Shared → Prop}, Q (.ref hp.objs.size) ⟨hp.push o, g, d, tk, os⟩ → wpAny (model prog w) A' (pyIter v) Q E ⟨hp, g, d, tk, os⟩ := fun q => B.iter prog w _ _ ⟨hp, g, d, tk, os⟩ _ h1 q
    wp_walk using q1
    refine wpAny_stack_any fun st => wpAny_pure ?_
    split
    · rename_i c _ _ _ _ _
      cases (c == Value.type "enumerate") <;> (wp_walk using q1; exact ⟨_, rfl, h⟩)
    · wp_walk using q1
      exact ⟨_, rfl, h⟩
theorem call_enum1 {prog : Program} {w : World} {A : Around} {E : Value → Shared → Prop} {s : Shared} {v : Value} {o : Obj} {H : Heap → Prop} {Q : Value → Shared → Prop} (B : Begins v o H) (h1 : H s.heap)
    (h : ∀ h', IsEnum h' (s.heap.objs.size + 1) s.heap.objs.size 0 .none → h'.get? s.heap.objs.size = some o → (∀ b o, s.heap.get? b = some o → h'.get? b = some o) → Q (.ref (s.heap.objs.size + 1)) { s with heap := h' }) :
    wpAny (model prog w) A (call (.type "enumerate") [v]) Q E s := by
  refine callType_new F.called_enumerate (by decide) (F.typeCall_enumerate_1 _) (F.newCall_enumerate_1 _) (fun obj => F.args_object_init_2 obj _) F.entry_enumerate_new (meets_enum1 B) ⟨h1, ?_⟩
  have sz : (s.heap.push o).objs.size = s.heap.objs.size + 1 := Heap.size_push ..
  show _ ∧ _
  rw [sz]
  have he : IsEnum ((s.heap.push o).push { cls := .type "enumerate", data := .fields #[.none, .bool false, .ref s.heap.objs.size, rawInt 0, .none, .none] }) (s.heap.objs.size + 1) s.heap.objs.size 0 .none := by
    have z := Heap.get?_push_size (s.heap.push o) (o := { cls := .type "enumerate", data := .fields #[.none, .bool false, .ref s.heap.objs.size, rawInt 0, .none, .none] }) rfl
    rw [sz] at z
    exact z
  exact ⟨⟨_, he, rfl⟩, h _ he (Heap.get?_push_of_some _ (Heap.get?_push_size _ B.free)) fun b o x => Heap.get?_push_of_some _ (Heap.get?_push_of_some _ x)⟩
def IteT (K : PySem.W.Frag) (a : Addr) : It :=
  ⟨fun i H => ∃ (xs : List V) (x : V), SqT K H a xs ∧ xs[i]? = some x, fun i H v H' => ∃ T x, v = .ref T ∧ H T = none ∧ H' = upd H T (.tup [.int (i : Nat), x]) ∧ ∀ xs, SqT K H a xs → xs[i]? = some x, fun i H => ∃ xs : List V, SqT K H a xs ∧ xs.length ≤ i⟩
theorem istup {h : Heap} {t : Addr} {its : Array Value} (x : IsTup h t its) : h.IsTuple t its := by
  obtain ⟨o, e, c, n, d⟩ := x
  exact ⟨o, e, c, n, d⟩
theorem turn_enumT {P : Program} {w : World} {K : PySem.W.Frag} {elts : List Expr} {kk : Nat} {tpos : Pos} (a e it : Addr) (hai : a ≠ it) (hae : a ≠ e) :
    Turn P w K (.Tuple elts kk tpos) (IteT K a) [e, it] e (fun i h => (∃ old, IsEnum h e it ((i : Nat) : Int) old) ∧ h.IsTupleIter it a i ∧ e ≠ it) where
  mem := by simp
  obj := fun i h st b hb => by
    obtain ⟨⟨old, he⟩, ⟨o, ho, hc, hd⟩, _⟩ := st
    rcases (show b = e ∨ b = it by simpa using hb) with z | z
    · rw [z]
      exact ⟨_, he, fun v q => nomatch q⟩
    · rw [z]
      exact ⟨o, ho, fun v q => by rw [hd] at q; cases q⟩
  keep := fun i h h' st k => ⟨let ⟨⟨old, he⟩, _⟩ := st; ⟨old, k e (by simp) _ he⟩, st.2.1.at fun o q => k it (by simp) o q, st.2.2⟩
  item := by
    intro X hP hw hK hc i pins s σ H E I hf st hg
    subst hP hw hK
    obtain ⟨⟨old, he⟩, hit, hne⟩ := st
    obtain ⟨xs, x, hq, hx⟩ := hg
    obtain ⟨its, rv, p, hz⟩ := I.tuple hq
    obtain ⟨u, hu, ru⟩ := rv.get hx
    have l1 : e < s.heap.objs.size := Heap.lt_size he
    have l2 : it < s.heap.objs.size := let ⟨_, q, _⟩ := hit; Heap.lt_size q
    have lt : i < its.toArray.size := by
      rw [List.size_toArray, ← rv.length]
      exact (List.getElem?_eq_some_iff.mp hx).1
    refine wpAny_pyNext_enum_itemD (Draws.tuple (A := X.A.in1) (I.ok.hd hc) it a hai its.toArray) he ⟨hit, istup p⟩ lt hne (by simp [hne, Ne.symm hae]) fun u2 h' tk hu2 ho st2 hT hsz hk => ?_
    obtain rfl : u2 = u := by
      have z : its.toArray[i]? = some u := by simpa using hu
      rw [z] at hu2
      exact (Option.some.inj hu2).symm
    refine ⟨_, rfl, wpAny_letOwnedTupleGo_enum (s := { s with heap := h', toks := tk + 1 }) ho fun h2 he2 sb => ?_⟩
    have hT2 : h2.get? s.heap.objs.size = some { cls := .type "tuple", data := .seq #[.int i tk, u2] } := (sb.2 _ (Nat.ne_of_gt l1)).trans hT
    have new : ObjOk X.prog X.w (upd H s.heap.objs.size (.tup [.int (i : Nat), x])) h2 s.heap.objs.size (.tup [.int (i : Nat), x]) := ⟨by show 2 ≤ sizeLine; decide, [.int i tk, u2], .cons ⟨_, rfl⟩ (.cons ru .nil), ⟨_, hT2, rfl, _, rfl⟩⟩
    have I1 : Inv X pins σ (upd H s.heap.objs.size (.tup [.int (i : Nat), x])) { s with heap := h2, toks := tk + 1 } := I.turnedNew (ch := [e, it]) (fun b ob hb q => (sb.2 b (fun z => hb (by simp [z]))).trans (hk b ob (fun z => hb (by simp [z])) (fun z => hb (by simp [z])) q)) hf (Nat.le_refl _) new
    refine ⟨.ref s.heap.objs.size, _, I1, rfl, ⟨_, x, rfl, I.hok.fresh (Nat.le_refl _), rfl, fun ys hy => by rw [I.tuple_inj hy hq]; exact hx⟩, ⟨⟨u2, ?_⟩, st2.1.at fun o q => (sb.2 it (Ne.symm hne)).trans q, hne⟩, fun b hb => ?_⟩
    · rw [show ((i + 1 : Nat) : Int) = (i : Int) + 1 by omega]
      exact he2
    · have lb : b < s.heap.objs.size := by
        rcases (show b = e ∨ b = it by simpa using hb) with z | z
        · rw [z]
          exact l1
        · rw [z]
          exact l2
      rw [upd_ne (Nat.ne_of_lt lb)]
      exact (hf b hb).1
  done := by
    intro X hP hw hK hc i pins s σ H E I hf st hg
    subst hP hw hK
    obtain ⟨⟨old, he⟩, hit, hne⟩ := st
    obtain ⟨xs, hq, hx⟩ := hg
    obtain ⟨its, rv, p, hz⟩ := I.tuple hq
    obtain ⟨f0, f1, f2, f3, f4, f5⟩ := hf it (by simp)
    have ty : s.TypeIs (.ref e) "enumerate" := ⟨_, he, rfl⟩
    have none1 : its.toArray[i]? = none := by
      have l := rv.length
      simp only [List.getElem?_toArray]
      exact List.getElem?_eq_none (by omega)
    unfold pyNext
    refine wpAny_bind (wpAny_attempt (wpAny_callSpecial?_slot (name := Str.ofString "__next__") ty F.slot_enumerate_next (wpAny_call_entry F.slot_enumerate_next ty F.entry_enumerate_next ?_ (F.args_enumerate_next_1 _))))
    show wpAny _ _ (field (.ref e) 2 >>= fun _ => _) _ _ _
    refine wpAny_bind (wpAny_field he rfl (x := .ref it) rfl ?_); refine wpAny_bind (wpAny_nextOf_tuple_end (I.ok.hd hc) hit (istup p) none1 fun h2 x2 he2 hx2 => ?_)
    obtain ⟨o2, ho2, hc2⟩ := hx2
    refine wpAny_bind (wpAny_isInstance (T := "StopIteration") (b := true) ⟨o2, ho2, hc2⟩ isSubtype_stop ?_); refine wpAny_pure ⟨rfl, ?_⟩
    exact I.turned (t' := s.toks) (fun b o hb q => he2 b o hb q) f0 f1 f3 f4 f5
  self := fun A i s Q E st h => let ⟨⟨_, he⟩, _⟩ := st; wpAny_pyIter_enum he h
def iEnumT (K : PySem.W.Frag) (ta : TA) : TI := fun σ H R => ta σ H fun vs H1 => ∃ a xs, vs = [.ref a] ∧ SqT K H1 a xs ∧ R (IteT K a) H1
theorem pi_enumT {X : Cx} {e : Expr} {ta : TA} {p pos tpos : Pos} {elts : List Expr} {kk : Nat} (hg : Gl X "enumerate") (hm : X.mg "enumerate" = none) (ha : PA X [e] ta) (hs : starEach [e] X.env = [(false, eval e X.env)] := by rfl) :
    PI X (.Tuple elts kk tpos) (.Call (.Name "enumerate" p) [e] [] pos) (iEnumT X.K ta) := by
  refine ⟨fun pins s σ H R I h => ?_⟩
  refine Call_ (ld_blt I hg hm boot_enumerate (PyProof.Rows.callWith_type1 (thn (ha.run pos pins s σ H _ I h) fun us s1 ⟨vs, H1, J, r1, q1⟩ => ?_) hs rfl))
  obtain ⟨a, xs, ex, hq, q⟩ := q1
  subst ex
  cases r1 with
  | cons r rr =>
    cases rr
    cases r
    obtain ⟨its, rv, pp, hz⟩ := J.tuple hq
    have la : a < s1.heap.objs.size := let ⟨_, z, _⟩ := pp; Heap.lt_size z
    refine call_enum1 (begins_tuple a its.toArray) (istup pp) fun h' he hit hk => wpAny_pyIter_enum he ?_
    have I2 : Inv X pins σ H1 { s1 with heap := h' } := J.kept (t' := s1.toks) hk
    refine ⟨s1.heap.objs.size + 1, [s1.heap.objs.size + 1, s1.heap.objs.size], _, _, H1, rfl, I2, turn_enumT a (s1.heap.objs.size + 1) s1.heap.objs.size (Nat.ne_of_lt la) (Nat.ne_of_lt (Nat.lt_succ_of_lt la)), ⟨⟨.none, he⟩, ⟨_, hit, rfl, rfl⟩, Nat.succ_ne_self _⟩, fun b hb => ?_, q⟩
    have le : s1.heap.objs.size ≤ b := by
      rcases (show b = s1.heap.objs.size + 1 ∨ b = s1.heap.objs.size by simpa using hb) with z | z
      · rw [z]
        exact Nat.le_add_right _ _
      · rw [z]
        exact Nat.le_refl _
    exact J.fpOk le (J.hok.fresh le)
/-- the loop over it -/
theorem for_enumT {K : PySem.W.Frag} {a : Addr} {xs : List V} {g : TG} {tb : TS} {D : Ends} {σ : L2.St} {H : Hp} (Pv : Nat → L2.St → Hp → Prop) (h0 : Pv 0 σ H) (hl : ∀ i σ H, i ≤ xs.length → Pv i σ H → SqT K H a xs)
    (hs : ∀ i x T σ H, xs[i]? = some x → H T = none → Pv i σ H → g (.ref T) σ (upd H T (.tup [.int (i : Nat), x])) fun σ2 H2 => tb { D with nx := Pv (i + 1), ct := Pv (i + 1), bk := D.nx } σ2 H2) (hd : ∀ σ H, Pv xs.length σ H → D.nx σ H) :
    ∃ W : Nat → Nat → L2.St → Hp → Prop, (∃ m, W 0 m σ H) ∧ ∀ i m σ H, W i m σ H →
      ((IteT K a).stop i H ∧ D.nx σ H) ∨ ((IteT K a).go i H ∧ ∃ N : L2.St → Hp → Prop, (∀ σ' H', N σ' H' → ∃ m', m' < m ∧ W (i + 1) m' σ' H') ∧ ∀ x H', (IteT K a).yld i H x H' → g x σ H' fun σ2 H2 => tb { D with nx := N, ct := N, bk := D.nx } σ2 H2) := by
  refine ⟨fun i m σ H => m = xs.length - i ∧ i ≤ xs.length ∧ Pv i σ H, ⟨xs.length, by simp, Nat.zero_le _, h0⟩, ?_⟩
  intro i m σ H hW
  obtain ⟨rfl, hi, p⟩ := hW
  have q := hl i σ H hi p
  by_cases lt : i < xs.length
  · refine .inr ⟨⟨xs, xs[i], q, List.getElem?_eq_getElem lt⟩, Pv (i + 1), fun σ' H' p' => ⟨xs.length - (i + 1), by omega, rfl, lt, p'⟩, fun x H' y => ?_⟩
    obtain ⟨T, z, rfl, fT, rfl, fz⟩ := y
    exact hs i z T σ H (fz xs q) fT p
  · obtain rfl : i = xs.length := by omega
    exact .inl ⟨⟨xs, q, Nat.le_refl _⟩, hd σ H p⟩
theorem lc_enumT {K : PySem.W.Frag} {a : Addr} {xs : List V} {g : TG} {tt : TT} {te : TE} {vs : List Nat} {σ : L2.St} {H1 : Hp} {D : Addr} {Qd : Hp → Prop} (Pv : Nat → Hp → Prop) (h0 : Pv 0 (upd H1 D (.lst []))) (hl : ∀ i H, i ≤ xs.length → Pv i H → SqT K H a xs)
    (hs : ∀ i x T H, xs[i]? = some x → H T = none → Pv i H → g (.ref T) (wipe σ vs) (upd H T (.tup [.int (i : Nat), x])) fun σ2 H2 => wipe σ2 vs = wipe σ vs ∧ tt σ2 H2 fun b H3 =>
      if b = true then te σ2 H3 fun y H4 => ∃ acc, H4 D = some (.lst acc) ∧ acc.length < sizeLine ∧ Pv (i + 1) (upd H4 D (.lst (acc ++ [y]))) else Pv (i + 1) H3) (hd : ∀ H, Pv xs.length H → Qd H) :
    ∃ W : Nat → Nat → Hp → Prop, (∃ m, W 0 m (upd H1 D (.lst []))) ∧ ∀ i m H, W i m H →
      ((IteT K a).stop i H ∧ Qd H) ∨ ((IteT K a).go i H ∧ ∃ Nx : Hp → Prop, (∀ H', Nx H' → ∃ m', m' < m ∧ W (i + 1) m' H') ∧ ∀ x H', (IteT K a).yld i H x H' → g x (wipe σ vs) H' fun σ2 H2 => wipe σ2 vs = wipe σ vs ∧ tt σ2 H2 fun b H3 =>
        if b = true then te σ2 H3 fun y H4 => ∃ acc, H4 D = some (.lst acc) ∧ acc.length < sizeLine ∧ Nx (upd H4 D (.lst (acc ++ [y]))) else Nx H3) := by
  refine ⟨fun i m H => m = xs.length - i ∧ i ≤ xs.length ∧ Pv i H, ⟨xs.length, by simp, Nat.zero_le _, h0⟩, ?_⟩
  intro i m H hW
  obtain ⟨rfl, hi, p⟩ := hW
  have q := hl i H hi p
  by_cases lt : i < xs.length
  · refine .inr ⟨⟨xs, xs[i], q, List.getElem?_eq_getElem lt⟩, Pv (i + 1), fun H' p' => ⟨xs.length - (i + 1), by omega, rfl, lt, p'⟩, fun x H' y => ?_⟩
    obtain ⟨T, z, rfl, fT, rfl, fz⟩ := y
    exact hs i z T H (fz xs q) fT p
  · obtain rfl : i = xs.length := by omega
    exact .inl ⟨⟨xs, q, Nat.le_refl _⟩, hd H p⟩
end Z
namespace Z
open PySem PySem.Spec PyProof.Rows L2
/-! ### bits of numbers that are not negative -/
def rN2 (C : Nat → Nat → Prop) (g : Nat → Nat → Nat) : R2 := fun x y H Q => ∃ n m : Nat, x = .int (n : Int) ∧ y = .int (m : Int) ∧ C n m ∧ Q (.int (g n m : Nat)) H
def rN0 (g : Nat → Nat → Nat) : R2 := fun x y H Q => ∃ n m : Nat, x = .int (n : Int) ∧ y = .int (m : Int) ∧ Q (.int (g n m : Nat)) H
section
variable {X : Cx}
theorem op_shrM : OpR X (binaryOp .RShift) (rN0 fun n k => n >>> k) := by
  intro pins s σ H x y v u Q I rx ry h
  obtain ⟨n, k, rfl, rfl, q⟩ := h
  refine op_shr pins s σ H _ _ v u Q I rx ry ⟨n, k, rfl, rfl, Int.natCast_nonneg _, ?_⟩
  show Q (.int ((n : Int) / 2 ^ (k : Int).toNat)) H
  rw [Int.toNat_natCast, two_pow_cast, ← Int.natCast_ediv, ← Nat.shiftRight_eq_div_pow]
  exact q
theorem op_andM : OpR X (binaryOp .BitAnd) (rN0 fun n m => n &&& m) := by
  intro pins s σ H x y v u Q I rx ry h
  obtain ⟨n, k, rfl, rfl, q⟩ := h
  refine op_and pins s σ H _ _ v u Q I rx ry ⟨n, k, rfl, rfl, ?_⟩
  show Q (.int (Builtin.bitAnd n k)) H
  rw [bitAnd_pp (Int.natCast_nonneg _) (Int.natCast_nonneg _), Int.toNat_natCast, Int.toNat_natCast]
  exact q
theorem op_orM : OpR X (binaryOp .BitOr) (rN0 fun n m => n ||| m) := by
  intro pins s σ H x y v u Q I rx ry h
  obtain ⟨n, k, rfl, rfl, q⟩ := h
  refine op_or pins s σ H _ _ v u Q I rx ry ⟨n, k, rfl, rfl, ?_⟩
  show Q (.int (Builtin.bitOr n k)) H
  rw [bitOr_nn (Int.natCast_nonneg _) (Int.natCast_nonneg _), Int.toNat_natCast, Int.toNat_natCast]
  exact q
theorem op_xorM : OpR X (binaryOp .BitXor) (rN0 fun n m => n ^^^ m) := by
  intro pins s σ H x y v u Q I rx ry h
  obtain ⟨n, k, rfl, rfl, q⟩ := h
  refine op_xor pins s σ H _ _ v u Q I rx ry ⟨n, k, rfl, rfl, ?_⟩
  show Q (.int (Builtin.bitXor n k)) H
  rw [Bits.bitXor_pp (Int.natCast_nonneg _) (Int.natCast_nonneg _), Int.toNat_natCast, Int.toNat_natCast]
  exact q
/-- 1 << k -/
theorem op_shl1 : OpR X (binaryOp .LShift) (fun x y H Q => ∃ k : Nat, x = .int 1 ∧ y = .int (k : Int) ∧ k ≤ 100000 ∧ Q (.int ((2 ^ k : Nat) : Int)) H) := by
  intro pins s σ H x y v u Q I rx ry h
  obtain ⟨k, rfl, rfl, hk, q⟩ := h
  refine op_oneShl pins s σ H _ _ v u Q I rx ry ⟨k, rfl, rfl, by omega, ?_⟩
  rw [two_pow_cast]
  exact q
end
theorem bit_dec (n k : Nat) : decide (V.int ((n >>> k &&& 1 : Nat) : Int) = V.int 1) = n.testBit k := by
  have e : n.testBit k = decide (n >>> k &&& 1 = 1) := by
    rw [Nat.and_one_is_mod, Nat.shiftRight_eq_div_pow, Nat.testBit_eq_decide_div_mod_eq]
  rw [e]
  by_cases h : n >>> k &&& 1 = 1
  · rw [decide_eq_true h, h]
    rfl
  · rw [decide_eq_false h]
    refine decide_eq_false fun z => h ?_
    have z2 := V.int.inj z
    omega
/-- the sum of those numbers whose places are bits of m -/
def sumB (ns : List Int) (m : Nat) : Int := (((List.range ns.length).filter m.testBit).map fun i => ns.getD i 0).sum
def bits10 (m : Nat) : List Nat := (List.range 10).filter m.testBit
theorem range_filter_big {m : Nat} : ∀ {a b : Nat}, a ≤ b → m < 2 ^ a → (List.range b).filter m.testBit = (List.range a).filter m.testBit := by
  intro a b h hm
  induction b with
  | zero =>
    obtain rfl : a = 0 := by omega
    rfl
  | succ b ih =>
    by_cases e : a = b + 1
    · rw [e]
    · rw [List.range_succ, List.filter_append, ih (by omega)]
      have z : m.testBit b = false := Nat.testBit_lt_two_pow (Nat.lt_of_lt_of_le hm (Nat.pow_le_pow_right (by decide) (by omega)))
      rw [List.filter_cons, z]
      simp
theorem bits10_of {m n : Nat} (h : m < 2 ^ n) (hn : n ≤ 10) : bits10 m = (List.range n).filter m.testBit := range_filter_big hn h
theorem sumB_natAbs {M : Nat} : ∀ {l : List Int}, (∀ x ∈ l, x.natAbs ≤ M) → l.sum.natAbs ≤ l.length * M
  | [], _ => by simp
  | x :: r, h => by
    have h1 := h x (by simp)
    have h2 := sumB_natAbs (l := r) (M := M) fun y hy => h y (by simp [hy])
    rw [List.sum_cons, List.length_cons, Nat.succ_mul]
    have z := Int.natAbs_add_le x r.sum
    omega
theorem sumB_le {ns : List Int} {m M : Nat} (h : ∀ x ∈ ns, x.natAbs ≤ M) : (sumB ns m).natAbs ≤ ns.length * M := by
  unfold sumB
  refine Nat.le_trans (sumB_natAbs (M := M) fun x hx => ?_) (Nat.mul_le_mul_right _ ?_)
  · obtain ⟨i, hi, rfl⟩ := List.mem_map.mp hx
    have hi2 := List.mem_range.mp (List.mem_filter.mp hi).1
    rw [List.getD_eq_getElem?_getD, List.getElem?_eq_getElem hi2]
    exact h _ (List.getElem_mem hi2)
  · rw [List.length_map]
    have z := List.length_filter_le m.testBit (List.range ns.length)
    rwa [List.length_range] at z
/-! ### promises -/
def spHas : Sp := fun vs H Q _ => ∃ m k : Nat, vs = [.int (m : Int), .int (k : Int)] ∧ Q (.bl (m.testBit k)) H
/-- _law_things: a new list -/
def spThings : Sp := fun vs H Q _ => ∃ m : Nat, vs = [.int (m : Int)] ∧ ∀ p H', H p = none → Same H H' → H' p = some (.lst ((bits10 m).map fun i => V.int (i : Nat))) → Q (.ref p) H'
def spSumOver (K : PySem.W.Frag) : Sp := fun vs H Q _ => ∃ (a : Addr) (ns : List Int) (m : Nat), vs = [.ref a, .int (m : Int)] ∧ SqT K H a (ns.map V.int) ∧ ns.length ≤ 1000 ∧ ∀ H', Same H H' → Q (.int (sumB ns m)) H'
theorem Same.seqT {K : PySem.W.Frag} {H H' : Hp} {a : Addr} {xs : List V} (e : Same H H') (h : SqT K H a xs) : SqT K H' a xs := by
  rcases h with (h | ⟨o, h⟩) | h
  · exact .inl (.inl (e _ _ h))
  · exact .inl (.inr ⟨o, e _ _ h⟩)
  · exact .inr h
end Z
namespace Z
open PySem PySem.Spec PyProof.Rows L2
open C8 (Cal Def fnScope fnBody fnArgs pe_c cal0)
def topS (i : Nat) : Stmt := PySem.Challenge.pw_fallgain_k18_prices.main.body.getD i (.Pass ⟨0, 0, 0, 0⟩)
section
variable {P : Program} {w : World} {K : PySem.W.Frag} {mg : Str → Option Value} {base : Heap} {f : Addr} {fd : FuncData}
/-! ### common_divisor -/
abbrev s_common_divisor : Stmt := topS 1
theorem sc_common_divisor : FnScope ["one", "other"] ["one", "other"] (fnScope s_common_divisor) := ⟨rfl, rfl, rfl, by decide +kernel, rfl, by decide +kernel, by decide +kernel⟩
theorem c_common_divisor (T : Mb mg) (F : Def K mg "common_divisor" s_common_divisor f fd) (b : Binds K fd ["one", "other"] []) : Cal P w K mg base 1 "common_divisor" spGcd [] := by
  refine cal0 (k := 0) F b .nil sc_common_divisor (fun vs H Q E h => ?_) (fun cdv A outer s H vs Q E hr h => ?_)
  · obtain ⟨x, y, rfl, _⟩ := h
    rfl
  · obtain ⟨x, y, rfl, q⟩ := h
    refine ⟨_, (pss_cons (ps_par (i := 0) (j := 1) (by rfl) sc_common_divisor.nd rfl rfl (by decide) rfl rfl (pa_cons (pe_callB call_abs (by rfl) T.abs bb_abs (pa_cons (pv 0) pa_nil)) (pa_cons (pe_callB call_abs (by rfl) T.abs bb_abs (pa_cons (pv 1) pa_nil)) pa_nil)) (by rfl))
      (pss_cons (ps_while PassesOwn.never (pt_cmpR op_gt (pv 1) pe_int (nomark _)) (pss_one (ps_par (i := 0) (j := 1) (by rfl) sc_common_divisor.nd rfl rfl (by decide) rfl rfl (pa_cons (pv 1) (pa_cons (pe_op op_mod (pv 0) (pv 1)) pa_nil)) (by rfl))))
      (pss_one (ps_ret (pv 0))))), ?_⟩
    refine ⟨.int x, rfl, x, rfl, .int y, rfl, y, rfl, _, _, rfl, ?_⟩
    rw [abs_nat, abs_nat]
    refine ⟨fun m σ H1 => ∃ n : Nat, σ = [some (.int (n : Int)), some (.int (m : Int))] ∧ Nat.gcd n m = Int.gcd x y ∧ H1 = H, ⟨y.natAbs, x.natAbs, rfl, rfl, rfl⟩, fun m σ H1 hw => ?_⟩
    obtain ⟨n, rfl, hg, rfl⟩ := hw
    refine ⟨_, rfl, _, _, rfl, rfl, _, rfl, ite2 (fun e => ?_) (fun e => ?_)⟩
    · have e0 := of_decide_eq_true e
      refine ⟨fun σ' H' => σ' = [some (.int (m : Int)), some (.int ((n % m : Nat) : Int))] ∧ H' = H1, fun σ' H' h => ?_, ?_⟩
      · obtain ⟨rfl, rfl⟩ := h
        exact ⟨n % m, Nat.mod_lt _ (by omega), m, rfl, by rw [← hg, Nat.gcd_comm n m, Nat.gcd_rec m n, Nat.gcd_comm], rfl⟩
      · exact ⟨_, rfl, _, rfl, _, rfl, _, _, rfl, rfl, e0, _, _, rfl, rfl, rfl⟩
    · have e0 : m = 0 := by
        have z : ¬ (0 : Int) < (m : Int) := fun z => e (decide_eq_true z)
        omega
      subst e0
      refine ⟨_, rfl, ?_⟩
      rw [Nat.gcd_zero_right] at hg
      rw [hg]
      exact q
/-! ### lowest_terms, plus, times, is_less -/
abbrev s_lowest_terms : Stmt := topS 2
theorem sc_lowest_terms : FnScope ["top", "bottom", "divisor"] ["top", "bottom"] (fnScope s_lowest_terms) := ⟨rfl, rfl, rfl, by decide +kernel, rfl, by decide +kernel, by decide +kernel⟩
theorem c_lowest_terms (c_common_divisor : Cal P w K mg base 1 "common_divisor" spGcd []) (F : Def K mg "lowest_terms" s_lowest_terms f fd) (b : Binds K fd ["top", "bottom"] []) : Cal P w K mg base 2 "lowest_terms" spLow [] := by
  refine cal0 (k := 1) F b .nil sc_lowest_terms (fun vs H Q E h => ?_) (fun cdv A outer s H vs Q E hr h => ?_)
  · obtain ⟨x, y, rfl, _⟩ := h
    rfl
  · obtain ⟨x, y, rfl, hy, hB, q⟩ := h
    refine ⟨_, (pss_cons (ps_set (i := 2) sc_lowest_terms.nd rfl (Or.inl rfl) (pe_c c_common_divisor hr (by decide) (by rfl) (pa_cons (pv 0) (pa_cons (pv 1) pa_nil))))
      (pss_cons (ps_if (pt_cmpR op_lt (pv 1) pe_int (nomark _)) (pss_one (ps_set (i := 2) sc_lowest_terms.nd rfl (Or.inl rfl) (pe_un un_neg (pv 2)))) pss_nil)
      (pss_one (ps_ret (pe_tup (pa_cons (pe_op op_fdivZ (pv 0) (pv 2)) (pa_cons (pe_op op_fdivZ (pv 1) (pv 2)) pa_nil))))))), ?_⟩
    have hg : (Int.gcd x y) ≤ y.natAbs := Nat.le_of_dvd (Int.natAbs_pos.mpr hy) (Int.natAbs_dvd_natAbs.mpr (Int.gcd_dvd_right x y) |> fun z => by rwa [Int.natAbs_natCast] at z)
    have h0 : 0 < Int.gcd x y := Int.gcd_pos_of_ne_zero_right x hy
    have cd : ∀ s : Int, s.natAbs = Int.gcd x y → ∀ i, CDivZ i s := fun s e i => ⟨by omega, by
      rw [e]
      exact Nat.lt_of_lt_of_le (PySem.Flt.log2_lt_of (by decide) (Nat.lt_of_le_of_lt hg hB)) (by decide)⟩
    refine ⟨_, rfl, _, rfl, x, y, rfl, ?_⟩
    refine ⟨_, rfl, _, _, rfl, rfl, _, rfl, ite2 (fun e => ?_) (fun e => ?_)⟩
    · have e0 : y < 0 := of_decide_eq_true e
      have hs : (-((Int.gcd x y : Nat) : Int)).natAbs = Int.gcd x y := by omega
      refine ⟨_, rfl, _, rfl, ?_⟩
      refine ⟨_, rfl, _, rfl, _, _, rfl, rfl, cd _ hs _, _, rfl, _, rfl, _, _, rfl, rfl, cd _ hs _, by show 2 ≤ sizeLine; decide, fun p fp => ?_⟩
      exact q _ p _ _ (same_new fp) fp upd_same (low_of hy hs (.inr ⟨by omega, e0⟩))
    · have e0 : 0 < y := by
        have z : ¬ y < 0 := fun z => e (decide_eq_true z)
        omega
      have hs : (((Int.gcd x y : Nat) : Int)).natAbs = Int.gcd x y := by omega
      refine ⟨_, rfl, _, rfl, _, _, rfl, rfl, cd _ hs _, _, rfl, _, rfl, _, _, rfl, rfl, cd _ hs _, by show 2 ≤ sizeLine; decide, fun p fp => ?_⟩
      exact q _ p _ _ (same_new fp) fp upd_same (low_of hy hs (.inl ⟨by omega, e0⟩))
/-! ### has_thing -/
abbrev s_has_thing : Stmt := topS 4
theorem sc_has_thing : FnScope ["members", "thing"] ["members", "thing"] (fnScope s_has_thing) := ⟨rfl, rfl, rfl, by decide +kernel, rfl, by decide +kernel, by decide +kernel⟩
theorem c_has_thing (F : Def K mg "has_thing" s_has_thing f fd) (b : Binds K fd ["members", "thing"] []) : Cal P w K mg base 1 "has_thing" spHas [] := by
  refine cal0 (k := 0) F b .nil sc_has_thing (fun vs H Q E h => ?_) (fun cdv A outer s H vs Q E hr h => ?_)
  · obtain ⟨m, k, rfl, _⟩ := h
    rfl
  · obtain ⟨m, k, rfl, q⟩ := h
    refine ⟨_, (pss_one (ps_ret (pe_cmpR op_eq (pe_op op_andM (pe_op op_shrM (pv 0) (pv 1)) pe_int) pe_int (nomark _)))), ?_⟩
    refine ⟨_, rfl, _, rfl, m, k, rfl, rfl, _, 1, rfl, rfl, rfl, ?_⟩
    rw [bit_dec]
    exact q
/-! ### _law_things -/
theorem bits_turn {m i : Nat} (hi : i < 10) (e : m.testBit i = true) : ((List.range (i + 1)).filter m.testBit).map (fun i => V.int (i : Nat)) = ((List.range i).filter m.testBit).map (fun i => V.int (i : Nat)) ++ [V.int (i : Nat)] := by
  rw [List.range_succ, List.filter_append, List.map_append, List.filter_cons, e]
  rfl
theorem bits_stay {m i : Nat} (e : m.testBit i = false) : (List.range (i + 1)).filter m.testBit = (List.range i).filter m.testBit := by
  rw [List.range_succ, List.filter_append, List.filter_cons, e]
  simp
abbrev s_things : Stmt := topS 15
theorem sc_things : FnScope ["_law_number", "_law_thing"] ["_law_number"] (fnScope s_things) := ⟨rfl, rfl, rfl, by decide +kernel, rfl, by decide +kernel, by decide +kernel⟩
theorem c_things (T : Mb mg) (F : Def K mg "_law_things" s_things f fd) (b : Binds K fd ["_law_number"] []) : Cal P w K mg base 1 "_law_things" spThings [] := by
  refine cal0 (k := 0) F b .nil sc_things (fun vs H Q E h => ?_) (fun cdv A outer s H vs Q E hr h => ?_)
  · obtain ⟨m, rfl, _⟩ := h
    rfl
  · obtain ⟨m, rfl, q⟩ := h
    refine ⟨_, (pss_one (ps_ret (pe_lc (own := [("_law_thing", 1)]) (g := gName 1) rfl sc_things.nd (pi_range1 (by rfl) T.range (pa_cons pe_int pa_nil)) (blkOk_by (own := [("_law_thing", 1)]) (N := ["_law_number", "_law_thing"]) (sc := fnScope s_things) (by decide +kernel)) (fun _ _ _ _ _ => (pg_name (i := 1) sc_things.nd rfl (Or.inl rfl))) (fun _ _ _ _ _ => (pts_one (pt_cmpR op_eq (pe_op op_andM (pe_op op_shrM (pv 0) (pv 1)) pe_int) pe_int (nomark _)))) (fun _ _ _ _ _ => (pv 1))))), ?_⟩
    refine ⟨10, rfl, by decide, by decide, fun D fD => lc_range (lo := 0) (n := 10) (fun i H' => Same H H' ∧ H' D = some (.lst (((List.range i).filter m.testBit).map fun i => V.int (i : Nat)))) ⟨same_new fD, upd_same⟩ (fun i H' hi h => ?_) (fun H' h => q D H' fD h.1 h.2)⟩
    obtain ⟨sm, e1⟩ := h
    refine ⟨rfl, _, rfl, _, rfl, m, i, rfl, by rw [Int.zero_add], _, 1, rfl, rfl, rfl, _, rfl, ?_⟩
    rw [bit_dec]
    cases e : m.testBit i with
    | true =>
      refine iteT ⟨_, rfl, _, e1, ?_, ?_⟩
      · rw [List.length_map]
        exact small1000 (Nat.le_trans (List.length_filter_le _ _) (by rw [List.length_range]; omega))
      · refine ⟨same_put sm fD, ?_⟩
        rw [upd_same, bits_turn hi e, Int.zero_add]
    | false =>
      refine iteF ⟨sm, ?_⟩
      rw [bits_stay e]
      exact e1
/-! ### sum_over -/
theorem sum_turn {ns : List Int} {m i : Nat} {x : Int} (hx : ns[i]? = some x) (e : m.testBit i = true) : (((List.range (i + 1)).filter m.testBit).map fun i => ns.getD i 0) = (((List.range i).filter m.testBit).map fun i => ns.getD i 0) ++ [x] := by
  rw [List.range_succ, List.filter_append, List.map_append, List.filter_cons, e]
  show _ ++ [ns.getD i 0] = _
  rw [List.getD_eq_getElem?_getD, hx]
  rfl
abbrev s_sum_over : Stmt := topS 5
theorem sc_sum_over : FnScope ["numbers", "members", "thing", "number"] ["numbers", "members"] (fnScope s_sum_over) := ⟨rfl, rfl, rfl, by decide +kernel, rfl, by decide +kernel, by decide +kernel⟩
theorem c_sum_over (T : Mb mg) (c_has_thing : Cal P w K mg base 1 "has_thing" spHas []) (F : Def K mg "sum_over" s_sum_over f fd) (b : Binds K fd ["numbers", "members"] []) : Cal P w K mg base 2 "sum_over" (spSumOver K) [] := by
  refine cal0 (k := 1) F b .nil sc_sum_over (fun vs H Q E h => ?_) (fun cdv A outer s H vs Q E hr h => ?_)
  · obtain ⟨a, ns, m, rfl, _⟩ := h
    rfl
  · obtain ⟨a, ns, m, rfl, hS, hl, q⟩ := h
    refine ⟨_, (pss_one (ps_ret (pe_callB (k_sum K rfl rfl) (by rfl) T.sum bb_sum (pa_cons (pe_lc (own := [("thing", 2), ("number", 3)]) (g := gTup K 2 (gCons (gName 2) (gCons (gName 3) gNil))) rfl sc_sum_over.nd (pi_enumT (by rfl) T.enumerate (pa_cons (pv 0) pa_nil)) (blkOk_by (own := [("thing", 2), ("number", 3)]) (N := ["numbers", "members", "thing", "number"]) (sc := fnScope s_sum_over) (by decide +kernel)) (fun _ _ _ _ _ => (pg_tup rfl (pgs_cons (pg_name (i := 2) sc_sum_over.nd rfl (Or.inl rfl)) (pgs_cons (pg_name (i := 3) sc_sum_over.nd rfl (Or.inl rfl)) pgs_nil)))) (fun _ _ _ _ _ => (pts_one (pt_val (pe_c c_has_thing hr (by decide) (by rfl) (pa_cons (pv 1) (pa_cons (pv 2) pa_nil)))))) (fun _ _ _ _ _ => (pv 3))) pa_nil)))), ?_⟩
    refine ⟨_, rfl, a, _, rfl, hS, fun D fD => lc_enumT (K := K) (a := a) (xs := ns.map V.int) (fun i H' => Same H H' ∧ H' D = some (.lst ((((List.range i).filter m.testBit).map fun i => ns.getD i 0).map V.int))) ⟨same_new fD, upd_same⟩ (fun i H' _ h => Same.seqT h.1 hS) (fun i x U H' hx fU h => ?_) (fun H' h => ?_)⟩
    · obtain ⟨sm, e1⟩ := h
      rw [List.getElem?_map] at hx
      cases hz : ns[i]? with
      | none => rw [hz] at hx; cases hx
      | some z =>
        rw [hz] at hx
        obtain rfl := Option.some.inj hx
        have hi : i < ns.length := (List.getElem?_eq_some_iff.mp hz).1
        have sU := sm.trans (same_new (o := .tup [.int (i : Nat), .int z]) fU)
        have e2 := (same_new (o := .tup [.int (i : Nat), .int z]) fU) _ _ e1
        refine ⟨U, [.int (i : Nat), .int z], rfl, SqT.of upd_same, rfl, .int (i : Nat), [.int z], rfl, .int z, [], rfl, rfl, rfl, ?_⟩
        refine ⟨_, rfl, _, rfl, m, i, rfl, m.testBit i, rfl, ?_⟩
        cases e : m.testBit i with
        | true =>
          refine iteT ⟨_, rfl, _, e2, ?_, ?_⟩
          · rw [List.length_map, List.length_map]
            exact small1000 (Nat.le_trans (List.length_filter_le _ _) (by rw [List.length_range]; omega))
          · refine ⟨same_put sU fD, ?_⟩
            rw [upd_same, sum_turn hz e, List.map_append]
            rfl
        | false =>
          refine iteF ⟨sU, ?_⟩
          rw [bits_stay e]
          exact e2
    · obtain ⟨sm, e1⟩ := h
      rw [List.length_map] at e1
      exact ⟨D, _, rfl, SqL.of e1, q H' sm⟩
/-! ### _law_mixed -/
abbrev s_mixed : Stmt := topS 9
theorem sc_mixed : FnScope ["_law_cell", "_law_k", "_law_number"] ["_law_cell", "_law_k"] (fnScope s_mixed) := ⟨rfl, rfl, rfl, by decide +kernel, rfl, by decide +kernel, by decide +kernel⟩
theorem c_mixed (F : Def K mg "_law_mixed" s_mixed f fd) (b : Binds K fd ["_law_cell", "_law_k"] []) : Cal P w K mg base 1 "_law_mixed" spMixed [] := by
  refine cal0 (k := 0) F b .nil sc_mixed (fun vs H Q E h => ?_) (fun cdv A outer s H vs Q E hr h => ?_)
  · obtain ⟨c, k, rfl, _⟩ := h
    rfl
  · obtain ⟨c, k, rfl, h0, h1, q⟩ := h
    refine ⟨_, (pss_cons (ps_set (i := 2) sc_mixed.nd rfl (Or.inl rfl) (pe_op op_mod (pe_op op_add (pe_op op_add (pv 0) (pe_op op_mul (pe_op op_mul (pv 1) (pv 1)) pe_int)) pe_int) pe_int))
      (pss_cons (ps_set (i := 2) sc_mixed.nd rfl (Or.inl rfl) (pe_op op_mod (pe_op op_mul (pv 2) (pv 2)) pe_int))
      (pss_cons (ps_set (i := 2) sc_mixed.nd rfl (Or.inl rfl) (pe_op op_mod (pe_op op_mul (pe_op op_add (pe_op op_add (pv 2) (pe_op op_mul (pv 1) pe_int)) pe_int) pe_int) pe_int))
      (pss_one (ps_ret (pe_op op_fdivW (pe_op op_mod (pe_op op_mul (pv 2) (pv 2)) pe_int) pe_int)))))), ?_⟩
    refine ⟨_, rfl, _, rfl, _, rfl, _, _, rfl, rfl, .inl ⟨by omega, by omega⟩, _, _, rfl, rfl, .inr ⟨by omega, by omega⟩, _, _, rfl, rfl, _, _, rfl, rfl, _, _, rfl, rfl, (by show (0 : Int) < 2305843009213693951; decide), ?_⟩
    have a0 := Int.emod_nonneg (c + k * k * 40503 + 12345) (show (2305843009213693951 : Int) ≠ 0 by decide)
    have a1 := Int.emod_lt_of_pos (c + k * k * 40503 + 12345) (show (0 : Int) < 2305843009213693951 by decide)
    generalize (c + k * k * 40503 + 12345) % 2305843009213693951 = n at a0 a1 ⊢
    refine ⟨_, rfl, _, rfl, _, _, rfl, rfl, .inl ⟨by omega, by omega⟩, _, _, rfl, rfl, (by show (0 : Int) < 2305843009213693951; decide), ?_⟩
    have b0 := Int.emod_nonneg (n * n) (show (2305843009213693951 : Int) ≠ 0 by decide)
    generalize (n * n) % 2305843009213693951 = m at b0 ⊢
    refine ⟨_, rfl, _, rfl, _, _, rfl, rfl, .inl ⟨by omega, by omega⟩, _, _, rfl, rfl, _, _, rfl, rfl, _, _, rfl, rfl, .inr ⟨by omega, by omega⟩, _, _, rfl, rfl, (by show (0 : Int) < 2305843009213693951; decide), ?_⟩
    have d0 := Int.emod_nonneg ((m + k * 7919 + 1) * 48271) (show (2305843009213693951 : Int) ≠ 0 by decide)
    have d1 := Int.emod_lt_of_pos ((m + k * 7919 + 1) * 48271) (show (0 : Int) < 2305843009213693951 by decide)
    generalize ((m + k * 7919 + 1) * 48271) % 2305843009213693951 = l at d0 d1 ⊢
    refine ⟨_, rfl, _, rfl, _, _, rfl, rfl, .inl ⟨by omega, by omega⟩, _, _, rfl, rfl, (by show (0 : Int) < 2305843009213693951; decide), _, _, rfl, rfl, ⟨by decide, by decide⟩, ?_⟩
    exact q _ (Int.ediv_nonneg (Int.emod_nonneg _ (by decide)) (by decide))
/-! ### _law_next -/
abbrev s_next : Stmt := topS 11
theorem sc_next : FnScope ["_law_deck_here"] ["_law_deck_here"] (fnScope s_next) := ⟨rfl, rfl, rfl, by decide +kernel, rfl, by decide +kernel, by decide +kernel⟩
theorem c_next (T : Mb mg) (F : Def K mg "_law_next" s_next f fd) (b : Binds K fd ["_law_deck_here"] []) : Cal P w K mg base 1 "_law_next" spNext [] := by
  refine cal0 (k := 0) F b .nil sc_next (fun vs H Q E h => ?_) (fun cdv A outer s H vs Q E hr h => ?_)
  · obtain ⟨d, rfl, _⟩ := h
    rfl
  · obtain ⟨d, rfl, ⟨ns, hd, hz, hn⟩, q⟩ := h
    refine ⟨_, (pss_cons (ps_if (pt_cmpR op_gt (pe_callB (k_len K rfl) (by rfl) T.len bb_len (pa_cons (pv 0) pa_nil)) pe_int (nomark _)) (pss_one (ps_ret (pe_bm0 PySem.F.plainAttrs_list PySem.F.slot_list_pop PySem.F.type_list_pop mt_pop (pv 0)))) pss_nil)
      (pss_one (ps_ret pe_int))), ?_⟩
    refine ⟨.ref d, rfl, d, _, rfl, .inl (SqL.of hd), _, _, rfl, rfl, _, rfl, ite2 (fun e => ?_) (fun e => ?_)⟩
    · have e0 := of_decide_eq_true e
      rw [List.length_map] at e0
      obtain ⟨ms, x, rfl⟩ : ∃ ms x, ns = ms ++ [x] := ⟨ns.dropLast, ns.getLast (fun z => by subst z; exact absurd e0 (by decide)), (List.dropLast_concat_getLast _).symm⟩
      have hx := hn x (by simp)
      refine ⟨.ref d, rfl, .inl ⟨rfl, _, SqL.of hd⟩, d, _, .int x, rfl, rfl, hd, ?_, ?_⟩
      · simp
      · refine q x _ hx.1 hx.2 Of.put ⟨ms, ?_, ?_, fun n z => hn n (by simp [z])⟩
        · rw [upd_same, List.map_append, List.map_singleton, List.dropLast_concat]
        · rw [List.length_append] at hz
          omega
    · exact q 0 H (by decide) (by decide) (Of.refl d H) ⟨ns, hd, hz, hn⟩
/-! ### _law_whole -/
abbrev s_whole : Stmt := topS 12
theorem sc_whole : FnScope ["_law_found"] ["_law_found"] (fnScope s_whole) := ⟨rfl, rfl, rfl, by decide +kernel, rfl, by decide +kernel, by decide +kernel⟩
theorem c_whole (T : Mb mg) (F : Def K mg "_law_whole" s_whole f fd) (b : Binds K fd ["_law_found"] []) : Cal P w K mg base 1 "_law_whole" (spWhole K) [] := by
  refine cal0 (k := 0) F b .nil sc_whole (fun vs H Q E h => ?_) (fun cdv A outer s H vs Q E hr h => ?_)
  · obtain ⟨x, t, b1, b2, rfl, _⟩ := h
    rfl
  · obtain ⟨x, t, b1, b2, rfl, ht, e1, e2, q⟩ := h
    refine ⟨_, (pss_one (ps_ret (pe_and (pe_callB (k_isi K rfl) (by rfl) T.isinstance bb_isinstance (pa_cons (pv 0) (pa_cons (pe_bltn (v := .ty "int") (by rfl) T.int bb_int rfl) pa_nil))) (pe_one (pe_not (pe_callB (k_isi K rfl) (by rfl) T.isinstance bb_isinstance (pa_cons (pv 0) (pa_cons (pe_bltn (v := .ty "bool") (by rfl) T.bool bb_bool rfl) pa_nil)))))))), ?_⟩
    refine ⟨x, rfl, x, .ty "int", _, _, b1, rfl, .ty _, ht, kit_ty e1, b1, rfl, ?_⟩
    cases b1 with
    | true => exact iteT ⟨x, rfl, x, .ty "bool", _, _, b2, rfl, .ty _, ht, kit_ty e2, b2, rfl, q⟩
    | false => exact iteF q
/-! ### _law_divisor -/
abbrev s_divisor : Stmt := topS 13
theorem sc_divisor : FnScope ["_law_one", "_law_other"] ["_law_one", "_law_other"] (fnScope s_divisor) := ⟨rfl, rfl, rfl, by decide +kernel, rfl, by decide +kernel, by decide +kernel⟩
theorem c_divisor (T : Mb mg) (F : Def K mg "_law_divisor" s_divisor f fd) (b : Binds K fd ["_law_one", "_law_other"] []) : Cal P w K mg base 1 "_law_divisor" spGcd [] := by
  refine cal0 (k := 0) F b .nil sc_divisor (fun vs H Q E h => ?_) (fun cdv A outer s H vs Q E hr h => ?_)
  · obtain ⟨x, y, rfl, _⟩ := h
    rfl
  · obtain ⟨x, y, rfl, q⟩ := h
    refine ⟨_, (pss_cons (ps_par (i := 0) (j := 1) (by rfl) sc_divisor.nd rfl rfl (by decide) rfl rfl (pa_cons (pe_callB call_abs (by rfl) T.abs bb_abs (pa_cons (pv 0) pa_nil)) (pa_cons (pe_callB call_abs (by rfl) T.abs bb_abs (pa_cons (pv 1) pa_nil)) pa_nil)) (by rfl))
      (pss_cons (ps_while PassesOwn.never (pt_cmpR op_gt (pv 1) pe_int (nomark _)) (pss_one (ps_par (i := 0) (j := 1) (by rfl) sc_divisor.nd rfl rfl (by decide) rfl rfl (pa_cons (pv 1) (pa_cons (pe_op op_mod (pv 0) (pv 1)) pa_nil)) (by rfl))))
      (pss_one (ps_ret (pv 0))))), ?_⟩
    refine ⟨.int x, rfl, x, rfl, .int y, rfl, y, rfl, _, _, rfl, ?_⟩
    rw [abs_nat, abs_nat]
    refine ⟨fun m σ H1 => ∃ n : Nat, σ = [some (.int (n : Int)), some (.int (m : Int))] ∧ Nat.gcd n m = Int.gcd x y ∧ H1 = H, ⟨y.natAbs, x.natAbs, rfl, rfl, rfl⟩, fun m σ H1 hw => ?_⟩
    obtain ⟨n, rfl, hg, rfl⟩ := hw
    refine ⟨_, rfl, _, _, rfl, rfl, _, rfl, ite2 (fun e => ?_) (fun e => ?_)⟩
    · have e0 := of_decide_eq_true e
      refine ⟨fun σ' H' => σ' = [some (.int (m : Int)), some (.int ((n % m : Nat) : Int))] ∧ H' = H1, fun σ' H' h => ?_, ?_⟩
      · obtain ⟨rfl, rfl⟩ := h
        exact ⟨n % m, Nat.mod_lt _ (by omega), m, rfl, by rw [← hg, Nat.gcd_comm n m, Nat.gcd_rec m n, Nat.gcd_comm], rfl⟩
      · exact ⟨_, rfl, _, rfl, _, rfl, _, _, rfl, rfl, e0, _, _, rfl, rfl, rfl⟩
    · have e0 : m = 0 := by
        have z : ¬ (0 : Int) < (m : Int) := fun z => e (decide_eq_true z)
        omega
      subst e0
      refine ⟨_, rfl, ?_⟩
      rw [Nat.gcd_zero_right] at hg
      rw [hg]
      exact q
/-! ### _law_deck -/
abbrev s_deck : Stmt := topS 10
theorem sc_deck : FnScope ["_law_script", "_law_many", "_law_own", "_law_rest", "_law_deck_here", "_law_k", "_law_at", "_law_cell"] ["_law_script", "_law_many"] (fnScope s_deck) := ⟨rfl, rfl, rfl, by decide +kernel, rfl, by decide +kernel, by decide +kernel⟩
theorem c_deck (T : Mb mg) (c_mixed : Cal P w K mg base 1 "_law_mixed" spMixed []) (F : Def K mg "_law_deck" s_deck f fd) (b : Binds K fd ["_law_script", "_law_many"] []) : Cal P w K mg base 2 "_law_deck" (spDeck K) [] := by
  refine cal0 (k := 1) F b .nil sc_deck (fun vs H Q E h => ?_) (fun cdv A outer s H vs Q E hr h => ?_)
  · obtain ⟨a, ns, n, rfl, _⟩ := h
    rfl
  · obtain ⟨a, ns, n, rfl, hS, hl, hn0, hn1, q⟩ := h
    refine ⟨_, (pss_cons (ps_set (i := 2) sc_deck.nd rfl (Or.inl rfl) (pe_op op_cat (pe_callTy (k_list K rfl) (by rfl) T.list bb_list (pa_cons (pe_slice (k_slL K rfl) (pv 0) po_none (po_some pe_int)) pa_nil)) (pe_op op_rep (pe_lst (pa_cons pe_int pa_nil)) (pe_callTy call_int1 (by rfl) T.int bb_int (pa_cons (pe_cmpR op_eq (pe_callB (k_len K rfl) (by rfl) T.len bb_len (pa_cons (pv 0) pa_nil)) pe_int (nomark _)) pa_nil)))))
      (pss_cons (ps_setLc (i := 3) (own := [("_law_cell", 7)]) (g := gName 7) (tt := tYes) rfl sc_deck.nd rfl rfl (sw_true rfl rfl rfl (by decide +kernel)) (pi_list (pv 2)) (blkOk_by (own := [("_law_cell", 7)]) (N := ["_law_script", "_law_many", "_law_own", "_law_rest", "_law_deck_here", "_law_k", "_law_at", "_law_cell"]) (sc := fnScope s_deck) (by decide +kernel)) (fun _ _ _ _ _ => (pg_name (i := 7) sc_deck.nd rfl (Or.inl rfl))) (fun _ _ _ _ _ => pts_nil) (fun _ _ _ _ _ => (pe_op op_mul (pv 7) (pe_callTy call_int1 (by rfl) T.int bb_int (pa_cons (pe_cmpR op_ge (pv 7) (pe_op p18 pe_int pe_int) (nomark _)) pa_nil)))))
      (pss_cons (ps_set (i := 4) sc_deck.nd rfl (Or.inl rfl) (pe_lst pa_nil))
      (pss_cons (ps_for PassesOwn.never rfl (pi_range1 (by rfl) T.range (pa_cons (pv 1) pa_nil)) (pg_name (i := 5) sc_deck.nd rfl (Or.inl rfl)) (pss_cons (ps_set (i := 6) sc_deck.nd rfl (Or.inl rfl) (pe_op op_mod (pv 5) (pe_callB (k_len K rfl) (by rfl) T.len bb_len (pa_cons (pv 2) pa_nil))))
      (pss_one (ps_if (pt_cmpR op_gt (pe_ix (k_ixL K rfl) (pv 3) (pv 6) (fun _ _ => rfl)) pe_int (nomark _)) (pss_cons (ps_expr (pe_bm PySem.F.plainAttrs_list PySem.F.slot_list_append PySem.F.type_list_append mt_append (pv 4) (pa_cons (pe_op op_mod (pe_ix (k_ixL K rfl) (pv 3) (pv 6) (fun _ _ => rfl)) (pe_op p15 pe_int pe_int)) pa_nil)))
      (pss_one (ps_asg (pe_op op_fdivW (pe_ix (k_ixL K rfl) (pv 3) (pv 6) (fun _ _ => rfl)) (pe_op p15 pe_int pe_int)) (pg_sub (pv 3) (pv 6) set_list)))) (pss_one (ps_expr (pe_bm PySem.F.plainAttrs_list PySem.F.slot_list_append PySem.F.type_list_append mt_append (pv 4) (pa_cons (pe_op op_mod (pe_c c_mixed hr (by decide) (by rfl) (pa_cons (pe_ix (k_ixL K rfl) (pv 2) (pv 6) (fun _ _ => rfl)) (pa_cons (pe_op op_add (pv 5) pe_int) pa_nil))) (pe_op p15 pe_int pe_int)) pa_nil))))))))
      (pss_one (ps_ret (pe_listRev rfl (by rfl) T.list (by rfl) T.reversed (pv 4)))))))), ?_⟩
    -- own = list(script[:60]) + [0] * int(len(script) == 0)
    refine ⟨.ref a, rfl, _, rfl, a, _, rfl, hS, fun p1 f1 => ?_⟩
    refine ⟨p1, _, rfl, .inl (SqL.of upd_same), fun p2 f2 => ?_⟩
    have s1 := same_new (o := .lst (cutV (ns.map V.int) none (some 60))) f1
    have s2 := s1.trans (same_new (o := .lst (cutV (ns.map V.int) none (some 60))) f2)
    refine ⟨by show 1 ≤ sizeLine; decide, fun p3 f3 => ?_⟩
    have s3 := s2.trans (same_new (o := .lst [.int 0]) f3)
    refine ⟨.ref a, rfl, a, _, rfl, .inl (s3.seq hS), rfl, .inr ⟨_, rfl, ?_⟩⟩
    refine ⟨p3, _, [.int 0], rfl, rfl, upd_same, ?_, ?_, ?_, fun p4 f4 => ?_⟩
    · split <;> decide
    · split <;> decide
    · split <;> decide
    have s4 := s3.trans (same_new (o := .lst (List.replicate (if decide (V.int ((ns.map V.int).length : Int) = V.int 0) = true then (1 : Int) else 0).toNat [V.int 0]).flatten) f4)
    obtain ⟨ms, e1, g0, g1⟩ := deck_own ns hl
    refine ⟨p2, p4, cutV (ns.map V.int) none (some 60), _, rfl, rfl, ?_, upd_same, ?_, fun o f5 => ?_⟩
    · exact (same_new f4) p2 _ ((same_new f3) p2 _ upd_same)
    · rw [← List.length_append, e1, List.length_map]
      exact Nat.le_of_lt (small1000 (by omega))
    rw [e1]
    have s5 := s4.trans (same_new (o := .lst (ms.map V.int)) f5)
    have fo : H o = none := s4.free f5
    generalize hH5 : upd _ o (.lst (ms.map V.int)) = H5 at s5
    have ho : H5 o = some (.lst (ms.map V.int)) := by
      rw [← hH5]
      exact upd_same
    -- rest
    refine ⟨.ref o, rfl, o, rfl, ⟨_, SqL.of ho⟩, fun r fr => lc_list (K := K) (a := o) (xs := ms.map V.int) (fun i H' => Same H5 H' ∧ ∃ rs : List Int, rs.length = i ∧ H' r = some (.lst (rs.map V.int))) ⟨same_new fr, [], rfl, upd_same⟩ (fun i H' _ h => h.1.seq (SqL.of ho)) (fun i x H' hx h => ?_) (fun H' h => ?_)⟩
    · obtain ⟨sm, rs, e2, e3⟩ := h
      obtain ⟨z, rfl⟩ : ∃ z, x = V.int z := by
        rw [List.getElem?_map] at hx
        cases hz : ms[i]? with
        | none => rw [hz] at hx; cases hx
        | some z => rw [hz] at hx; exact ⟨z, (Option.some.inj hx).symm⟩
      have hi : i < (ms.map V.int).length := (List.getElem?_eq_some_iff.mp hx).1
      rw [List.length_map] at hi
      refine ⟨rfl, yes_if ⟨_, rfl, _, rfl, rfl, rfl, _, _, rfl, rfl, .inr ⟨_, rfl, _, _, rfl, rfl, .inr ?_, _, e3, ?_, ?_⟩⟩⟩
      · split <;> exact ⟨by decide, by decide⟩
      · rw [List.length_map]
        exact small1000 (by omega)
      · refine ⟨same_put sm fr, rs ++ [z * (if decide (1000000000000000000 ≤ z) = true then 1 else 0)], ?_, ?_⟩
        · rw [List.length_append, e2]
          rfl
        · rw [upd_same, List.map_append]
          rfl
    obtain ⟨sm6, rs, e2, hr6⟩ := h
    rw [List.length_map] at e2
    have s6 := s5.trans sm6
    have ho6 := sm6 _ _ ho
    -- the deck
    refine ⟨Nat.zero_le _, fun d fd7 => ?_⟩
    have s7 := s6.trans (same_new (o := .lst []) fd7)
    have nrd : r ≠ d := ne_of_none hr6 fd7
    have nod : o ≠ d := ne_of_none ho6 fd7
    have nor : o ≠ r := ne_of_none ho fr
    refine ⟨.int n, rfl, n, rfl, by omega, by omega, for_range (lo := 0) (n := n.toNat) (fun i σ H' => ∃ y5 y6 y7, σ = [some (.ref a), some (.int n), some (.ref o), some (.ref r), some (.ref d), y5, y6, y7] ∧ Same H H' ∧ H' o = some (.lst (ms.map V.int)) ∧ (∃ rs : List Int, rs.length = ms.length ∧ H' r = some (.lst (rs.map V.int))) ∧
        ∃ ds : List Int, ds.length = i ∧ H' d = some (.lst (ds.map V.int)) ∧ ∀ z ∈ ds, 0 ≤ z ∧ z < 1000000000000000) ?_ (fun i σ H' hi h => ?_) (fun σ H' h => ?_)⟩
    · refine ⟨none, none, none, rfl, s7, ?_, ⟨rs, e2, ?_⟩, [], rfl, upd_same, fun z hz => by cases hz⟩
      · rw [upd_ne nod]
        exact ho6
      · rw [upd_ne nrd]
        exact hr6
    · obtain ⟨y5, y6, y7, rfl, sm, ho8, ⟨rs, e2, hr8⟩, ds, e4, hd8, hd9⟩ := h
      have fr0 : H r = none := s5.free fr
      have fd0 : H d = none := s6.free fd7
      have m0 : (0 : Int) < ((ms.map V.int).length : Int) := by
        rw [List.length_map]
        omega
      refine ⟨_, rfl, .ref o, rfl, o, _, rfl, .inl (SqL.of ho8), _, _, rfl, rfl, m0, ?_⟩
      have k0 := Int.emod_nonneg (0 + (i : Int)) (show ((ms.map V.int).length : Int) ≠ 0 by omega)
      have k1 := Int.emod_lt_of_pos (0 + (i : Int)) m0
      rw [List.length_map] at k0 k1
      rw [List.length_map]
      obtain ⟨j, ej⟩ := Int.eq_ofNat_of_zero_le k0
      dsimp only
      rw [ej] at k1 ⊢
      have hj : j < rs.length := by omega
      have hj2 : j < ms.length := by omega
      have ga : atI (rs.map V.int) (j : Int) = some (.int rs[j]) := atI_nat (by rw [List.getElem?_map, List.getElem?_eq_getElem hj]; rfl)
      have gb : atI (ms.map V.int) (j : Int) = some (.int ms[j]) := atI_nat (by rw [List.getElem?_map, List.getElem?_eq_getElem hj2]; rfl)
      have hsz : (ds.map V.int).length < sizeLine := by
        rw [List.length_map]
        exact small1000 (by omega)
      refine ⟨.ref r, rfl, _, rfl, r, _, _, _, rfl, rfl, SqL.of hr8, ga, _, _, rfl, rfl, _, rfl, ite2 (fun e => ?_) (fun e => ?_)⟩
      · refine ⟨.ref d, rfl, .inl ⟨rfl, _, SqL.of hd8⟩, .ref r, rfl, _, rfl, r, _, _, _, rfl, rfl, SqL.of hr8, ga, rfl, rfl, _, _, rfl, rfl, (by show (0 : Int) < 1000000000000000; decide), d, _, _, rfl, rfl, hd8, hsz, ?_⟩
        have hr9 : (upd H' d (.lst (ds.map V.int ++ [.int (rs[j] % 1000000000000000)]))) r = some (.lst (rs.map V.int)) := by
          rw [upd_ne nrd]
          exact hr8
        refine ⟨.ref r, rfl, _, rfl, r, _, _, _, rfl, rfl, SqL.of hr9, ga, rfl, rfl, _, _, rfl, rfl, ⟨by decide, by decide⟩, .ref r, rfl, _, rfl, r, _, _, j, rfl, rfl, hr9, ixN_in (by rw [List.length_map]; exact hj), ?_⟩
        refine ⟨_, _, y7, rfl, same_put (same_put sm fd0) fr0, ?_, ⟨rs.set j (rs[j] / 1000000000000000), by rw [List.length_set]; exact e2, ?_⟩, ds ++ [rs[j] % 1000000000000000], ?_, ?_, ?_⟩
        · rw [upd_ne nor, upd_ne nod]
          exact ho8
        · rw [upd_same, List.map_set]
        · rw [List.length_append, e4]
          rfl
        · rw [upd_ne nrd.symm, upd_same, List.map_append]
          rfl
        · intro z hz
          rcases List.mem_append.mp hz with hz | hz
          · exact hd9 z hz
          · rw [List.mem_singleton.mp hz]
            exact ⟨Int.emod_nonneg _ (by decide), Int.emod_lt_of_pos _ (by decide)⟩
      · refine ⟨.ref d, rfl, .inl ⟨rfl, _, SqL.of hd8⟩, .ref o, rfl, _, rfl, o, _, _, _, rfl, rfl, SqL.of ho8, gb, _, rfl, _, _, rfl, rfl, _, _, rfl, by omega, by omega, fun v hv => ?_⟩
        refine ⟨rfl, rfl, _, _, rfl, rfl, (by show (0 : Int) < 1000000000000000; decide), d, _, _, rfl, rfl, hd8, hsz, ?_⟩
        refine ⟨_, _, y7, rfl, same_put sm fd0, ?_, ⟨rs, e2, ?_⟩, ds ++ [v % 1000000000000000], ?_, ?_, ?_⟩
        · rw [upd_ne nod]
          exact ho8
        · rw [upd_ne nrd]
          exact hr8
        · rw [List.length_append, e4]
          rfl
        · rw [upd_same, List.map_append]
          rfl
        · intro z hz
          rcases List.mem_append.mp hz with hz | hz
          · exact hd9 z hz
          · rw [List.mem_singleton.mp hz]
            exact ⟨Int.emod_nonneg _ (by decide), Int.emod_lt_of_pos _ (by decide)⟩
    · obtain ⟨y5, y6, y7, rfl, sm, _, _, ds, e4, hd8, hd9⟩ := h
      refine ⟨.ref d, rfl, d, _, rfl, SqL.of hd8, fun p fp => ?_⟩
      refine q _ p (sm.trans (same_new fp)) (sm.free fp) ⟨ds.reverse, ?_, ?_, ?_⟩
      · rw [upd_same, List.map_reverse]
      · rw [List.length_reverse]
        omega
      · exact fun z hz => hd9 z (List.mem_reverse.mp hz)
/-! ### _law_is_fraction -/
abbrev s_is_fraction : Stmt := topS 17
theorem sc_is_fraction : FnScope ["_law_found"] ["_law_found"] (fnScope s_is_fraction) := ⟨rfl, rfl, rfl, by decide +kernel, rfl, by decide +kernel, by decide +kernel⟩
theorem c_is_fraction (T : Mb mg) (c_whole : Cal P w K mg base 1 "_law_whole" (spWhole K) []) (c_divisor : Cal P w K mg base 1 "_law_divisor" spGcd []) (F : Def K mg "_law_is_fraction" s_is_fraction f fd) (b : Binds K fd ["_law_found"] []) : Cal P w K mg base 2 "_law_is_fraction" spIsFr [] := by
  refine cal0 (k := 1) F b .nil sc_is_fraction (fun vs H Q E h => ?_) (fun cdv A outer s H vs Q E hr h => ?_)
  · obtain ⟨a, t, b, rfl, _⟩ := h
    rfl
  · obtain ⟨a, t, b, rfl, ha, hb, hg, q⟩ := h
    refine ⟨_, (pss_cons (ps_if (PW.pt (pw_or (pt_not (pt_val (pe_callB (k_isi K rfl) (by rfl) T.isinstance bb_isinstance (pa_cons (pv 0) (pa_cons (pe_bltn (v := .ty "tuple") (by rfl) T.tuple bb_tuple rfl) pa_nil))))) (pw_or (pt_cmpR op_ne (pe_callB (k_len K rfl) (by rfl) T.len bb_len (pa_cons (pv 0) pa_nil)) pe_int (nomark _)) (pw_or (pt_not (pt_val (pe_c c_whole hr (by decide) (by rfl) (pa_cons (pe_ix (k_ixT K rfl) (pv 0) pe_int (fun _ _ => rfl)) pa_nil)))) (pw_or1 (pt_not (pt_val (pe_c c_whole hr (by decide) (by rfl) (pa_cons (pe_ix (k_ixT K rfl) (pv 0) pe_int (fun _ _ => rfl)) pa_nil))))))))) (pss_one (ps_ret pe_bl)) pss_nil)
      (pss_one (ps_ret (pe_and (pe_cmpR op_gt (pe_ix (k_ixT K rfl) (pv 0) pe_int (fun _ _ => rfl)) pe_int (nomark _)) (pe_one (pe_cmpR op_eq (pe_c c_divisor hr (by decide) (by rfl) (pa_cons (pe_ix (k_ixT K rfl) (pv 0) pe_int (fun _ _ => rfl)) (pa_cons (pe_ix (k_ixT K rfl) (pv 0) pe_int (fun _ _ => rfl)) pa_nil))) pe_int (nomark _))))))), ?_⟩
    refine ⟨_, rfl, .ref a, .ty "tuple", _, _, true, rfl, .ty _, .base (.tup ha), kit_ty (by decide +kernel), true, rfl, iteF ?_⟩
    refine ⟨_, rfl, a, _, rfl, .inr (SqT.of ha), rfl, _, rfl, iteF ?_⟩
    refine ⟨_, rfl, a, _, 0, _, rfl, rfl, SqT.of ha, rfl, _, "int", true, false, rfl, .base (.int _), by decide +kernel, by decide +kernel, true, rfl, iteF ?_⟩
    refine ⟨_, rfl, a, _, 1, _, rfl, rfl, SqT.of ha, rfl, _, "int", true, false, rfl, .base (.int _), by decide +kernel, by decide +kernel, true, rfl, iteF ?_⟩
    refine ⟨_, rfl, a, _, 1, _, rfl, rfl, SqT.of ha, rfl, _, _, rfl, rfl, _, rfl, ?_⟩
    rw [decide_eq_true hb]
    refine iteT ⟨_, rfl, a, _, 0, _, rfl, rfl, SqT.of ha, rfl, _, rfl, a, _, 1, _, rfl, rfl, SqT.of ha, rfl, t, b, rfl, rfl, ?_⟩
    rw [hg]
    exact q
/-! ### price_of -/
/-- a row: its numbers' tuple, its bottom -/
def Row (H : Hp) (v : V) (ns : List Int) (b : Int) : Prop := ∃ p q, v = .ref p ∧ H p = some (.tup [.ref q, .int b]) ∧ H q = some (.tup (ns.map V.int))
theorem Row.of {H H' : Hp} {v : V} {ns : List Int} {b : Int} (r : Row H v ns b) (e : ∀ a xs, H a = some (.tup xs) → H' a = some (.tup xs)) : Row H' v ns b := let ⟨p, q, h1, h2, h3⟩ := r; ⟨p, q, h1, e _ _ h2, e _ _ h3⟩
def spPriceOf : Sp := fun vs H Q _ => ∃ v ns b, ∃ m : Nat, vs = [v, .int (m : Int)] ∧ Row H v ns b ∧ ns.length ≤ 1000 ∧ b ≠ 0 ∧ B 4000 b ∧ ∀ H' p t c, Same H H' → Fr H' p t c → Low (sumB ns m) b t c → Q (.ref p) H'
abbrev s_price_of : Stmt := topS 7
theorem sc_price_of : FnScope ["row", "members", "numbers", "bottom"] ["row", "members"] (fnScope s_price_of) := ⟨rfl, rfl, rfl, by decide +kernel, rfl, by decide +kernel, by decide +kernel⟩
theorem c_price_of (c_sum_over : Cal P w K mg base 2 "sum_over" (spSumOver K) []) (c_lowest_terms : Cal P w K mg base 2 "lowest_terms" spLow []) (F : Def K mg "price_of" s_price_of f fd) (b : Binds K fd ["row", "members"] []) : Cal P w K mg base 3 "price_of" spPriceOf [] := by
  refine cal0 (k := 2) F b .nil sc_price_of (fun vs H Q E h => ?_) (fun cdv A outer s H vs Q E hr h => ?_)
  · obtain ⟨v, ns, b, m, rfl, _⟩ := h
    rfl
  · obtain ⟨v, ns, b, m, rfl, ⟨p, q1, rfl, h1, h2⟩, hl, hb, hB, q⟩ := h
    refine ⟨_, (pss_cons (ps_asg (pv 0) (pg_tup rfl (pgs_cons (pg_name (i := 2) sc_price_of.nd rfl (Or.inl rfl)) (pgs_cons (pg_name (i := 3) sc_price_of.nd rfl (Or.inl rfl)) pgs_nil))))
      (pss_one (ps_ret (pe_c c_lowest_terms hr (by decide) (by rfl) (pa_cons (pe_c c_sum_over hr (by decide) (by rfl) (pa_cons (pv 2) (pa_cons (pv 1) pa_nil))) (pa_cons (pv 3) pa_nil)))))), ?_⟩
    refine ⟨_, rfl, p, _, rfl, SqT.of h1, rfl, _, _, rfl, _, _, rfl, rfl, ?_⟩
    refine ⟨_, rfl, _, rfl, q1, ns, m, rfl, SqT.of h2, hl, fun H2 s2 => ?_⟩
    exact ⟨_, rfl, _, _, rfl, hb, hB, fun H3 p3 t c s3 f3 h3 low => q H3 p3 t c (s2.trans s3) h3 low⟩
/-! ### _law_lowest (numbers in a list) -/
def spLowest (K : PySem.W.Frag) : Sp := fun vs H Q _ => ∃ (a : Addr) (ns : List Int) (b : Int), vs = [.ref a, .int b] ∧ SqL K H a (ns.map V.int) ∧ ns.length ≤ 20 ∧ 1 ≤ b ∧ b ≤ 1000000 ∧
  ∀ H' v ms c, Same H H' → Row H' v ms c → ms.length = ns.length → 1 ≤ c → c ≤ 1000000 → (∀ M : Nat, (∀ x ∈ ns, x.natAbs ≤ M) → ∀ x ∈ ms, x.natAbs ≤ M) → Q v H'
theorem div_natAbs {x g : Int} (h : 1 ≤ g) {M : Nat} (hx : x.natAbs ≤ M) : (x / g).natAbs ≤ M := by
  have h1 := Int.natAbs_ediv_le_natAbs x g
  omega
abbrev s_lowest : Stmt := topS 14
theorem sc_lowest : FnScope ["_law_numbers", "_law_bottom", "_law_shared", "_law_number"] ["_law_numbers", "_law_bottom"] (fnScope s_lowest) := ⟨rfl, rfl, rfl, by decide +kernel, rfl, by decide +kernel, by decide +kernel⟩
theorem c_lowest (T : Mb mg) (c_divisor : Cal P w K mg base 1 "_law_divisor" spGcd []) (F : Def K mg "_law_lowest" s_lowest f fd) (b : Binds K fd ["_law_numbers", "_law_bottom"] []) : Cal P w K mg base 2 "_law_lowest" (spLowest K) [] := by
  refine cal0 (k := 1) F b .nil sc_lowest (fun vs H Q E h => ?_) (fun cdv A outer s H vs Q E hr h => ?_)
  · obtain ⟨a, ns, b, rfl, _⟩ := h
    rfl
  · obtain ⟨a, ns, b, rfl, hS, hl, hb1, hb2, q⟩ := h
    refine ⟨_, (pss_cons (ps_set (i := 2) sc_lowest.nd rfl (Or.inr rfl) (pv 1))
      (pss_cons (ps_for PassesOwn.never rfl (pi_list (pv 0)) (pg_name (i := 3) sc_lowest.nd rfl (Or.inl rfl)) (pss_one (ps_set (i := 2) sc_lowest.nd rfl (Or.inr rfl) (pe_c c_divisor hr (by decide) (by rfl) (pa_cons (pv 2) (pa_cons (pv 3) pa_nil))))))
      (pss_one (ps_ret (pe_tup (pa_cons (pe_callTy (k_tuple K rfl) (by rfl) T.tuple bb_tuple (pa_cons (pe_lc (own := [("_law_number", 3)]) (g := gName 3) (tt := tYes) rfl sc_lowest.nd (pi_list (pv 0)) (blkOk_by (own := [("_law_number", 3)]) (N := ["_law_numbers", "_law_bottom", "_law_shared", "_law_number"]) (sc := fnScope s_lowest) (by decide +kernel)) (fun _ _ _ _ _ => (pg_name (i := 3) sc_lowest.nd rfl (Or.inl rfl))) (fun _ _ _ _ _ => pts_nil) (fun _ _ _ _ _ => (pe_op op_fdivW (pv 3) (pv 2)))) pa_nil)) (pa_cons (pe_op op_fdivW (pv 1) (pv 2)) pa_nil))))))), ?_⟩
    refine ⟨_, rfl, ?_⟩
    refine ⟨_, rfl, a, rfl, ⟨_, hS⟩, for_list (xs := ns.map V.int) (fun i σ H' => ∃ (g : Int) (y : Option V), σ = [some (.ref a), some (.int b), some (.int g), y] ∧ 1 ≤ g ∧ g ≤ b ∧ H' = H) ⟨b, none, rfl, hb1, Int.le_refl _, rfl⟩ (fun i σ H' _ h => ?_) (fun i x σ H' hx h => ?_) (fun σ H' h => ?_)⟩
    · obtain ⟨g, y, rfl, _, _, rfl⟩ := h
      exact hS
    · obtain ⟨g, y, rfl, g1, g2, rfl⟩ := h
      obtain ⟨z, rfl⟩ : ∃ z, x = V.int z := by
        rw [List.getElem?_map] at hx
        cases hz : ns[i]? with
        | none => rw [hz] at hx; cases hx
        | some z => rw [hz] at hx; exact ⟨z, (Option.some.inj hx).symm⟩
      have k0 : 0 < Int.gcd g z := Int.gcd_pos_of_ne_zero_left z (by omega)
      have k1 : ((Int.gcd g z : Nat) : Int) ≤ g := Int.le_of_dvd (by omega) (Int.gcd_dvd_left g z)
      exact ⟨_, rfl, _, rfl, g, z, rfl, _, _, rfl, by omega, by omega, rfl⟩
    · obtain ⟨g, y, rfl, g1, g2, rfl⟩ := h
      have dv : ∀ i, CDivW i g := fun i => ⟨by omega, Nat.lt_of_lt_of_le (PySem.Flt.log2_lt_of (show 0 < 20 by decide) (show g.natAbs < 2 ^ 20 by omega)) (by decide)⟩
      refine ⟨_, rfl, a, rfl, ⟨_, hS⟩, fun D fD => lc_list (K := K) (a := a) (xs := ns.map V.int) (fun i H2 => Same H' H2 ∧ H2 D = some (.lst ((ns.take i).map fun x => V.int (x / g)))) ⟨same_new fD, upd_same⟩ (fun i H2 _ h => h.1.seq hS) (fun i x H2 hx h => ?_) (fun H2 h => ?_)⟩
      · obtain ⟨sm, e1⟩ := h
        rw [List.getElem?_map] at hx
        cases hz : ns[i]? with
        | none => rw [hz] at hx; cases hx
        | some z =>
          rw [hz] at hx
          obtain rfl := Option.some.inj hx
          have hi : i < ns.length := (List.getElem?_eq_some_iff.mp hz).1
          refine ⟨rfl, yes_if ⟨_, rfl, _, rfl, _, _, rfl, rfl, dv _, _, e1, ?_, same_put sm fD, ?_⟩⟩
          · rw [List.length_map, List.length_take]
            exact small1000 (by omega)
          · rw [upd_same, List.take_add_one, hz, List.map_append]
            rfl
      · obtain ⟨sm, e1⟩ := h
        rw [List.length_map, List.take_length] at e1
        have e3 : (ns.map fun x => V.int (x / g)) = (ns.map (· / g)).map V.int := by rw [List.map_map]; rfl
        rw [e3] at e1
        refine ⟨D, _, rfl, .inl ⟨SqL.of e1, fun U fU => ?_⟩⟩
        refine ⟨_, rfl, _, rfl, _, _, rfl, rfl, dv _, by show 2 ≤ sizeLine; decide, fun R fR => ?_⟩
        have cb : 1 ≤ b / g ∧ b / g ≤ b := ⟨Int.le_ediv_of_mul_le (by omega) (by omega), Int.ediv_le_self _ (by omega)⟩
        refine q _ _ (ns.map (· / g)) _ ((sm.trans (same_new fU)).trans (same_new fR)) ⟨R, U, rfl, upd_same, (same_new fR) _ _ upd_same⟩ (by rw [List.length_map]) cb.1 (by omega) fun M hM x hx => ?_
        obtain ⟨z, hz, rfl⟩ := List.mem_map.mp hx
        exact div_natAbs g1 (hM z hz)
/-! ### the rest of k18 -/
def spPrice : Sp := fun vs H Q _ => ∃ v ns b, ∃ m : Nat, vs = [v, .int (m : Int)] ∧ Row H v ns b ∧ ns.length ≤ 10 ∧ m < 2 ^ ns.length ∧ ∀ H', Same H H' → Q (.int (sumB ns m)) H'
abbrev s_price : Stmt := topS 16
theorem sc_price : FnScope ["_law_row", "_law_number", "_law_thing"] ["_law_row", "_law_number"] (fnScope s_price) := ⟨rfl, rfl, rfl, by decide +kernel, rfl, by decide +kernel, by decide +kernel⟩
theorem c_price (T : Mb mg) (c_things : Cal P w K mg base 1 "_law_things" spThings []) (F : Def K mg "_law_price" s_price f fd) (b : Binds K fd ["_law_row", "_law_number"] []) : Cal P w K mg base 2 "_law_price" spPrice [] := by
  refine cal0 (k := 1) F b .nil sc_price (fun vs H Q E h => ?_) (fun cdv A outer s H vs Q E hr h => ?_)
  · obtain ⟨v, ns, b, m, rfl, _⟩ := h
    rfl
  · obtain ⟨v, ns, b, m, rfl, ⟨p, q1, rfl, h1, h2⟩, hl, hm, q⟩ := h
    refine ⟨_, (pss_one (ps_ret (pe_callB (k_sum K rfl rfl) (by rfl) T.sum bb_sum (pa_cons (pe_lc (own := [("_law_thing", 2)]) (g := gName 2) (tt := tYes) rfl sc_price.nd (pi_list (pe_c c_things hr (by decide) (by rfl) (pa_cons (pv 1) pa_nil))) (blkOk_by (own := [("_law_thing", 2)]) (N := ["_law_row", "_law_number", "_law_thing"]) (sc := fnScope s_price) (by decide +kernel)) (fun _ _ _ _ _ => (pg_name (i := 2) sc_price.nd rfl (Or.inl rfl))) (fun _ _ _ _ _ => pts_nil) (fun _ _ _ _ _ => (pe_ix (k_ixT K rfl) (pe_ix (k_ixT K rfl) (pv 0) pe_int (fun _ _ => rfl)) (pv 2) (fun _ _ => rfl)))) pa_nil)))), ?_⟩
    refine ⟨_, rfl, m, rfl, fun l H1 fl s1 hl1 => ?_⟩
    have eb : bits10 m = (List.range ns.length).filter m.testBit := bits10_of hm hl
    refine ⟨l, rfl, ⟨_, SqL.of hl1⟩, fun D fD => lc_list (K := K) (a := l) (xs := (bits10 m).map fun i => V.int (i : Nat)) (fun i H' => Same H1 H' ∧ H' D = some (.lst ((((bits10 m).take i).map fun i => ns.getD i 0).map V.int))) ⟨same_new fD, upd_same⟩ (fun i H' _ h => h.1.seq (SqL.of hl1)) (fun i x H' hx h => ?_) (fun H' h => ?_)⟩
    · obtain ⟨sm, e1⟩ := h
      rw [List.getElem?_map] at hx
      cases hz : (bits10 m)[i]? with
      | none => rw [hz] at hx; cases hx
      | some z =>
        rw [hz] at hx
        obtain rfl := Option.some.inj hx
        have hz2 : z < ns.length := by
          have := List.mem_of_getElem? hz
          rw [eb] at this
          exact List.mem_range.mp (List.mem_filter.mp this).1
        have sm2 := s1.trans sm
        have gz : atI (ns.map V.int) ((z : Nat) : Int) = some (.int (ns.getD z 0)) := atI_nat (by rw [List.getElem?_map, List.getElem?_eq_getElem hz2, List.getD_eq_getElem?_getD, List.getElem?_eq_getElem hz2]; rfl)
        refine ⟨rfl, yes_if ⟨_, rfl, p, _, 0, _, rfl, rfl, SqT.of (sm2 _ _ h1), rfl, _, rfl, q1, _, _, _, rfl, rfl, SqT.of (sm2 _ _ h2), gz, _, e1, ?_, same_put sm fD, ?_⟩⟩
        · rw [List.length_map, List.length_map, List.length_take]
          have hl2 : (bits10 m).length ≤ 10 := Nat.le_trans (List.length_filter_le _ _) (by rw [List.length_range]; exact Nat.le_refl _)
          exact small1000 (by omega)
        · rw [upd_same, List.take_add_one, hz, List.map_append, List.map_append]
          rfl
    · obtain ⟨sm, e1⟩ := h
      rw [List.length_map, List.take_length, eb] at e1
      exact ⟨D, _, rfl, SqL.of e1, q H' (s1.trans sm)⟩
def GoodRow (n : Nat) (H : Hp) (v : V) : Prop := ∃ ns b, Row H v ns b ∧ ns.length = n ∧ 1 ≤ b ∧ b ≤ 1000000 ∧ ∀ x ∈ ns, x.natAbs ≤ 1000000000000000000000
def spDrawn : Sp := fun vs H Q _ => ∃ d, ∃ n : Nat, vs = [.ref d, .int (n : Int)] ∧ Deck H d ∧ n ≤ 10 ∧ ∀ v H', Of d H H' → Deck H' d → GoodRow n H' v → Q v H'
theorem pick3 {a b c : Int} {j : Int} (h0 : 0 ≤ j) (h1 : j < 3) : ∃ x : Int, atI [V.int a, .int b, .int c] j = some (.int x) ∧ (x = a ∨ x = b ∨ x = c) := by
  obtain ⟨n, rfl⟩ := Int.eq_ofNat_of_zero_le h0
  have hn : n < 3 := by omega
  match n, hn with
  | 0, _ => exact ⟨a, rfl, .inl rfl⟩
  | 1, _ => exact ⟨b, rfl, .inr (.inl rfl)⟩
  | 2, _ => exact ⟨c, rfl, .inr (.inr rfl)⟩
theorem pickB {a b : Int} (k : Bool) : ∃ x : Int, atI [V.int a, .int b] (if k then 1 else 0) = some (.int x) ∧ (x = a ∨ x = b) := by
  cases k
  · exact ⟨a, rfl, .inl rfl⟩
  · exact ⟨b, rfl, .inr rfl⟩
theorem pick2 {a b : Int} {j : Int} (h0 : 0 ≤ j) (h1 : j < 2) : ∃ x : Int, atI [V.int a, .int b] j = some (.int x) ∧ (x = a ∨ x = b) := by
  obtain ⟨n, rfl⟩ := Int.eq_ofNat_of_zero_le h0
  have hn : n < 2 := by omega
  match n, hn with
  | 0, _ => exact ⟨a, rfl, .inl rfl⟩
  | 1, _ => exact ⟨b, rfl, .inr rfl⟩
abbrev s_drawn : Stmt := topS 18
theorem sc_drawn : FnScope ["_law_deck_here", "_law_many", "_law_draw", "_law_far", "_law_by", "_law_numbers", "_law_thing"] ["_law_deck_here", "_law_many"] (fnScope s_drawn) := ⟨rfl, rfl, rfl, by decide +kernel, rfl, by decide +kernel, by decide +kernel⟩
theorem c_drawn (T : Mb mg) (c_next : Cal P w K mg base 1 "_law_next" spNext []) (c_lowest : Cal P w K mg base 2 "_law_lowest" (spLowest K) []) (F : Def K mg "_law_drawn" s_drawn f fd) (b : Binds K fd ["_law_deck_here", "_law_many"] []) : Cal P w K mg base 3 "_law_drawn" spDrawn [] := by
  refine cal0 (k := 2) F b .nil sc_drawn (fun vs H Q E h => ?_) (fun cdv A outer s H vs Q E hr h => ?_)
  · obtain ⟨d, n, rfl, _⟩ := h
    rfl
  · obtain ⟨d, n, rfl, hd, hn, q⟩ := h
    refine ⟨_, (pss_cons (ps_set (i := 2) sc_drawn.nd rfl (Or.inl rfl) (pe_c c_next hr (by decide) (by rfl) (pa_cons (pv 0) pa_nil)))
      (pss_cons (ps_set (i := 3) sc_drawn.nd rfl (Or.inr rfl) (pe_ix (k_ixL K rfl) (pe_lst (pa_cons pe_int (pa_cons (pe_op p9 pe_int pe_int) (pa_cons (pe_op p14 pe_int pe_int) pa_nil)))) (pe_op op_mod (pv 2) pe_int) (fun _ _ => rfl)))
      (pss_cons (ps_set (i := 4) sc_drawn.nd rfl (Or.inr rfl) (pe_ix (k_ixL K rfl) (pe_lst (pa_cons pe_int (pa_cons (pe_op p4 pe_int pe_int) pa_nil))) (pe_callTy call_int1 (by rfl) T.int bb_int (pa_cons (pe_cmpR op_eq (pe_op op_mod (pe_op op_fdivW (pv 2) pe_int) pe_int) pe_int (nomark _)) pa_nil)) (fun _ _ => rfl)))
      (pss_cons (ps_setLc (i := 5) (own := [("_law_thing", 6)]) (g := gName 6) (tt := tYes) rfl sc_drawn.nd rfl rfl (sw_true rfl rfl rfl (by decide +kernel)) (pi_range1 (by rfl) T.range (pa_cons (pv 1) pa_nil)) (blkOk_by (own := [("_law_thing", 6)]) (N := ["_law_deck_here", "_law_many", "_law_draw", "_law_far", "_law_by", "_law_numbers", "_law_thing"]) (sc := fnScope s_drawn) (by decide +kernel)) (fun _ _ _ _ _ => (pg_name (i := 6) sc_drawn.nd rfl (Or.inl rfl))) (fun _ _ _ _ _ => pts_nil) (fun _ _ _ _ _ => (pe_op op_mul (pv 4) (pe_op op_sub (pe_op op_mod (pe_c c_next hr (by decide) (by rfl) (pa_cons (pv 0) pa_nil)) (pe_op op_add (pe_op op_mul pe_int (pv 3)) pe_int)) (pv 3)))))
      (pss_one (ps_ret (pe_c c_lowest hr (by decide) (by rfl) (pa_cons (pv 5) (pa_cons (pe_op op_add pe_int (pe_op op_mod (pe_op op_fdivW (pv 2) pe_int) (pe_ix (k_ixL K rfl) (pe_lst (pa_cons pe_int (pa_cons (pe_op p6 pe_int pe_int) pa_nil))) (pe_op op_mod (pe_op op_fdivW (pv 2) pe_int) pe_int) (fun _ _ => rfl)))) pa_nil))))))))), ?_⟩
    refine ⟨_, rfl, d, rfl, hd, fun x H1 x0 x1 o1 d1 => ?_⟩
    -- far
    obtain ⟨far, ef, hf⟩ := pick3 (a := 3) (b := 1000000000) (c := 100000000000000) (Int.emod_nonneg x (show (3 : Int) ≠ 0 by decide)) (Int.emod_lt_of_pos x (show (0 : Int) < 3 by decide))
    refine ⟨rfl, rfl, rfl, rfl, by show 3 ≤ sizeLine; decide, fun p2 f2 => ⟨_, rfl, _, _, rfl, rfl, (by show (0 : Int) < 3; decide), p2, _, _, _, rfl, rfl, SqL.of upd_same, ef, ?_⟩⟩
    -- by
    obtain ⟨by_, eb, hb⟩ := pickB (a := 1) (b := 10000) (decide (V.int (x / 3 % 4) = V.int 1))
    refine ⟨rfl, rfl, by show 2 ≤ sizeLine; decide, fun p3 f3 => ⟨_, rfl, _, _, rfl, rfl, ⟨by decide, by decide⟩, _, _, rfl, rfl, (by show (0 : Int) < 4; decide), rfl, .inr ⟨_, rfl, p3, _, _, _, rfl, rfl, SqL.of upd_same, eb, ?_⟩⟩⟩
    have o3 := o1.trans ((Of.new (d := d) (o := .lst [.int 3, .int 1000000000, .int 100000000000000]) f2).trans (Of.new (d := d) (o := .lst [.int 1, .int 10000]) f3))
    have d3 := (d1.same (same_new (o := .lst [.int 3, .int 1000000000, .int 100000000000000]) f2)).same (same_new (o := .lst [.int 1, .int 10000]) f3)
    generalize upd (upd H1 p2 _) p3 _ = H3 at o3 d3
    have far0 : 3 ≤ far ∧ far ≤ 100000000000000 := by omega
    have by0 : 1 ≤ by_ ∧ by_ ≤ 10000 := by omega
    -- numbers
    refine ⟨_, rfl, (n : Int), rfl, by omega, by omega, fun D fD => lc_range (lo := 0) (n := (n : Int).toNat) (fun i H' => Of d H3 H' ∧ Deck H' d ∧ ∃ ns : List Int, ns.length = i ∧ H' D = some (.lst (ns.map V.int)) ∧ ∀ z ∈ ns, z.natAbs ≤ 1000000000000000000000) ⟨Of.new fD, d3.same (same_new fD), [], rfl, upd_same, fun z hz => by cases hz⟩ (fun i H' hi h => ?_) (fun H' h => ?_)⟩
    · obtain ⟨o4, d4, ns, e1, e2, e3⟩ := h
      have nD : D ≠ d := d3.ne_none fD
      refine ⟨rfl, yes_if ⟨_, rfl, _, rfl, d, rfl, d4, fun y H5 y0 y1 o5 d5 => ?_⟩⟩
      have m0 : 0 < 2 * far + 1 := by omega
      have k0 := Int.emod_nonneg y (show 2 * far + 1 ≠ 0 by omega)
      have k1 := Int.emod_lt_of_pos y m0
      refine ⟨_, rfl, _, _, rfl, rfl, .inl ⟨by decide, by decide⟩, _, _, rfl, rfl, _, _, rfl, rfl, m0, _, rfl, _, _, rfl, rfl, _, _, rfl, rfl, .inl ⟨by omega, by omega⟩, _, o5 _ _ nD e2, ?_, ?_⟩
      · rw [List.length_map]
        exact small1000 (by omega)
      · refine ⟨(o4.trans o5).mut fD, d5.mut nD.symm, ns ++ [by_ * (y % (2 * far + 1) - far)], ?_, ?_, ?_⟩
        · rw [List.length_append, e1]
          rfl
        · rw [upd_same, List.map_append]
          rfl
        · intro z hz
          rcases List.mem_append.mp hz with hz | hz
          · exact e3 z hz
          · rw [List.mem_singleton.mp hz, Int.natAbs_mul]
            exact Nat.le_trans (Nat.mul_le_mul (show by_.natAbs ≤ 10000 by omega) (show (y % (2 * far + 1) - far).natAbs ≤ 100000000000000 by omega)) (by decide)
    · obtain ⟨o4, d4, ns, e1, e2, e3⟩ := h
      rw [Int.toNat_natCast] at e1
      obtain ⟨c, ec, hc⟩ := pick2 (a := 6) (b := 1000000) (Int.emod_nonneg (x / 12000000) (show (2 : Int) ≠ 0 by decide)) (Int.emod_lt_of_pos (x / 12000000) (show (0 : Int) < 2 by decide))
      refine ⟨_, rfl, _, rfl, _, _, rfl, rfl, ⟨by decide, by decide⟩, rfl, rfl, by show 2 ≤ sizeLine; decide, fun p5 f5 => ⟨_, rfl, _, _, rfl, rfl, ⟨by decide, by decide⟩, _, _, rfl, rfl, (by show (0 : Int) < 2; decide), p5, _, _, _, rfl, rfl, SqL.of upd_same, ec, _, _, rfl, rfl, (by show 0 < c; omega), _, _, rfl, rfl, ?_⟩⟩
      have k0 := Int.emod_nonneg (x / 12) (show c ≠ 0 by omega)
      have k1 := Int.emod_lt_of_pos (x / 12) (show 0 < c by omega)
      refine ⟨D, ns, _, rfl, (same_new f5).seq (SqL.of e2), by omega, by omega, by omega, fun H6 v ms c6 s6 r6 l6 c1 c2 hM => ?_⟩
      exact q v H6 ((o3.trans o4).trans ((Of.new f5).trans (Of.same s6))) ((d4.same (same_new f5)).same s6) ⟨ms, c6, r6, by omega, c1, c2, hM _ e3⟩
def spRight : Sp := fun vs H Q _ => ∃ v, ∃ n m : Nat, vs = [v, .int (m : Int)] ∧ GoodRow n H v ∧ n ≤ 10 ∧ m < 2 ^ n ∧ ∀ H', Same H H' → Q (.bl true) H'
abbrev s_right : Stmt := topS 19
theorem sc_right : FnScope ["_law_row", "_law_number", "_law_found"] ["_law_row", "_law_number"] (fnScope s_right) := ⟨rfl, rfl, rfl, by decide +kernel, rfl, by decide +kernel, by decide +kernel⟩
theorem c_right (c_price_of : Cal P w K mg base 3 "price_of" spPriceOf []) (c_is_fraction : Cal P w K mg base 2 "_law_is_fraction" spIsFr []) (c_price : Cal P w K mg base 2 "_law_price" spPrice []) (F : Def K mg "_law_right" s_right f fd) (b : Binds K fd ["_law_row", "_law_number"] []) : Cal P w K mg base 4 "_law_right" spRight [] := by
  refine cal0 (k := 3) F b .nil sc_right (fun vs H Q E h => ?_) (fun cdv A outer s H vs Q E hr h => ?_)
  · obtain ⟨v, n, m, rfl, _⟩ := h
    rfl
  · obtain ⟨v, n, m, rfl, ⟨ns, b, r, hl, b1, b2, hM⟩, hn, hm, q⟩ := h
    refine ⟨_, (pss_cons (ps_set (i := 2) sc_right.nd rfl (Or.inl rfl) (pe_c c_price_of hr (by decide) (by rfl) (pa_cons (pv 0) (pa_cons (pv 1) pa_nil))))
      (pss_one (ps_ret (pe_and (pe_c c_is_fraction hr (by decide) (by rfl) (pa_cons (pv 2) pa_nil)) (pe_one (pe_cmpR op_eq (pe_op op_mulW (pe_ix (k_ixT K rfl) (pv 2) pe_int (fun _ _ => rfl)) (pe_ix (k_ixT K rfl) (pv 0) pe_int (fun _ _ => rfl))) (pe_op op_mulW (pe_c c_price hr (by decide) (by rfl) (pa_cons (pv 0) (pa_cons (pv 1) pa_nil))) (pe_ix (k_ixT K rfl) (pv 2) pe_int (fun _ _ => rfl))) (nomark _))))))), ?_⟩
    have Bb : B 20 b := by
      unfold B
      omega
    refine ⟨_, rfl, _, rfl, v, ns, b, m, rfl, r, by omega, by omega, Bb.mono (by decide), fun H1 p t c s1 h1 low => ?_⟩
    have Bs : B 80 (sumB ns m) := by
      have z := sumB_le (m := m) hM
      have z2 : ns.length * 1000000000000000000000 ≤ 10 * 1000000000000000000000 := Nat.mul_le_mul_right _ (by omega)
      exact Nat.lt_of_le_of_lt (Nat.le_trans z z2) (by decide)
    have r1 : Row H1 v ns b := r.of fun a xs e => s1 _ _ e
    refine ⟨_, rfl, p, t, c, rfl, h1, low.pos, low.cop, true, rfl, iteT ?_⟩
    obtain ⟨pr, pq, rfl, e1, e2⟩ := id r1
    refine ⟨_, rfl, p, _, 0, _, rfl, rfl, SqT.of h1, rfl, _, rfl, pr, _, 1, _, rfl, rfl, SqT.of e1, rfl, _, _, rfl, rfl, (Bs.le low.lt).cm Bb (by decide), _, rfl, _, rfl, _, ns, b, m, rfl, r1, by omega, by rw [hl]; exact hm, fun H2 s2 => ?_⟩
    refine ⟨_, rfl, p, _, 1, _, rfl, rfl, SqT.of (s2 _ _ h1), rfl, _, _, rfl, rfl, Bs.cm (Bb.le low.lb) (by decide), rfl, ?_⟩
    exact dec_yes (Q := Q) (congrArg V.int low.eq) (q H2 (s1.trans s2))
def spLaw (K : PySem.W.Frag) : Sp := fun vs H Q _ => ∃ (a : Addr) (ns : List Int), vs = [.ref a] ∧ SqL K H a (ns.map V.int) ∧ ns.length ≤ 63 ∧ ∀ H', Q (.bl true) H'
theorem GoodRow.of {n : Nat} {H H' : Hp} {v : V} (g : GoodRow n H v) (e : ∀ a xs, H a = some (.tup xs) → H' a = some (.tup xs)) : GoodRow n H' v := let ⟨ns, b, r, z⟩ := g; ⟨ns, b, r.of e, z⟩
abbrev s_law : Stmt := topS 20
theorem sc_law : FnScope ["_law_script", "_law_deck_here", "_law_many", "_law_rows", "_law_some", "_law_number", "_law_row", "_law_turn"] ["_law_script"] (fnScope s_law) := ⟨rfl, rfl, rfl, by decide +kernel, rfl, by decide +kernel, by decide +kernel⟩
theorem c_law (T : Mb mg) (c_deck : Cal P w K mg base 2 "_law_deck" (spDeck K) []) (c_next : Cal P w K mg base 1 "_law_next" spNext []) (c_drawn : Cal P w K mg base 3 "_law_drawn" spDrawn []) (c_right : Cal P w K mg base 4 "_law_right" spRight [])
    (F : C8.Fun K "law" "law" s_law f fd) : FnOk P w K mg base C8.CX0 5 f fd ["_law_script"] (spLaw K) := by
  refine C8.fn0 (k := 4) F sc_law (fun vs H Q E h => ?_) (fun cdv A outer s H vs Q E hr h => ?_)
  · obtain ⟨a, ns, rfl, _⟩ := h
    rfl
  · obtain ⟨a, ns, rfl, hS, hl, q⟩ := h
    refine ⟨_, (pss_cons (ps_set (i := 1) sc_law.nd rfl (Or.inr rfl) (pe_c c_deck hr (by decide) (by rfl) (pa_cons (pv 0) (pa_cons pe_int pa_nil))))
      (pss_cons (ps_set (i := 2) sc_law.nd rfl (Or.inr rfl) (pe_op op_add pe_int (pe_op op_mod (pe_c c_next hr (by decide) (by rfl) (pa_cons (pv 1) pa_nil)) pe_int)))
      (pss_cons (ps_set (i := 3) sc_law.nd rfl (Or.inl rfl) (pe_lst (pa_cons (pe_c c_drawn hr (by decide) (by rfl) (pa_cons (pv 1) (pa_cons (pv 2) pa_nil))) (pa_cons (pe_c c_drawn hr (by decide) (by rfl) (pa_cons (pv 1) (pa_cons (pv 2) pa_nil))) pa_nil))))
      (pss_cons (ps_set (i := 4) sc_law.nd rfl (Or.inl rfl) (pe_op op_cat (pe_lc (own := [("_law_turn", 7)]) (g := gName 7) (tt := tYes) rfl sc_law.nd (pi_range1 (by rfl) T.range (pa_cons pe_int pa_nil)) (blkOk_by (own := [("_law_turn", 7)]) (N := ["_law_script", "_law_deck_here", "_law_many", "_law_rows", "_law_some", "_law_number", "_law_row", "_law_turn"]) (sc := fnScope s_law) (by decide +kernel)) (fun _ _ _ _ _ => (pg_name (i := 7) sc_law.nd rfl (Or.inl rfl))) (fun _ _ _ _ _ => pts_nil) (fun _ _ _ _ _ => (pe_op op_mod (pe_c c_next hr (by decide) (by rfl) (pa_cons (pv 1) pa_nil)) (pe_op op_shl1 pe_int (pv 2))))) (pe_lst (pa_cons pe_int (pa_cons (pe_op op_sub (pe_op op_shl1 pe_int (pv 2)) pe_int) pa_nil)))))
      (pss_cons (ps_for PassesOwn.never rfl (pi_list (pe_op op_cat (pv 4) (pe_slice (k_slL K rfl) (pv 4) po_none (po_some pe_int)))) (pg_name (i := 5) sc_law.nd rfl (Or.inl rfl)) (pss_one (ps_for PassesOwn.never rfl (pi_list (pv 3)) (pg_name (i := 6) sc_law.nd rfl (Or.inl rfl)) (pss_one (ps_if (pt_not (pt_val (pe_c c_right hr (by decide) (by rfl) (pa_cons (pv 6) (pa_cons (pv 5) pa_nil))))) (pss_one (ps_ret pe_bl)) pss_nil)))))
      (pss_one (ps_ret pe_bl))))))), ?_⟩
    refine ⟨_, rfl, a, ns, 120, rfl, hS, hl, by decide, by decide, fun H1 d s1 fd1 d1 => ?_⟩
    refine ⟨_, rfl, d, rfl, d1, fun x H2 x0 x1 o2 d2 => ⟨_, _, rfl, rfl, (by show (0 : Int) < 10; decide), _, _, rfl, rfl, ?_⟩⟩
    have k0 := Int.emod_nonneg x (show (10 : Int) ≠ 0 by decide)
    have k1 := Int.emod_lt_of_pos x (show (0 : Int) < 10 by decide)
    obtain ⟨n, en⟩ : ∃ n : Nat, 1 + x % 10 = (n : Int) := ⟨(1 + x % 10).toNat, by omega⟩
    dsimp only
    rw [en]
    have hn : 1 ≤ n ∧ n ≤ 10 := by omega
    -- rows
    refine ⟨_, rfl, _, rfl, d, n, rfl, d2, hn.2, fun v1 H3 o3 d3 g1 => ?_⟩
    refine ⟨_, rfl, _, rfl, d, n, rfl, d3, hn.2, fun v2 H4 o4 d4 g2 => ⟨by show 2 ≤ sizeLine; decide, fun l fl => ?_⟩⟩
    have nl : l ≠ d := d4.ne_none fl
    have g1' : GoodRow n (upd H4 l (.lst [v1, v2])) v1 := g1.of fun a xs e => (same_new fl) _ _ (d3.tup o4 e)
    have g2' : GoodRow n (upd H4 l (.lst [v1, v2])) v2 := g2.of fun a xs e => (same_new fl) _ _ e
    have d5 : Deck (upd H4 l (.lst [v1, v2])) d := d4.same (same_new fl)
    have hl5 : (upd H4 l (.lst [v1, v2])) l = some (.lst [v1, v2]) := upd_same
    generalize upd H4 l (.lst [v1, v2]) = H5 at g1' g2' d5 hl5
    -- some
    refine ⟨20, rfl, by decide, by decide, fun D fD => lc_range (lo := 0) (n := 20) (fun i H' => Of d H5 H' ∧ Deck H' d ∧ ∃ ms : List Nat, ms.length = i ∧ H' D = some (.lst (ms.map fun k => V.int (k : Nat))) ∧ ∀ k ∈ ms, k < 2 ^ n) ⟨Of.new fD, d5.same (same_new fD), [], rfl, upd_same, fun z hz => by cases hz⟩ (fun i H' hi h => ?_) (fun H' h => ?_)⟩
    · obtain ⟨o6, d6, ms, e1, e2, e3⟩ := h
      have nD : D ≠ d := d5.ne_none fD
      have p2 : (0 : Int) < ((2 ^ n : Nat) : Int) := by
        have := Nat.two_pow_pos n
        omega
      refine ⟨rfl, yes_if ⟨_, rfl, d, rfl, d6, fun y H7 y0 y1 o7 d7 => ⟨_, rfl, n, rfl, rfl, by omega, _, _, rfl, rfl, p2, _, o7 _ _ nD e2, ?_, ?_⟩⟩⟩
      · rw [List.length_map]
        exact small1000 (by omega)
      · obtain ⟨k, ek⟩ := Int.eq_ofNat_of_zero_le (Int.emod_nonneg y (show ((2 ^ n : Nat) : Int) ≠ 0 by omega))
        have k3 := Int.emod_lt_of_pos y p2
        dsimp only
        rw [ek] at k3 ⊢
        refine ⟨(o6.trans o7).mut fD, d7.mut nD.symm, ms ++ [k], ?_, ?_, ?_⟩
        · rw [List.length_append, e1]
          rfl
        · rw [upd_same, List.map_append]
          rfl
        · intro z hz
          rcases List.mem_append.mp hz with hz | hz
          · exact e3 z hz
          · rw [List.mem_singleton.mp hz]
            omega
    · obtain ⟨o6, d6, ms, e1, e2, e3⟩ := h
      have p3 : ((2 ^ n : Nat) : Int) - 1 = ((2 ^ n - 1 : Nat) : Int) := by
        have := Nat.two_pow_pos n
        omega
      refine ⟨_, rfl, n, rfl, rfl, by omega, _, _, rfl, rfl, by show 2 ≤ sizeLine; decide, fun p7 f7 => ?_⟩
      dsimp only
      rw [p3]
      have e7 := (same_new (o := .lst [.int 0, .int ((2 ^ n - 1 : Nat) : Int)]) f7) _ _ e2
      refine ⟨D, p7, _, _, rfl, rfl, e7, upd_same, ?_, fun p8 f8 => ?_⟩
      · rw [List.length_map, e1]
        show 20 + 2 ≤ sizeLine
        decide
      have sm8 : Of d H5 (upd (upd H' p7 (.lst [.int 0, .int ((2 ^ n - 1 : Nat) : Int)])) p8 (.lst ((ms.map fun k => V.int (k : Nat)) ++ [.int 0, .int ((2 ^ n - 1 : Nat) : Int)]))) := o6.trans ((Of.new f7).trans (Of.new f8))
      have e8 : (upd (upd H' p7 (.lst [.int 0, .int ((2 ^ n - 1 : Nat) : Int)])) p8 (.lst ((ms.map fun k => V.int (k : Nat)) ++ [.int 0, .int ((2 ^ n - 1 : Nat) : Int)]))) p8 = some (.lst ((ms ++ [0, 2 ^ n - 1]).map fun k => V.int (k : Nat))) := by
        rw [upd_same, List.map_append]
        rfl
      have e9 : ∀ k ∈ ms ++ [0, 2 ^ n - 1], k < 2 ^ n := by
        intro k hk
        have := Nat.two_pow_pos n
        rcases List.mem_append.mp hk with hk | hk
        · exact e3 k hk
        · simp at hk
          omega
      have l9 : (ms ++ [0, 2 ^ n - 1]).length = 22 := by
        rw [List.length_append, e1]
        rfl
      generalize upd (upd H' p7 _) p8 _ = H8 at sm8 e8
      generalize ms ++ [0, 2 ^ n - 1] = ks at e8 e9 l9
      have g1'' : GoodRow n H8 v1 := g1'.of fun a xs e => d5.tup sm8 e
      have g2'' : GoodRow n H8 v2 := g2'.of fun a xs e => d5.tup sm8 e
      have hl8 : H8 l = some (.lst [v1, v2]) := sm8 l _ nl hl5
      -- the loop over some + some[:3]
      refine ⟨_, rfl, _, rfl, _, rfl, p8, _, rfl, SqL.of e8, fun p9 f9 => ?_⟩
      rw [show cutV (ks.map fun k => V.int (k : Nat)) none (some 3) = (ks.take 3).map fun k => V.int (k : Nat) from cut_ints _ _ 3]
      refine ⟨p8, p9, _, _, rfl, rfl, (same_new f9) _ _ e8, upd_same, ?_, fun p10 f10 => ?_⟩
      · rw [List.length_map, List.length_map, List.length_take, l9]
        decide
      rw [← List.map_append]
      have e11 : ∀ k ∈ ks ++ ks.take 3, k < 2 ^ n := by
        intro k hk
        rcases List.mem_append.mp hk with hk | hk
        · exact e9 k hk
        · exact e9 k (List.mem_of_mem_take hk)
      generalize ks ++ ks.take 3 = js at e11
      have sm10 : Same H8 (upd (upd H8 p9 (.lst ((ks.take 3).map fun k => V.int (k : Nat)))) p10 (.lst (js.map fun k => V.int (k : Nat)))) := (same_new f9).trans (same_new f10)
      have e10 : (upd (upd H8 p9 (.lst ((ks.take 3).map fun k => V.int (k : Nat)))) p10 (.lst (js.map fun k => V.int (k : Nat)))) p10 = some (.lst (js.map fun k => V.int (k : Nat))) := upd_same
      generalize upd (upd H8 p9 (.lst ((ks.take 3).map fun k => V.int (k : Nat)))) p10 (.lst (js.map fun k => V.int (k : Nat))) = H10 at sm10 e10
      refine ⟨p10, rfl, ⟨_, SqL.of e10⟩, for_list (xs := js.map fun k => V.int (k : Nat)) (fun i σ H' => ∃ y5 y6 y7, σ = [some (.ref a), some (.ref d), some (.int (n : Int)), some (.ref l), some (.ref p8), y5, y6, y7] ∧ Same H10 H') ⟨_, _, _, rfl, Same.refl _⟩ (fun i σ H' _ h => ?_) (fun i x σ H' hx h => ?_) (fun σ H' h => ?_)⟩
      · obtain ⟨y5, y6, y7, rfl, sm⟩ := h
        exact SqL.of (sm _ _ e10)
      · obtain ⟨y5, y6, y7, rfl, sm⟩ := h
        rw [List.getElem?_map] at hx
        cases hz : js[i]? with
        | none => rw [hz] at hx; cases hx
        | some k =>
          rw [hz] at hx
          obtain rfl := Option.some.inj hx
          have hk : k < 2 ^ n := e11 k (List.mem_of_getElem? hz)
          have sm2 := sm10.trans sm
          refine ⟨_, rfl, l, rfl, ⟨_, SqL.of (sm2 _ _ hl8)⟩, for_list (xs := [v1, v2]) (fun i σ H2 => ∃ y6 y7, σ = [some (.ref a), some (.ref d), some (.int (n : Int)), some (.ref l), some (.ref p8), some (.int ((k : Nat) : Int)), y6, y7] ∧ Same H8 H2 ∧ Same H10 H2) ⟨_, _, rfl, sm2, sm⟩ (fun j σ H2 _ h => ?_) (fun j z σ H2 hz h => ?_) (fun σ H2 h => ?_)⟩
          · obtain ⟨y6, y7, rfl, sm3, _⟩ := h
            exact SqL.of (sm3 _ _ hl8)
          · obtain ⟨y6, y7, rfl, sm3, sm4⟩ := h
            have gz : GoodRow n H2 z := by
              match j, hz with
              | 0, hz =>
                obtain rfl := Option.some.inj hz
                exact g1''.of fun a xs e => sm3 _ _ e
              | 1, hz =>
                obtain rfl := Option.some.inj hz
                exact g2''.of fun a xs e => sm3 _ _ e
            exact ⟨_, rfl, _, rfl, z, n, k, rfl, gz, hn.2, hk, fun H9 s9 => ⟨true, rfl, iteF ⟨_, _, rfl, sm3.trans s9, sm4.trans s9⟩⟩⟩
          · obtain ⟨y6, y7, rfl, sm3, sm4⟩ := h
            exact ⟨_, _, _, rfl, sm4⟩
      · obtain ⟨y5, y6, y7, rfl, sm⟩ := h
        exact q _
end
theorem all_in {l : PySem.W.OpenLaw} {w : World} {K : PySem.W.Frag} {h : Heap} {mg : Str → Option Value} {fa : Addr} (X : K.In h) (G : h.Ns mainGlobals mg) (hfa : mg "law" = some (.ref fa)) (N : NonIn K)
    (d_common_divisor : DefIn K "common_divisor" s_common_divisor) (d_lowest_terms : DefIn K "lowest_terms" s_lowest_terms) (d_has_thing : DefIn K "has_thing" s_has_thing) (d_things : DefIn K "_law_things" s_things) (d_sum_over : DefIn K "sum_over" s_sum_over) (d_mixed : DefIn K "_law_mixed" s_mixed) (d_next : DefIn K "_law_next" s_next) (d_whole : DefIn K "_law_whole" s_whole) (d_divisor : DefIn K "_law_divisor" s_divisor) (d_deck : DefIn K "_law_deck" s_deck) (d_is_fraction : DefIn K "_law_is_fraction" s_is_fraction) (d_price_of : DefIn K "price_of" s_price_of) (d_lowest : DefIn K "_law_lowest" s_lowest) (d_price : DefIn K "_law_price" s_price) (d_drawn : DefIn K "_law_drawn" s_drawn) (d_right : DefIn K "_law_right" s_right) (d_law : DefIn K "law" s_law) :
    ∃ fd : FuncData, (∀ (s : Shared) (v : Value), BindsTo s fd ⟨[v], []⟩ [("_law_script", v)]) ∧ ∀ base : Heap, K.In base → base.Ns mainGlobals mg → FnOk l.prog w K mg base C8.CX0 5 fa fd ["_law_script"] (spLaw K) := by
  have T := N.mb X G
  obtain ⟨f_common_divisor, g_common_divisor, F_common_divisor, e_common_divisor⟩ := d_common_divisor.get X G
  obtain ⟨f_lowest_terms, g_lowest_terms, F_lowest_terms, e_lowest_terms⟩ := d_lowest_terms.get X G
  obtain ⟨f_has_thing, g_has_thing, F_has_thing, e_has_thing⟩ := d_has_thing.get X G
  obtain ⟨f_things, g_things, F_things, e_things⟩ := d_things.get X G
  obtain ⟨f_sum_over, g_sum_over, F_sum_over, e_sum_over⟩ := d_sum_over.get X G
  obtain ⟨f_mixed, g_mixed, F_mixed, e_mixed⟩ := d_mixed.get X G
  obtain ⟨f_next, g_next, F_next, e_next⟩ := d_next.get X G
  obtain ⟨f_whole, g_whole, F_whole, e_whole⟩ := d_whole.get X G
  obtain ⟨f_divisor, g_divisor, F_divisor, e_divisor⟩ := d_divisor.get X G
  obtain ⟨f_deck, g_deck, F_deck, e_deck⟩ := d_deck.get X G
  obtain ⟨f_is_fraction, g_is_fraction, F_is_fraction, e_is_fraction⟩ := d_is_fraction.get X G
  obtain ⟨f_price_of, g_price_of, F_price_of, e_price_of⟩ := d_price_of.get X G
  obtain ⟨f_lowest, g_lowest, F_lowest, e_lowest⟩ := d_lowest.get X G
  obtain ⟨f_price, g_price, F_price, e_price⟩ := d_price.get X G
  obtain ⟨f_drawn, g_drawn, F_drawn, e_drawn⟩ := d_drawn.get X G
  obtain ⟨f_right, g_right, F_right, e_right⟩ := d_right.get X G
  obtain ⟨f_law, g_law, F_law, e_law⟩ := d_law.get X G
  have ef : f_law = fa := by
    have z := F_law.mgf.symm.trans hfa
    cases z
    rfl
  subst ef
  refine ⟨g_law, fun s v => ?_, fun base _ _ => ?_⟩
  · obtain ⟨oc, od, dV, kV, doc, pm, an, cdv, ct, osl, rfl, lk, hcd⟩ := F_law.fn.ex; obtain rfl : dV = .none := e_law
    exact .of_eq rfl
  · skip
    have c_common_divisor := c_common_divisor (P := l.prog) (w := w) (base := base) T F_common_divisor (F_common_divisor.fn.binds e_common_divisor fun _ _ _ _ _ _ us hl => match us, hl with | [_, _], _ => rfl)
    have c_lowest_terms := c_lowest_terms (P := l.prog) (w := w) (base := base) c_common_divisor F_lowest_terms (F_lowest_terms.fn.binds e_lowest_terms fun _ _ _ _ _ _ us hl => match us, hl with | [_, _], _ => rfl)
    have c_has_thing := c_has_thing (P := l.prog) (w := w) (base := base)  F_has_thing (F_has_thing.fn.binds e_has_thing fun _ _ _ _ _ _ us hl => match us, hl with | [_, _], _ => rfl)
    have c_things := c_things (P := l.prog) (w := w) (base := base) T F_things (F_things.fn.binds e_things fun _ _ _ _ _ _ us hl => match us, hl with | [_], _ => rfl)
    have c_sum_over := c_sum_over (P := l.prog) (w := w) (base := base) T c_has_thing F_sum_over (F_sum_over.fn.binds e_sum_over fun _ _ _ _ _ _ us hl => match us, hl with | [_, _], _ => rfl)
    have c_mixed := c_mixed (P := l.prog) (w := w) (base := base)  F_mixed (F_mixed.fn.binds e_mixed fun _ _ _ _ _ _ us hl => match us, hl with | [_, _], _ => rfl)
    have c_next := c_next (P := l.prog) (w := w) (base := base) T F_next (F_next.fn.binds e_next fun _ _ _ _ _ _ us hl => match us, hl with | [_], _ => rfl)
    have c_whole := c_whole (P := l.prog) (w := w) (base := base) T F_whole (F_whole.fn.binds e_whole fun _ _ _ _ _ _ us hl => match us, hl with | [_], _ => rfl)
    have c_divisor := c_divisor (P := l.prog) (w := w) (base := base) T F_divisor (F_divisor.fn.binds e_divisor fun _ _ _ _ _ _ us hl => match us, hl with | [_, _], _ => rfl)
    have c_deck := c_deck (P := l.prog) (w := w) (base := base) T c_mixed F_deck (F_deck.fn.binds e_deck fun _ _ _ _ _ _ us hl => match us, hl with | [_, _], _ => rfl)
    have c_is_fraction := c_is_fraction (P := l.prog) (w := w) (base := base) T c_whole c_divisor F_is_fraction (F_is_fraction.fn.binds e_is_fraction fun _ _ _ _ _ _ us hl => match us, hl with | [_], _ => rfl)
    have c_price_of := c_price_of (P := l.prog) (w := w) (base := base) c_sum_over c_lowest_terms F_price_of (F_price_of.fn.binds e_price_of fun _ _ _ _ _ _ us hl => match us, hl with | [_, _], _ => rfl)
    have c_lowest := c_lowest (P := l.prog) (w := w) (base := base) T c_divisor F_lowest (F_lowest.fn.binds e_lowest fun _ _ _ _ _ _ us hl => match us, hl with | [_, _], _ => rfl)
    have c_price := c_price (P := l.prog) (w := w) (base := base) T c_things F_price (F_price.fn.binds e_price fun _ _ _ _ _ _ us hl => match us, hl with | [_, _], _ => rfl)
    have c_drawn := c_drawn (P := l.prog) (w := w) (base := base) T c_next c_lowest F_drawn (F_drawn.fn.binds e_drawn fun _ _ _ _ _ _ us hl => match us, hl with | [_, _], _ => rfl)
    have c_right := c_right (P := l.prog) (w := w) (base := base) c_price_of c_is_fraction c_price F_right (F_right.fn.binds e_right fun _ _ _ _ _ _ us hl => match us, hl with | [_, _], _ => rfl)
    exact c_law T c_deck c_next c_drawn c_right F_law.fn
end Z
open PySem PySem.W PyProof.Rows
set_option maxHeartbeats 0 in
theorem PySem.Challenge.cw_fallgain_k18_prices_holds : PySem.Challenge.rw_fallgain_k18_prices.Holds := by
  w_on; o_law; k_head; (case hw => w_witness2)
  k_fill
  refine L2.walk_of (l := PySem.Challenge.rw_fallgain_k18_prices) (n := 63) (k := 5) (x := "_law_script") (CX := fun _ => C8.CX0) (sp := fun w => Z.spLaw _) rfl (by decide) rfl ⟨rfl, by decide, by decide⟩ (fun w h Y => PySem.W.kIn_of Y) ?F (fun _ _ a ns hl _ hS => ⟨a, ns, rfl, hS, hl, fun _ => rfl⟩) (fun _ _ _ _ _ h => h)
  case F =>
    intro w mg fa h KX G hmg
    refine' Z.all_in KX G hmg ?n ?d0 ?d1 ?d2 ?d3 ?d4 ?d5 ?d6 ?d7 ?d8 ?d9 ?d10 ?d11 ?d12 ?d13 ?d14 ?d15 ?d16
    case n => intro x hx; simp only [List.mem_cons, List.not_mem_nil, or_false] at hx; (rcases hx with rfl | rfl | rfl | rfl | rfl | rfl | rfl | rfl | rfl | rfl | rfl | rfl | rfl | rfl | rfl | rfl | rfl | rfl) <;> k_is
    all_goals (refine' Z.din ?a ?l ?c ?k; (case a => k_is); (case l => k_is); (case c => k_is); (case k => k_is))
