import PyProof.Rows.All
import Wide.All
import OpenK.AllK
import Wide.FinOn
import KE.KStateDown
import HandS.ForMost
import HandS.More
import HandS.WordsExc
import HandS.Defaults
import HandS.MakeKw
import HandS.MakeKwOnly
import HandS.Wide
import HandS.IsInst
import HandS.Flow
import HandS.Style
import HandS.OwnEq
import HandS.Head0
import HandS.Head1
import HandS.Head2
import HandS.HeadEnd
import HandS.HeadHook1
import HandS.HeadHook2
import HandS.ExcIs
import HandS.ExcOwn
import HandS.TryOnly
import HandS.ExcBuiltin
import HandS.FStr
import HandS.Text
import HandS.Codes
import HandS.StrMore
import HandS.Walk
import HandS.Zip
import HandS.Conv
import HandS.Iter
import KE.GoesEnum
import KE.DataMinMax
import HandS.SortKw
import HandS.TupAny
import HandS.FStrTup
import HandS.Deep
import HandS.SetFor
import HandS.Strs
import PyProof.ReprHeadsTuple
import PyProof.ReprNest
import KE.KFmtOwn
import HandS.RevRange
import HandS.ExcInit
import HandS.Nested
import KE.KExcSuper
import HandS.ExcField
import HandS.ExcValue
import PyProof.RowDictHeap
import HandS.TupLe
import HandS.RaiseMore
import PySem.Challenge.RW_sizeladders_k74_whole_errors_by_hand
set_option Elab.async false
set_option linter.all false
set_option maxRecDepth 100000
set_option maxHeartbeats 4000000
namespace My
open PySem PySem.Spec PyProof.Rows L2
/-! ### operators of great numbers -/
section
variable {X : Cx}
theorem op_fd : OpR X (binaryOp .FloorDiv) (rI (fun _ j => j ≠ 0 ∧ j.natAbs.log2 < 9000) fun i j => .int (i.fdiv j)) :=
  opI fun _ _ _ _ _ _ _ hc q => floordiv_int hc.1 q (.inl (PyProof.noPylong_of_log2 hc.2))
theorem op_mulA : OpR X (binaryOp .Mult) (rI (fun i j => CMul i j ∨ CMulW i j) fun i j => .int (i * j)) :=
  opI fun _ _ _ _ _ _ _ hc q => mul_int q (hc.elim (fun h => h.ok) (fun h => h.ok))
/-! ### cuts: what is wanted behind a piece, said by a word of one's own -/
def tCutS (t : TS) : TS := fun D σ H => ∃ J : L2.St → Hp → Prop, t { D with nx := J } σ H ∧ ∀ σ' H', J σ' H' → D.nx σ' H'
theorem ps_cut {st : Stmt} {t : TS} (h : PS X st t) : PS X st (tCutS t) := by
  refine ⟨fun pins s σ H D I hw => ?_⟩
  obtain ⟨J, h1, h2⟩ := hw
  refine thn (h.run pins s σ H _ I h1) fun f s' q => ?_
  cases f with
  | next => obtain ⟨σ', H', I', q'⟩ := q; exact ⟨σ', H', I', h2 _ _ q'⟩
  | brk => exact q
  | cont => exact q
  | ret u => exact q
def tCutE (t : TE) : TE := fun σ H Q => ∃ J : V → Hp → Prop, t σ H J ∧ ∀ v H', J v H' → Q v H'
theorem pe_cut {e : Expr} {t : TE} (h : PE X e t) : PE X e (tCutE t) := by
  refine ⟨fun pins s σ H Q I hw => ?_⟩
  obtain ⟨J, h1, h2⟩ := hw
  exact thn (h.run pins s σ H _ I h1) fun u s' ⟨v, H', I', r, q'⟩ => ⟨v, H', I', r, h2 _ _ q'⟩
/-! ### calls by keywords -/
variable {CX : CXT} {k n : Nat} {f C : Addr} {fd : FuncData} {ps ks : List Str} {sp : Sp} {E : XK} {x m : Str} {p pos apos : Pos} {o e : Expr} {es : List Expr} {kws : List Keyword} {ta : TE} {t tk : TA} {g : List Value → List Value → List Value} {gV : List V → List V → List V}
end
/-! ### heaps -/
theorem up1 {H : Hp} {p x : Addr} {o u : HO} (hp : H p = none) (hx : H x = some o) : upd H p u x = some o := by
  rw [upd_ne (ne_of_none hx hp)]; exact hx
theorem same1 {H : Hp} {p : Addr} {u : HO} (hp : H p = none) : Same H (upd H p u) := fun _ _ e => up1 hp e
theorem _root_.L2.Same.sqt {K : PySem.W.Frag} {H H' : Hp} {a : Addr} {xs : List V} (e : Same H H') (h : SqT K H a xs) : SqT K H' a xs := by
  rcases h with (h | ⟨o, h⟩) | h
  · exact .inl (.inl (e _ _ h))
  · exact .inl (.inr ⟨o, e _ _ h⟩)
  · exact .inr h
/-- all stays but what stands at h -/
def Kp (h : Addr) (H H' : Hp) : Prop := ∀ b o, H b = some o → b ≠ h → H' b = some o
theorem Kp.refl (h : Addr) (H : Hp) : Kp h H H := fun _ _ e _ => e
theorem Kp.trans {h : Addr} {H H1 H2 : Hp} (a : Kp h H H1) (b : Kp h H1 H2) : Kp h H H2 := fun c o e n => b c o (a c o e n) n
theorem Kp.same {h : Addr} {H H1 : Hp} (a : Same H H1) : Kp h H H1 := fun c o e _ => a c o e
theorem Kp.up {h p : Addr} {H H1 : Hp} {u : HO} (a : Kp h H H1) (hp : H1 p = none) : Kp h H (upd H1 p u) := fun c o e n => up1 hp (a c o e n)
theorem Kp.set {h : Addr} {H H1 : Hp} {u : HO} (a : Kp h H H1) : Kp h H (upd H1 h u) := fun c o e n => by
  rw [upd_ne n]; exact a c o e n
/-- a list other than that at h, the script among them -/
theorem Kp.seq {K : PySem.W.Frag} {h a : Addr} {H H1 : Hp} {xs : List V} (k : Kp h H H1) (n : a ≠ h) (s : SqL K H a xs) : SqL K H1 a xs := by
  rcases s with (s | ⟨o, s⟩) | s
  · exact .inl (.inl (k _ _ s n))
  · exact .inl (.inr ⟨o, k _ _ s n⟩)
  · exact .inr s
/-! ### the hand: a list of three ints, drawn from -/
def HandAt (H : Hp) (h : Addr) (n : Nat) : Prop := ∃ a b c : Int, H h = some (.lst [.int a, .int b, .int c]) ∧ 0 ≤ a ∧ 0 ≤ b ∧ b < 4611686018427387904 ∧ 0 ≤ c ∧ c ≤ n
theorem HandAt.mono {H : Hp} {h : Addr} {n m : Nat} (a : HandAt H h n) (l : n ≤ m) : HandAt H h m := by
  obtain ⟨x, y, z, h1, h2, h3, h4, h5, h6⟩ := a
  exact ⟨x, y, z, h1, h2, h3, h4, h5, by omega⟩
theorem HandAt.same {H H' : Hp} {h : Addr} {n : Nat} (a : HandAt H h n) (s : Same H H') : HandAt H' h n := by
  obtain ⟨x, y, z, h1, h2⟩ := a
  exact ⟨x, y, z, s _ _ h1, h2⟩
theorem HandAt.up {H : Hp} {h p : Addr} {u : HO} {n : Nat} (a : HandAt H h n) (hp : H p = none) : HandAt (upd H p u) h n := a.same (same1 hp)
theorem HandAt.ne {H : Hp} {h p : Addr} {n : Nat} (a : HandAt H h n) (hp : H p = none) : p ≠ h := by
  obtain ⟨x, y, z, h1, _⟩ := a
  exact (ne_of_none h1 hp).symm
def notHand : HO → Bool
  | .lst _ => false
  | _ => true
theorem HandAt.apart {H : Hp} {h p : Addr} {o : HO} {n : Nat} (a : HandAt H h n) (hp : H p = some o) (ho : notHand o = true) : p ≠ h := by
  obtain ⟨x, y, z, h1, _⟩ := a
  exact ne_of hp h1 (by intro e; rw [e] at ho; cases ho)
def sp_take : Sp := fun vs H Q _ => ∃ (h : Addr) (n : Nat) (m : Int), vs = [.ref h, .int m] ∧ HandAt H h n ∧ n < 1000000 ∧ 0 < m ∧ m.natAbs.log2 < 9000 ∧
  ∀ (d : Int) (H' : Hp), 0 ≤ d → d < m → HandAt H' h (n + 1) → Kp h H H' → Q (.int d) H'
def sp_hand (K : PySem.W.Frag) : Sp := fun vs H Q _ => ∃ (a : Addr) (ns : List Int) (k : Nat), vs = [.ref a, .int k] ∧ SqL K H a (ns.map V.int) ∧ k ≤ 1000 ∧
  ∀ (p : Addr) (H' : Hp), H p = none → Same H H' → HandAt H' p 0 → Q (.ref p) H'
/-! ### numbers -/
abbrev Sz (k : Nat) (z : Int) : Prop := z.natAbs < 2 ^ k
theorem Sz.mono {a b : Nat} {z : Int} (h : Sz a z) (l : a ≤ b) : Sz b z := Nat.lt_of_lt_of_le h (Nat.pow_le_pow_right (by decide) l)
theorem Sz.mul {a b : Nat} {x y : Int} (h : Sz a x) (g : Sz b y) : Sz (a + b) (x * y) := wide_lt h g
theorem Sz.add {a : Nat} {x y : Int} (h : Sz a x) (g : Sz a y) : Sz (a + 1) (x + y) := by
  show (x + y).natAbs < 2 ^ (a + 1)
  have h1 : x.natAbs < 2 ^ a := h
  have h2 : y.natAbs < 2 ^ a := g
  rw [Nat.pow_succ]; omega
theorem Sz.sub {a : Nat} {x y : Int} (h : Sz a x) (g : Sz a y) : Sz (a + 1) (x - y) := by
  show (x - y).natAbs < 2 ^ (a + 1)
  have h1 : x.natAbs < 2 ^ a := h
  have h2 : y.natAbs < 2 ^ a := g
  rw [Nat.pow_succ]; omega
theorem Sz.le {a : Nat} {x y : Int} (h : Sz a x) (l : y.natAbs ≤ x.natAbs) : Sz a y := Nat.lt_of_le_of_lt l h
/-- t / u is a / b in lowest terms -/
structure Fr (t u a b : Int) : Prop where
  pos : 0 < u
  eq : t * b = a * u
  co : Int.gcd t u = 1
  lt : t.natAbs ≤ a.natAbs
  lu : u.natAbs ≤ b.natAbs
def sgn (b : Int) : Int := if 0 < b then 1 else -1
/-! ### a Measure -/
def mf (t u : Int) : List (Str × V) := [("top", .int t), ("bottom", .int u)]
theorem ne_tb : ¬ (("top" : Str) = "bottom") := by decide +kernel
theorem mf_put (t u : Int) : putF "bottom" (.int u) (putF "top" (.int t) []) = mf t u := by
  show (if ("top" : Str) = "bottom" then [(("top" : Str), V.int u)] else (("top" : Str), V.int t) :: putF "bottom" (V.int u) []) = mf t u
  rw [if_neg ne_tb] <;> rfl
theorem mf_top (t u : Int) : (mf t u).lookup ("top" : Str) = some (.int t) := by
  rw [← mf_put, lookup_putF, if_neg ne_tb, lookup_putF, if_pos rfl]
theorem mf_bottom (t u : Int) : (mf t u).lookup ("bottom" : Str) = some (.int u) := by
  rw [← mf_put, lookup_putF, if_pos rfl]
theorem mf_no (t u : Int) {m : Str} (h1 : ¬ m = "top") (h2 : ¬ m = "bottom") : (mf t u).lookup m = none := by
  rw [← mf_put, lookup_putF, if_neg h2, lookup_putF, if_neg h1] <;> rfl
def MAt (C : Addr) (H : Hp) (p : Addr) (t u : Int) : Prop := ∃ dx, H p = some (.ins C dx (mf t u))
theorem MAt.same {C p : Addr} {H H' : Hp} {t u : Int} (m : MAt C H p t u) (s : Same H H') : MAt C H' p t u := by
  obtain ⟨dx, h⟩ := m; exact ⟨dx, s _ _ h⟩
theorem MAt.kp {C p h : Addr} {H H' : Hp} {t u : Int} {n : Nat} (m : MAt C H p t u) (hh : HandAt H h n) (s : Kp h H H') : MAt C H' p t u := by
  obtain ⟨dx, e⟩ := m; exact ⟨dx, s _ _ e (hh.apart e rfl)⟩
def sp_minit (C : Addr) : Sp := fun vs H Q _ => ∃ (p dx : Addr) (a b : Int), vs = [.ref p, .int a, .int b] ∧ H p = some (.ins C dx []) ∧ b ≠ 0 ∧ b.natAbs.log2 < 9000 ∧
  ∀ (t u : Int) (H' : Hp), Fr t u a b → H' p = some (.ins C dx (mf t u)) → (∀ c o, H c = some o → c ≠ p → H' c = some o) → Q .non H'
theorem made {C : Addr} {H : Hp} {Q : VK} {E : XK} {a b : Int} (hb : b ≠ 0) (hl : b.natAbs.log2 < 9000) (k : ∀ (p : Addr) (t u : Int) (H' : Hp), H p = none → Same H H' → MAt C H' p t u → Fr t u a b → Q (.ref p) H') :
    ∀ x dx, H x = none → H dx = none → dx ≠ x → sp_minit C [.ref x, .int a, .int b] (upd (upd H dx (.own x)) x (.ins C dx [])) (fun v H2 => v = .non ∧ Q (.ref x) H2) E := by
  intro x dx nx nd ne
  refine ⟨x, dx, a, b, rfl, upd_same, hb, hl, fun t u H' fr hx kp => ⟨rfl, ?_⟩⟩
  refine k x t u H' nx (fun c o e => ?_) ⟨dx, hx⟩ fr
  have n1 : c ≠ x := ne_of_none e nx
  refine kp c o ?_ n1
  rw [upd_ne n1]
  exact up1 nd e
def lessA (t u t' u' : Int) (al : Bool) : Bool := decide (t * u' < t' * u) || (al && decide (t * u' = t' * u))
def sp_below (C : Addr) : Sp := fun vs H Q _ => ∃ (p q : Addr) (t u t' u' : Int) (al : Bool), vs = [.ref p, .ref q, .bl al] ∧ MAt C H p t u ∧ MAt C H q t' u' ∧ Sz 9000 t ∧ Sz 9000 u ∧ Sz 9000 t' ∧ Sz 9000 u' ∧ Q (.bl (lessA t u t' u' al)) H
/-- a comprehension over a list whose elements are reckoned without a change of what stands -/
theorem lcs {K : PySem.W.Frag} {a : Addr} {xs : List V} {g : TG} {tt : TT} {te : TE} {vs : List Nat} {σ : L2.St} {H1 : Hp} {D : Addr} {Qd : Hp → Prop} (ys : List V) (hlen : ys.length = xs.length) (hz : ys.length < sizeLine) (hS : SqL K H1 a xs) (hD : H1 D = none)
    (hs : ∀ (i : Nat) (x y : V) (H : Hp) (N : VK) (M : Hp → Prop), xs[i]? = some x → ys[i]? = some y → Same H1 H → (∀ H4, Same H H4 → N y H4) → g x (wipe σ vs) H fun σ2 H2 => wipe σ2 vs = wipe σ vs ∧ tt σ2 H2 fun b H3 => if b = true then te σ2 H3 N else M H3)
    (hd : ∀ H, Same H1 H → H D = some (.lst ys) → Qd H) :
    ∃ W : Nat → Nat → Hp → Prop, (∃ m, W 0 m (upd H1 D (.lst []))) ∧ ∀ i m H, W i m H →
      ((Itl K a).stop i H ∧ Qd H) ∨ ((Itl K a).go i H ∧ ∃ Nx : Hp → Prop, (∀ H', Nx H' → ∃ m', m' < m ∧ W (i + 1) m' H') ∧ ∀ x H', (Itl K a).yld i H x H' → g x (wipe σ vs) H' fun σ2 H2 => wipe σ2 vs = wipe σ vs ∧ tt σ2 H2 fun b H3 =>
        if b = true then te σ2 H3 fun y H4 => ∃ acc, H4 D = some (.lst acc) ∧ acc.length < sizeLine ∧ Nx (upd H4 D (.lst (acc ++ [y]))) else Nx H3) := by
  refine lc_list (fun i H => Same H1 H ∧ H D = some (.lst (ys.take i))) ⟨same1 hD, upd_same⟩ (fun i H _ p => p.1.seq hS) (fun i x H hx p => ?_) (fun H p => hd H p.1 ?_)
  · have hi : i < ys.length := by rw [hlen]; exact (List.getElem?_eq_some_iff.mp hx).1
    refine hs i x ys[i] H _ _ hx (List.getElem?_eq_getElem hi) p.1 fun H4 s4 => ⟨_, s4 _ _ p.2, ?_, ?_, ?_⟩
    · rw [List.length_take]; omega
    · intro c o e
      rw [upd_ne (ne_of_none e hD)]
      exact s4 _ _ (p.1 _ _ e)
    · rw [upd_same, List.take_add_one, List.getElem?_eq_getElem hi]
      rfl
  · have e := p.2
    rw [← hlen, List.take_length] at e
    exact e
theorem Kp.get {h q : Addr} {H H' : Hp} {o : HO} {n : Nat} (k : Kp h H H') (hh : HandAt H h n) (e : H q = some o) (no : notHand o = true) : H' q = some o := k _ _ e (hh.apart e no)
theorem _root_.L2.Same.get {q : Addr} {H H' : Hp} {o : HO} (k : Same H H') (e : H q = some o) : H' q = some o := k _ _ e
theorem _root_.L2.Same.ofKp {h : Addr} {H H1 H2 : Hp} (s : Same H H1) (nh : H h = none) (k : Kp h H1 H2) : Same H H2 := fun c o e => k c o (s c o e) (ne_of_none e nh)
theorem _root_.L2.Same.up {p : Addr} {H H1 : Hp} {u : HO} (s : Same H H1) (hp : H1 p = none) : Same H (upd H1 p u) := s.trans (same1 hp)
/-! ### rules with the written part by its name (for the blocks of comprehensions) -/
section
variable {X : Cx} {K : PySem.W.Frag}
theorem ixl (hK : X.K = K := by rfl) : IxR X (rIxL K) := by subst hK; exact ix_list
theorem isi (hK : X.K = K := by rfl) : CallR X (.builtin "isinstance") (rIsi K) := by subst hK; exact call_isi
def rLenS (K : PySem.W.Frag) : List V → Hp → VK → Prop := fun xs H Q => ∃ p ys, xs = [.ref p] ∧ (SqL K H p ys ∨ SqT K H p ys) ∧ Q (.int (ys.length : Int)) H
theorem lenS (hK : X.K = K := by rfl) : CallR X (.builtin "len") (rLenS K) := by subst hK; exact call_len_seq
theorem neDK (hu : X.A.units + 64 < cLine) (hK : X.K = K := by rfl) : OpR X (compareOp .NotEq) (rNeD K) := by subst hK; exact op_neD hu
end
theorem yesT {te : TE} {σ : L2.St} {H : Hp} {N : VK} {M : Hp → Prop} (h : te σ H N) : tYes σ H (fun b H3 => if b = true then te σ H3 N else M H3) := by
  show (if true = true then te σ H N else M H)
  rw [if_pos rfl]; exact h
/-! ### the head's facts, and more of them -/
theorem ex_at {ex : List (PySem.W.Frag → Bool)} {K : PySem.W.Frag} (c : (ex.all fun f => f K) = true) (i : Nat) {f : PySem.W.Frag → Bool} (h : ex[i]? = some f) : f K = true := List.all_eq_true.mp c f (List.mem_of_getElem? h)
/-- what isinstance asks of an own class -/
structure IsC (K : PySem.W.Frag) (C : Addr) : Prop where
  ha : PySem.W.findIn K (.ref C) "__class__" = some (some (.builtin "object.__class__"))
  hn : PySem.W.specialIn K (.builtin "object.__class__") "__get__" = some (some (.builtin "getset_descriptor.__get__"))
  htk : PySem.W.takesIn K (.builtin "object.__class__") = some true
  hm : PySem.W.mroIn K C (.type "object") = some true
def isCB (x : Str) : PySem.W.Frag → Bool := fun K => He.eqO (PySem.W.findIn K (.ref (He.ga K x)) "__class__") (some (some (.builtin "object.__class__"))) && (He.eqO (PySem.W.specialIn K (.builtin "object.__class__") "__get__") (some (some (.builtin "getset_descriptor.__get__"))) &&
  (decide (PySem.W.takesIn K (.builtin "object.__class__") = some true) && decide (PySem.W.mroIn K (He.ga K x) (.type "object") = some true)))
theorem isC_ok {x : Str} {K : PySem.W.Frag} (c : isCB x K = true) : IsC K (He.ga K x) := by
  obtain ⟨c1, c⟩ := He.ba c
  obtain ⟨c2, c⟩ := He.ba c
  obtain ⟨c3, c4⟩ := He.ba c
  exact ⟨He.eqO_ok c1, He.eqO_ok c2, of_decide_eq_true c3, of_decide_eq_true c4⟩
/-- a class by name: an own one, a built-in one -/
def cv (K : PySem.W.Frag) : Str ⊕ String → Value
  | .inl x => .ref (He.ga K x)
  | .inr n => .type n
def kitF (a b : Str ⊕ String) (r : Bool) : PySem.W.Frag → Bool := fun K => decide (PySem.W.kitOne K (cv K a) (cv K b) = some r)
theorem kitF_ok {a b : Str ⊕ String} {r : Bool} {K : PySem.W.Frag} (c : kitF a b r K = true) : PySem.W.kitOne K (cv K a) (cv K b) = some r := of_decide_eq_true c
theorem tyM {K : PySem.W.Frag} {H : Hp} {a C dx : Addr} {fs : List (Str × V)} (e : H a = some (.ins C dx fs)) (cl : Cls K C) (i : IsC K C) : TyX K H (.ref a) (.ref C) := .base (.ins e cl i.ha i.hn i.htk i.hm)
/-! ### sums and parts of Measures -/
/-- the same fraction once more -/
theorem Fr.of {t u a b c d : Int} (f : Fr t u a b) (hb : b ≠ 0) (e : a * d = c * b) : t * d = c * u := by
  have h1 := f.eq
  have h2 : (t * d) * b = (c * u) * b := by
    calc (t * d) * b = (t * b) * d := by simp only [Int.mul_assoc, Int.mul_comm, Int.mul_left_comm]
      _ = (a * u) * d := by rw [h1]
      _ = (a * d) * u := by simp only [Int.mul_assoc, Int.mul_comm, Int.mul_left_comm]
      _ = (c * b) * u := by rw [e]
      _ = (c * u) * b := by simp only [Int.mul_assoc, Int.mul_comm, Int.mul_left_comm]
  exact Int.eq_of_mul_eq_mul_right hb h2
/-- what stood at the start stands (by another name than the steps') -/
structure Old (H H' : Hp) : Prop where
  s : Same H H'
theorem Old.refl (H : Hp) : Old H H := ⟨Same.refl _⟩
theorem Old.up {p : Addr} {H H1 : Hp} {u : HO} (a : Old H H1) (hp : H1 p = none) : Old H (upd H1 p u) := ⟨a.s.up hp⟩
theorem Old.then {H H1 H2 : Hp} (a : Old H H1) (b : Same H1 H2) : Old H H2 := ⟨a.s.trans b⟩
theorem Old.kp {h : Addr} {H H1 H2 : Hp} (a : Old H H1) (nh : H h = none) (k : Kp h H1 H2) : Old H H2 := ⟨a.s.ofKp nh k⟩
/-- a list is changed, what is no list stays -/
theorem up2 {H : Hp} {l x : Addr} {xs : List V} {o u : HO} (hl : H l = some (.lst xs)) (hx : H x = some o) (no : notHand o = true) : upd H l u x = some o := by
  rw [upd_ne (ne_of hx hl (by intro e; rw [e] at no; cases no))]; exact hx
end My
namespace My
open PySem PySem.Spec PyProof.Rows L2
/-! ### fractions as pairs, stretches as ends -/
abbrev Q2 := Int × Int
def ltq (a b : Q2) : Bool := decide (a.1 * b.2 < b.1 * a.2)
def eqq (a b : Q2) : Bool := decide (a.1 * b.2 = b.1 * a.2)
def someB : Option Q2 → Option Q2 → Bool → Bool → Bool
  | some a, some b, ia, ib => ltq a b || (eqq a b && ia && ib)
  | _, _, _, _ => true
def Re (a b : Q2) : Prop := 0 < a.2 ∧ 0 < b.2 ∧ a.1 * b.2 = b.1 * a.2
def ReO : Option Q2 → Option Q2 → Prop
  | none, none => True
  | some a, some b => Re a b
  | _, _ => False
theorem Re.symm {a b : Q2} (h : Re a b) : Re b a := ⟨h.2.1, h.1, h.2.2.symm⟩
theorem Re.refl {a : Q2} (h : 0 < a.2) : Re a a := ⟨h, h, rfl⟩
theorem ReO.symm : ∀ {a b : Option Q2}, ReO a b → ReO b a
  | none, none, _ => trivial
  | some _, some _, h => Re.symm h
  | none, some _, h => h.elim
  | some _, none, h => h.elim
theorem pos_key {a b c d : Q2} (h : Re a c) (g : Re b d) : (a.1 * b.2) * (c.2 * d.2) = (c.1 * d.2) * (a.2 * b.2) := by
  have := h.2.2
  grind
theorem pos_key' {a b c d : Q2} (h : Re a c) (g : Re b d) : (b.1 * a.2) * (c.2 * d.2) = (d.1 * c.2) * (a.2 * b.2) := by
  have := g.2.2
  grind
theorem ltq_congr {a b c d : Q2} (h : Re a c) (g : Re b d) : ltq a b = ltq c d := by
  unfold ltq
  have k1 := pos_key h g
  have k2 := pos_key' h g
  have p1 : 0 < c.2 * d.2 := Int.mul_pos h.2.1 g.2.1
  have p2 : 0 < a.2 * b.2 := Int.mul_pos h.1 g.1
  refine decide_eq_decide.mpr ⟨fun x => ?_, fun x => ?_⟩
  · have := Int.mul_lt_mul_of_pos_right x p1
    rw [k1, k2] at this
    exact Int.lt_of_mul_lt_mul_right this (Int.le_of_lt p2)
  · have := Int.mul_lt_mul_of_pos_right x p2
    rw [← k1, ← k2] at this
    exact Int.lt_of_mul_lt_mul_right this (Int.le_of_lt p1)
theorem eqq_congr {a b c d : Q2} (h : Re a c) (g : Re b d) : eqq a b = eqq c d := by
  unfold eqq
  have k1 := pos_key h g
  have k2 := pos_key' h g
  have p1 : 0 < c.2 * d.2 := Int.mul_pos h.2.1 g.2.1
  have p2 : 0 < a.2 * b.2 := Int.mul_pos h.1 g.1
  refine decide_eq_decide.mpr ⟨fun x => ?_, fun x => ?_⟩
  · rw [x] at k1
    rw [k1] at k2
    exact Int.eq_of_mul_eq_mul_right (by omega) k2
  · rw [x] at k1
    rw [← k2] at k1
    exact Int.eq_of_mul_eq_mul_right (by omega) k1
theorem someB_congr : ∀ {a b c d : Option Q2} {i j : Bool}, ReO a c → ReO b d → someB a b i j = someB c d i j
  | some a, some b, some c, some d, i, j, h, g => by
    show (ltq a b || (eqq a b && i && j)) = (ltq c d || (eqq c d && i && j))
    rw [ltq_congr h g, eqq_congr h g]
  | none, some _, none, some _, _, _, _, _ => rfl
  | none, none, none, none, _, _, _, _ => rfl
  | some _, none, some _, none, _, _, _, _ => rfl
  | some _, _, none, _, _, _, h, _ => h.elim
  | none, _, some _, _, _, _, h, _ => h.elim
  | some _, some _, some _, none, _, _, _, g => g.elim
  | some _, none, some _, some _, _, _, _, g => g.elim
  | none, some _, none, none, _, _, _, g => g.elim
  | none, none, none, some _, _, _, _, g => g.elim
/-- in lowest terms, its numbers of less than four thousand bits -/
structure Low (a : Q2) : Prop where
  pos : 0 < a.2
  co : Int.gcd a.1 a.2 = 1
  s1 : Sz 4000 a.1
  s2 : Sz 4000 a.2
def LowO : Option Q2 → Prop
  | none => True
  | some a => Low a
theorem dvd_co {a b c : Int} (h : a ∣ b * c) (g : Int.gcd a b = 1) : a ∣ c := by
  have h1 : a.natAbs ∣ b.natAbs * c.natAbs := by rw [← Int.natAbs_mul]; exact Int.natAbs_dvd_natAbs.mpr h
  exact Int.natAbs_dvd_natAbs.mp (Nat.Coprime.dvd_of_dvd_mul_left g h1)
/-! ### their values -/
/-- None, or the tuple of an end's two numbers -/
def EndV (k : Nat) (H : Hp) (v : V) : Option Q2 → Prop
  | none => v = .non
  | some a => ∃ p, v = .ref p ∧ H p = some (.tup [.int a.1, .int a.2]) ∧ 0 < a.2 ∧ Sz k a.1 ∧ Sz k a.2
theorem EndV.mono {k j : Nat} (l : k ≤ j) {H : Hp} {v : V} : ∀ {e : Option Q2}, EndV k H v e → EndV j H v e
  | none, h => h
  | some _, ⟨p, h1, h2, h3, h4, h5⟩ => ⟨p, h1, h2, h3, h4.mono l, h5.mono l⟩
def MsV (C : Addr) (H : Hp) (v : V) : Option Q2 → Prop
  | none => v = .non
  | some a => ∃ p, v = .ref p ∧ MAt C H p a.1 a.2
theorem EndV.same {k : Nat} {H H' : Hp} {v : V} : ∀ {e : Option Q2}, EndV k H v e → Same H H' → EndV k H' v e
  | none, h, _ => h
  | some _, ⟨p, h1, h2, h3⟩, s => ⟨p, h1, s _ _ h2, h3⟩
theorem EndV.kp {j : Nat} {H H' : Hp} {h : Addr} {n : Nat} {v : V} : ∀ {e : Option Q2}, EndV j H v e → HandAt H h n → Kp h H H' → EndV j H' v e
  | none, h, _, _ => h
  | some _, ⟨p, h1, h2, h3⟩, hh, k => ⟨p, h1, k.get hh h2 rfl, h3⟩
theorem MsV.same {C : Addr} {H H' : Hp} {v : V} : ∀ {e : Option Q2}, MsV C H v e → Same H H' → MsV C H' v e
  | none, h, _ => h
  | some _, ⟨p, h1, h2⟩, s => ⟨p, h1, h2.same s⟩
theorem MsV.kp {C : Addr} {H H' : Hp} {h : Addr} {n : Nat} {v : V} : ∀ {e : Option Q2}, MsV C H v e → HandAt H h n → Kp h H H' → MsV C H' v e
  | none, h, _, _ => h
  | some _, ⟨p, h1, h2⟩, hh, k => ⟨p, h1, h2.kp hh k⟩
/-! ### a Stretch -/
def sf (l h : V) (li hi : Bool) : List (Str × V) := [("low", l), ("high", h), ("low_in", .bl li), ("high_in", .bl hi)]
theorem sf_put (l h : V) (li hi : Bool) : putF "high_in" (.bl hi) (putF "low_in" (.bl li) (putF "high" h (putF "low" l []))) = sf l h li hi := by
  have e1 : putF ("high" : Str) h (putF ("low" : Str) l []) = ([("low", l), ("high", h)] : List (Str × V)) := by
    show (if ("low" : Str) = "high" then [(("low" : Str), h)] else (("low" : Str), l) :: putF "high" h []) = _
    rw [if_neg (by decide +kernel)] <;> rfl
  have e2 : putF ("low_in" : Str) (.bl li) [("low", l), ("high", h)] = ([("low", l), ("high", h), ("low_in", .bl li)] : List (Str × V)) := by
    show (if ("low" : Str) = "low_in" then _ else (("low" : Str), l) :: (if ("high" : Str) = "low_in" then _ else (("high" : Str), h) :: putF "low_in" (V.bl li) [])) = _
    rw [if_neg (by decide +kernel), if_neg (by decide +kernel)] <;> rfl
  have e3 : putF ("high_in" : Str) (.bl hi) [("low", l), ("high", h), ("low_in", .bl li)] = sf l h li hi := by
    show (if ("low" : Str) = "high_in" then _ else (("low" : Str), l) :: (if ("high" : Str) = "high_in" then _ else (("high" : Str), h) :: (if ("low_in" : Str) = "high_in" then _ else (("low_in" : Str), V.bl li) :: putF "high_in" (V.bl hi) []))) = _
    rw [if_neg (by decide +kernel), if_neg (by decide +kernel), if_neg (by decide +kernel)] <;> rfl
  rw [e1, e2, e3]
theorem sf_low (l h : V) (li hi : Bool) : (sf l h li hi).lookup ("low" : Str) = some l := by
  rw [← sf_put, lookup_putF, if_neg (by decide +kernel), lookup_putF, if_neg (by decide +kernel), lookup_putF, if_neg (by decide +kernel), lookup_putF, if_pos rfl]
theorem sf_high (l h : V) (li hi : Bool) : (sf l h li hi).lookup ("high" : Str) = some h := by
  rw [← sf_put, lookup_putF, if_neg (by decide +kernel), lookup_putF, if_neg (by decide +kernel), lookup_putF, if_pos rfl]
theorem sf_low_in (l h : V) (li hi : Bool) : (sf l h li hi).lookup ("low_in" : Str) = some (.bl li) := by
  rw [← sf_put, lookup_putF, if_neg (by decide +kernel), lookup_putF, if_pos rfl]
theorem sf_high_in (l h : V) (li hi : Bool) : (sf l h li hi).lookup ("high_in" : Str) = some (.bl hi) := by
  rw [← sf_put, lookup_putF, if_pos rfl]
theorem sf_no (l h : V) (li hi : Bool) {m : Str} (h1 : ¬ m = "low") (h2 : ¬ m = "high") (h3 : ¬ m = "low_in") (h4 : ¬ m = "high_in") : (sf l h li hi).lookup m = none := by
  rw [← sf_put, lookup_putF, if_neg h4, lookup_putF, if_neg h3, lookup_putF, if_neg h2, lookup_putF, if_neg h1] <;> rfl
/-- a Stretch at p: its ends, whether they are in -/
structure StAt (CM CS : Addr) (H : Hp) (p : Addr) (lo hi : Option Q2) (li hj : Bool) : Prop where
  ob : ∃ dx l h, H p = some (.ins CS dx (sf l h li hj)) ∧ MsV CM H l lo ∧ MsV CM H h hi
  l1 : LowO lo
  l2 : LowO hi
  n1 : lo = none → li = false
  n2 : hi = none → hj = false
theorem StAt.same {CM CS p : Addr} {H H' : Hp} {lo hi : Option Q2} {li hj : Bool} (a : StAt CM CS H p lo hi li hj) (s : Same H H') : StAt CM CS H' p lo hi li hj := by
  obtain ⟨⟨dx, l, h, h1, h2, h3⟩, a1, a2, a3, a4⟩ := a
  exact ⟨⟨dx, l, h, s _ _ h1, h2.same s, h3.same s⟩, a1, a2, a3, a4⟩
theorem StAt.kp {CM CS p h : Addr} {H H' : Hp} {n : Nat} {lo hi : Option Q2} {li hj : Bool} (a : StAt CM CS H p lo hi li hj) (hh : HandAt H h n) (s : Kp h H H') : StAt CM CS H' p lo hi li hj := by
  obtain ⟨⟨dx, l, h, h1, h2, h3⟩, a1, a2, a3, a4⟩ := a
  exact ⟨⟨dx, l, h, s.get hh h1 rfl, h2.kp hh s, h3.kp hh s⟩, a1, a2, a3, a4⟩
/-! ### promises -/
/-- the tuple of two ends and two truths, between which something is -/
structure EndsAt (H : Hp) (p : Addr) (ea eb : Option Q2) (ia ib : Bool) : Prop where
  ob : ∃ va vb, H p = some (.tup [va, vb, .bl ia, .bl ib]) ∧ EndV 140 H va ea ∧ EndV 140 H vb eb
  so : someB ea eb ia ib = true
theorem EndsAt.same {H H' : Hp} {p : Addr} {ea eb : Option Q2} {ia ib : Bool} (a : EndsAt H p ea eb ia ib) (s : Same H H') : EndsAt H' p ea eb ia ib := by
  obtain ⟨⟨va, vb, h1, h2, h3⟩, h4⟩ := a
  exact ⟨⟨va, vb, s _ _ h1, h2.same s, h3.same s⟩, h4⟩
theorem EndsAt.kp {H H' : Hp} {p h : Addr} {n : Nat} {ea eb : Option Q2} {ia ib : Bool} (a : EndsAt H p ea eb ia ib) (hh : HandAt H h n) (s : Kp h H H') : EndsAt H' p ea eb ia ib := by
  obtain ⟨⟨va, vb, h1, h2, h3⟩, h4⟩ := a
  exact ⟨⟨va, vb, s.get hh h1 rfl, h2.kp hh s, h3.kp hh s⟩, h4⟩
theorem ReO.isS : ∀ {a b : Option Q2}, ReO a b → a.isSome = b.isSome
  | none, none, _ => rfl
  | some _, some _, _ => rfl
  | none, some _, h => h.elim
  | some _, none, h => h.elim
/-! ### what two stretches have in common -/
def cutLo : Option Q2 → Bool → Option Q2 → Bool → Option Q2 × Bool
  | none, _, n, j => (n, j)
  | some a, i, none, _ => (some a, i)
  | some a, i, some b, j => if ltq a b then (some b, j) else if eqq a b then (some a, i && j) else (some a, i)
def cutHi : Option Q2 → Bool → Option Q2 → Bool → Option Q2 × Bool
  | none, _, n, j => (n, j)
  | some a, i, none, _ => (some a, i)
  | some a, i, some b, j => if ltq b a then (some b, j) else if eqq a b then (some a, i && j) else (some a, i)
/-- the same end, and in or not alike where there is one -/
def Alike (x y : Option Q2 × Bool) : Prop := ReO x.1 y.1 ∧ (x.1.isSome = true → x.2 = y.2)
theorem Alike.someB {x y z w : Option Q2 × Bool} (h : Alike x y) (g : Alike z w) : My.someB x.1 z.1 x.2 z.2 = My.someB y.1 w.1 y.2 w.2 := by
  obtain ⟨x, i⟩ := x
  obtain ⟨y, j⟩ := y
  obtain ⟨z, k⟩ := z
  obtain ⟨w, l⟩ := w
  obtain ⟨h1, h2⟩ := h
  obtain ⟨g1, g2⟩ := g
  rw [someB_congr h1 g1]
  cases x with
  | none => cases y with
    | none => rfl
    | some _ => exact h1.elim
  | some a => cases z with
    | none => cases w with
      | none => cases y <;> rfl
      | some _ => exact g1.elim
    | some b =>
      have e1 : i = j := h2 rfl
      have e2 : k = l := g2 rfl
      rw [e1, e2]
/-- a Stretch, or None where nothing is between -/
def CutV (CM CS : Addr) (H : Hp) (v : V) (lo hi : Option Q2 × Bool) : Prop :=
  (someB lo.1 hi.1 lo.2 hi.2 = true ∧ ∃ r, v = .ref r ∧ StAt CM CS H r lo.1 hi.1 (lo.2 && lo.1.isSome) (hi.2 && hi.1.isSome)) ∨ (someB lo.1 hi.1 lo.2 hi.2 = false ∧ v = .non)
/-- the law's own: a tuple of four, or None -/
def DueV (H : Hp) (v : V) (lo hi : Option Q2 × Bool) : Prop :=
  (someB lo.1 hi.1 lo.2 hi.2 = true ∧ ∃ r, v = .ref r ∧ EndsAt H r lo.1 hi.1 lo.2 hi.2) ∨ (someB lo.1 hi.1 lo.2 hi.2 = false ∧ v = .non)
theorem DueV.same {H H' : Hp} {v : V} {lo hi : Option Q2 × Bool} (h : DueV H v lo hi) (s : Same H H') : DueV H' v lo hi := by
  rcases h with ⟨h1, r, h2, h3⟩ | h
  · exact .inl ⟨h1, r, h2, h3.same s⟩
  · exact .inr h
theorem CutV.same {CM CS : Addr} {H H' : Hp} {v : V} {lo hi : Option Q2 × Bool} (h : CutV CM CS H v lo hi) (s : Same H H') : CutV CM CS H' v lo hi := by
  rcases h with ⟨h1, r, h2, h3⟩ | h
  · exact .inl ⟨h1, r, h2, h3.same s⟩
  · exact .inr h
/-- what is told is what is due -/
def Match (CM CS : Addr) (H : Hp) (found due : V) : Prop :=
  (found = .non ∧ due = .non) ∨ ∃ (r d : Addr) (lo hi ea eb : Option Q2) (ia ib : Bool), found = .ref r ∧ due = .ref d ∧ EndsAt H d ea eb ia ib ∧ StAt CM CS H r lo hi (ia && ea.isSome) (ib && eb.isSome) ∧ ReO lo ea ∧ ReO hi eb
theorem Match.same {CM CS : Addr} {H H' : Hp} {f d : V} (h : Match CM CS H f d) (s : Same H H') : Match CM CS H' f d := by
  rcases h with h | ⟨r, d, lo, hi, ea, eb, ia, ib, h1, h2, h3, h4, h5, h6⟩
  · exact .inl h
  · exact .inr ⟨r, d, lo, hi, ea, eb, ia, ib, h1, h2, h3.same s, h4.same s, h5, h6⟩
theorem Re.trans {a b c : Q2} (h : Re a b) (g : Re b c) : Re a c := by
  obtain ⟨h1, h2, h3⟩ := h
  obtain ⟨g1, g2, g3⟩ := g
  refine ⟨h1, g2, Int.eq_of_mul_eq_mul_right (show b.2 ≠ 0 by omega) ?_⟩
  grind
theorem ReO.trans : ∀ {a b c : Option Q2}, ReO a b → ReO b c → ReO a c
  | none, none, none, _, _ => trivial
  | some _, some _, some _, h, g => Re.trans h g
  | none, some _, _, h, _ => h.elim
  | some _, none, _, h, _ => h.elim
  | none, none, some _, _, g => g.elim
  | some _, some _, none, _, g => g.elim
def PosO : Option Q2 → Prop
  | none => True
  | some a => 0 < a.2
theorem ReO.refl : ∀ {a : Option Q2}, PosO a → ReO a a
  | none, _ => trivial
  | some _, h => Re.refl h
theorem Alike.trans {x y z : Option Q2 × Bool} (h : Alike x y) (g : Alike y z) : Alike x z := ⟨h.1.trans g.1, fun e => (h.2 e).trans (g.2 (by rw [← h.1.isS]; exact e))⟩
theorem StAt.raw {CM CS p : Addr} {H : Hp} {lo hi : Option Q2} {li hj : Bool} (a : StAt CM CS H p lo hi li hj) {m : Str} (h1 : ¬ m = "low") (h2 : ¬ m = "high") (h3 : ¬ m = "low_in") (h4 : ¬ m = "high_in") : ∃ dx fs, H p = some (.ins CS dx fs) ∧ fs.lookup m = none := by
  obtain ⟨⟨dx, l, h, e, _⟩, _⟩ := a
  exact ⟨dx, _, e, sf_no _ _ _ _ h1 h2 h3 h4⟩
theorem EndsAt.due {H : Hp} {p : Addr} {ea eb : Option Q2} {ia ib : Bool} (a : EndsAt H p ea eb ia ib) : DueV H (.ref p) (ea, ia) (eb, ib) := .inl ⟨a.so, p, rfl, a⟩
/-! ### what a stretch holds -/
def loIn : Option Q2 → Bool → Q2 → Bool
  | none, _, _ => true
  | some a, i, x => ltq a x || (i && eqq a x)
def hiIn : Option Q2 → Bool → Q2 → Bool
  | none, _, _ => true
  | some b, j, x => ltq x b || (j && eqq x b)
/-! ### sums, once more, by the size of the new bottom -/
def sp_bin2 (C : Addr) (f g : Int → Int → Int → Int → Int) : Sp := fun vs H Q _ => ∃ (p q : Addr) (t u t' u' : Int), vs = [.ref p, .ref q] ∧ MAt C H p t u ∧ MAt C H q t' u' ∧ 0 < u ∧ 0 < u' ∧ Sz 100000 t ∧ Sz 100000 u ∧ Sz 100000 t' ∧ Sz 100000 u' ∧ Sz 9000 (u * u') ∧
  ∀ (r : Addr) (t2 u2 : Int) (H' : Hp), H r = none → Same H H' → MAt C H' r t2 u2 → Fr t2 u2 (f t u t' u') (g t u t' u') → Q (.ref r) H'
/-- a Measure that the stretch holds -/
structure Held (CM : Addr) (H : Hp) (r : Addr) (x : Q2) (lo hi : Option Q2) (li hj : Bool) : Prop where
  at_ : MAt CM H r x.1 x.2
  pos : 0 < x.2
  s1 : Sz 15000 x.1
  s2 : Sz 15000 x.2
  low : loIn lo li x = true
  high : hiIn hi hj x = true
/-- a Measure in both, or None -/
def ShV (CM : Addr) (H : Hp) (v : V) (m1 m2 n1 n2 : Option Q2) (i1 i2 j1 j2 : Bool) : Prop :=
  (someB (cutLo m1 i1 n1 j1).1 (cutHi m2 i2 n2 j2).1 (cutLo m1 i1 n1 j1).2 (cutHi m2 i2 n2 j2).2 = true ∧ ∃ r x, v = .ref r ∧ Held CM H r x m1 m2 i1 i2 ∧ Held CM H r x n1 n2 j1 j2) ∨
  (someB (cutLo m1 i1 n1 j1).1 (cutHi m2 i2 n2 j2).1 (cutLo m1 i1 n1 j1).2 (cutHi m2 i2 n2 j2).2 = false ∧ v = .non)
theorem Held.same {CM r : Addr} {H H' : Hp} {x : Q2} {lo hi : Option Q2} {li hj : Bool} (a : Held CM H r x lo hi li hj) (s : Same H H') : Held CM H' r x lo hi li hj := ⟨a.at_.same s, a.pos, a.s1, a.s2, a.low, a.high⟩
theorem ShV.same {CM : Addr} {H H' : Hp} {v : V} {m1 m2 n1 n2 : Option Q2} {i1 i2 j1 j2 : Bool} (a : ShV CM H v m1 m2 n1 n2 i1 i2 j1 j2) (s : Same H H') : ShV CM H' v m1 m2 n1 n2 i1 i2 j1 j2 := by
  rcases a with ⟨e, r, x, h1, h2, h3⟩ | h
  · exact .inl ⟨e, r, x, h1, h2.same s, h3.same s⟩
  · exact .inr h
theorem eqq_self (a : Q2) : eqq a a = true := decide_eq_true rfl
/-! ### lists of points, made in comprehensions -/
/-- all but lists stays -/
def Nl (H H' : Hp) : Prop := ∀ c o, H c = some o → notHand o = true → H' c = some o
theorem Nl.of {H H' : Hp} (s : Same H H') : Nl H H' := fun c o e _ => s c o e
theorem EndV.nl {k : Nat} {H H' : Hp} {v : V} : ∀ {e : Option Q2}, EndV k H v e → Nl H H' → EndV k H' v e
  | none, h, _ => h
  | some _, ⟨p, h1, h2, h3⟩, s => ⟨p, h1, s _ _ h2 rfl, h3⟩
def PtV (k : Nat) (H : Hp) (v : V) : Prop := ∃ a : Q2, EndV k H v (some a)
theorem PtV.nl {k : Nat} {H H' : Hp} {v : V} (h : PtV k H v) (s : Nl H H') : PtV k H' v := by
  obtain ⟨a, h⟩ := h
  exact ⟨a, h.nl s⟩
end My
namespace My
open PySem PySem.Spec PyProof.Rows L2
/-! ### errors -/
section
variable {P : Program} {w : World} {K : PySem.W.Frag} {mg : Str → Option Value} {base : Heap} {k : Nat} {f : Addr} {fd : FuncData} {ps : List Str}
/-- a def that lets nothing out keeps its promise where more may be let out -/
theorem lift {CX : CXT} {sp : Sp} (F : FnOk P w K mg base CX0 k f fd ps sp) : FnOk P w K mg base CX k f fd ps sp :=
  ⟨F.len, fun A outer s H args us vs Q E hr he hb hv hs => codeAny_mono (F.run A outer s H args us vs Q E hr he hb hv hs) fun r s' hq => by
    cases r with
    | error e => exact False.elim hq
    | ok fl => cases fl <;> exact hq⟩
end
section
variable {X : Cx} {CX : CXT} {k : Nat} {f C : Addr} {fd : FuncData} {ps : List Str} {sp : Sp} {dvs : List V} {ds : List Value} {x : Str} {p pos : Pos} {e : Expr} {es : List Expr} {t : TA} {E : L2.St → XK}
end
/-! ### several clauses, each with the error by the same name; nothing leaves -/
/-! ### facts of error classes -/
def excCB (x : Str) : PySem.W.Frag → Bool := fun K => He.eqO (PySem.W.findIn K (.ref (He.ga K x)) "__getattribute__") (some (some (.builtin "BaseException.__getattribute__"))) && (He.eqO (PySem.W.findIn K (.ref (He.ga K x)) "__getattr__") (some none) &&
  (decide (PySem.W.subIn K (.ref (He.ga K x)) (.type "BaseException") = some true) && (PySem.W.hasDictIn K (He.ga K x) && isCB x K)))
theorem excC_ok {x : Str} {K : PySem.W.Frag} (c : excCB x K = true) : ExcC K (He.ga K x) := by
  obtain ⟨c1, c⟩ := He.ba c
  obtain ⟨c2, c⟩ := He.ba c
  obtain ⟨c3, c⟩ := He.ba c
  obtain ⟨c4, c5⟩ := He.ba c
  have z := isC_ok c5
  exact ⟨He.eqO_ok c1, He.eqO_ok c2, of_decide_eq_true c3, c4, z.ha, z.hn, z.htk, z.hm⟩
/-- an error class without an __init__ of its own, made and raised -/
structure ExcF (K : PySem.W.Frag) (C : Addr) (bm : List Value) (nw : String) : Prop where
  e : PySem.W.excIn K C bm nw = true
  k : PySem.W.keepIn K (.ref C) = true
  b : PySem.W.subIn K (.ref C) (.type "BaseException") = some true
  t : PySem.W.typeIn K (.ref C) = some (.type "type")
def excFB (x : Str) (bm : List Value) (nw : String) : PySem.W.Frag → Bool := fun K => PySem.W.excIn K (He.ga K x) bm nw && (PySem.W.keepIn K (.ref (He.ga K x)) && (decide (PySem.W.subIn K (.ref (He.ga K x)) (.type "BaseException") = some true) && decide (PySem.W.typeIn K (.ref (He.ga K x)) = some (.type "type"))))
theorem excF_ok {x : Str} {bm : List Value} {nw : String} {K : PySem.W.Frag} (c : excFB x bm nw K = true) : ExcF K (He.ga K x) bm nw := by
  obtain ⟨c1, c⟩ := He.ba c
  obtain ⟨c2, c⟩ := He.ba c
  obtain ⟨c3, c4⟩ := He.ba c
  exact ⟨c1, c2, of_decide_eq_true c3, of_decide_eq_true c4⟩
/-! ### things of any kind -/
/-- a thing that is no Measure and no Stretch; h: not the hand -/
def Thing (h : Addr) (H : Hp) (v : V) : Prop := v = .non ∨ (∃ b, v = .bl b) ∨ (∃ i, v = .int i) ∨ (∃ z, v = .str z) ∨ (∃ a xs, v = .ref a ∧ a ≠ h ∧ H a = some (.lst xs)) ∨ (∃ a xs, v = .ref a ∧ H a = some (.tup xs)) ∨ (∃ a kvs, v = .ref a ∧ H a = some (.dK kvs))
theorem Thing.same {h : Addr} {H H' : Hp} {v : V} (t : Thing h H v) (s : Same H H') : Thing h H' v := by
  rcases t with t | t | t | t | ⟨a, xs, e, n, t⟩ | ⟨a, xs, e, t⟩ | ⟨a, xs, e, t⟩
  · exact .inl t
  · exact .inr (.inl t)
  · exact .inr (.inr (.inl t))
  · exact .inr (.inr (.inr (.inl t)))
  · exact .inr (.inr (.inr (.inr (.inl ⟨a, xs, e, n, s _ _ t⟩))))
  · exact .inr (.inr (.inr (.inr (.inr (.inl ⟨a, xs, e, s _ _ t⟩)))))
  · exact .inr (.inr (.inr (.inr (.inr (.inr ⟨a, xs, e, s _ _ t⟩)))))
theorem Thing.kp {h : Addr} {n : Nat} {H H' : Hp} {v : V} (t : Thing h H v) (hh : HandAt H h n) (s : Kp h H H') : Thing h H' v := by
  rcases t with t | t | t | t | ⟨a, xs, e, n, t⟩ | ⟨a, xs, e, t⟩ | ⟨a, xs, e, t⟩
  · exact .inl t
  · exact .inr (.inl t)
  · exact .inr (.inr (.inl t))
  · exact .inr (.inr (.inr (.inl t)))
  · exact .inr (.inr (.inr (.inr (.inl ⟨a, xs, e, n, s _ _ t n⟩))))
  · exact .inr (.inr (.inr (.inr (.inr (.inl ⟨a, xs, e, s.get hh t rfl⟩)))))
  · exact .inr (.inr (.inr (.inr (.inr (.inr ⟨a, xs, e, s.get hh t rfl⟩)))))
/-- its class, as isinstance asks it -/
theorem Thing.ty {K : PySem.W.Frag} {h : Addr} {H : Hp} {v : V} (t : Thing h H v) : ∃ n : String, TyX K H v (.type n) ∧ (n = "NoneType" ∨ n = "bool" ∨ n = "int" ∨ n = "str" ∨ n = "list" ∨ n = "tuple" ∨ n = "dict") := by
  rcases t with rfl | ⟨b, rfl⟩ | ⟨i, rfl⟩ | ⟨z, rfl⟩ | ⟨a, xs, rfl, n, t⟩ | ⟨a, xs, rfl, t⟩ | ⟨a, xs, rfl, t⟩
  · exact ⟨_, .base .non, .inl rfl⟩
  · exact ⟨_, .base (.bl b), .inr (.inl rfl)⟩
  · exact ⟨_, .base (.int i), .inr (.inr (.inl rfl))⟩
  · exact ⟨_, .base (.str z), .inr (.inr (.inr (.inl rfl)))⟩
  · exact ⟨_, .base (.lst t), .inr (.inr (.inr (.inr (.inl rfl))))⟩
  · exact ⟨_, .base (.tup t), .inr (.inr (.inr (.inr (.inr (.inl rfl)))))⟩
  · exact ⟨_, .base (.dK t), .inr (.inr (.inr (.inr (.inr (.inr rfl)))))⟩
end My
namespace My
open PySem PySem.Spec PyProof.Rows L2
/-! ### == and != by an own __eq__, beside things of any kind -/
section
open AutoSeq1 (wpAny_loadPart')
variable {prog : Program} {w : World} {A : Around} {E : Value → Shared → Prop} {s : Shared}
end
/-- a value of a built-in kind -/
inductive Bk (H : Hp) : V → String → Prop where
  | non : Bk H .non "NoneType"
  | bl (b : Bool) : Bk H (.bl b) "bool"
  | int (i : Int) : Bk H (.int i) "int"
  | str (z : Str) : Bk H (.str z) "str"
  | lst {a : Addr} {xs : List V} (e : H a = some (.lst xs)) : Bk H (.ref a) "list"
  | tup {a : Addr} {xs : List V} (e : H a = some (.tup xs)) : Bk H (.ref a) "tuple"
theorem Bk.ty {K : PySem.W.Frag} {H : Hp} {x : V} {T : String} (b : Bk H x T) : TyX K H x (.type T) := by
  cases b with
  | non => exact .base .non
  | bl b => exact .base (.bl b)
  | int i => exact .base (.int i)
  | str z => exact .base (.str z)
  | lst e => exact .base (.lst e)
  | tup e => exact .base (.tup e)
theorem Bk.same {H H' : Hp} {x : V} {T : String} (b : Bk H x T) (s : Same H H') : Bk H' x T := by
  cases b with
  | non => exact .non
  | bl b => exact .bl b
  | int i => exact .int i
  | str z => exact .str z
  | lst e => exact .lst (s _ _ e)
  | tup e => exact .tup (s _ _ e)
/-- the kinds that no own class stands under -/
def kinds : List String := ["NoneType", "bool", "int", "str", "list", "tuple"]
theorem Bk.mem {H : Hp} {x : V} {T : String} (b : Bk H x T) : T ∈ kinds := by
  cases b <;> simp [kinds]
/-- what == and != ask of a class with an own __eq__ and no own __ne__ -/
structure EqC (K : PySem.W.Frag) (C : Addr) : Prop where
  ne : PySem.W.findIn K (.ref C) "__ne__" = some (some (.builtin "object.__ne__"))
  ob : PySem.W.mroIn K C (.type "object") = some true
  sub : ∀ T, T ∈ kinds → PySem.W.subIn K (.ref C) (.type T) = some false
  nf : ∀ T, T ∈ kinds → PySem.W.notFirst K C (.type T) = true
  kit : ∀ T, T ∈ kinds → PySem.W.kitOne K (.type T) (.ref C) = some false
section
variable {X : Cx} {pins : List (Addr × Obj)} {σ : L2.St} {H : Hp} {s : Shared} {A : Around} {E : Value → Shared → Prop}
end
/-- how == answers: x == y tells b, and nothing changes -/
abbrev Eqb := V → V → Hp → Bool → Prop
def RcB (X : Cx) (n : Nat) (D : Eqb) : Prop := ∀ (A : Around) (pins : List (Addr × Obj)) (s : Shared) (σ : L2.St) (H : Hp) (x y : V) (u v : Value) (b : Bool), Sub X n A → Inv X pins σ H s → RelV x u → RelV y v → D x y H b →
  wpAny (model X.prog X.w) A (richCompare .Eq u v) (fun r s' => r = .bool b ∧ Inv X pins σ H s') X.xe s
def EqB (X : Cx) (n : Nat) (D : Eqb) : Prop := ∀ (A : Around) (pins : List (Addr × Obj)) (s : Shared) (σ : L2.St) (H : Hp) (x y : V) (u v : Value) (b : Bool), Sub X n A → Inv X pins σ H s → RelV x u → RelV y v → D x y H b →
  wpAny (model X.prog X.w) A (eqBool u v) (fun r s' => r = b ∧ Inv X pins σ H s') X.xe s
/-- the own object first -/
def DOwn (K : PySem.W.Frag) (C : Addr) (R : Eqb) : Eqb := fun x y H b => ∃ a dx fs tb, x = .ref a ∧ H a = some (.ins C dx fs) ∧ TyX K H y tb ∧ PySem.W.notFirst K C tb = true ∧ (x = y → b = true) ∧ R x y H b
/-- the own object behind a thing of a built-in kind -/
def DRef (C : Addr) (R : Eqb) : Eqb := fun x y H b => ∃ a dx fs T, y = .ref a ∧ H a = some (.ins C dx fs) ∧ Bk H x T ∧ (x = y → b = true) ∧ R y x H b
def DOr (D D' : Eqb) : Eqb := fun x y H b => D x y H b ∨ D' x y H b
section
variable {X : Cx} {n : Nat} {CX : CXT} {C f : Addr} {fd : FuncData} {ps : List Str} {R D D' : Eqb} {E : XK}
theorem RcB.mono {m : Nat} (h : RcB X n D) (l : n ≤ m) : RcB X m D := fun A pins s σ H x y u v b sb I rx ry d => h A pins s σ H x y u v b (sb.mono l) I rx ry d
theorem EqB.mono {m : Nat} (h : EqB X n D) (l : n ≤ m) : EqB X m D := fun A pins s σ H x y u v b sb I rx ry d => h A pins s σ H x y u v b (sb.mono l) I rx ry d
theorem RcB.or (h : RcB X n D) (h' : RcB X n D') : RcB X n (DOr D D') := fun A pins s σ H x y u v b sb I rx ry d => d.elim (h A pins s σ H x y u v b sb I rx ry) (h' A pins s σ H x y u v b sb I rx ry)
theorem EqB.or (h : EqB X n D) (h' : EqB X n D') : EqB X n (DOr D D') := fun A pins s σ H x y u v b sb I rx ry d => d.elim (h A pins s σ H x y u v b sb I rx ry) (h' A pins s σ H x y u v b sb I rx ry)
/-! ### in, by an own == -/
def InB (D : Eqb) (x : V) (H : Hp) : List V → Bool → Prop
  | [], b => b = false
  | y :: r, b => (D y x H true ∧ b = true) ∨ (D y x H false ∧ InB D x H r b)
open AutoSeq1 (wpAny_loadPart') in
open AutoSeq1 (wpAny_loadPart') in
/-- a text beside a thing of a built-in kind -/
def DTxt : Eqb := fun x y H b => ∃ (z : Str) (T : String), x = .str z ∧ Bk H y T ∧ b = decide (y = .str z)
end
/-! ### Measures alike, beside Measures and things of built-in kinds -/
def REq (K : PySem.W.Frag) (C : Addr) : Eqb := fun x y H b => ∃ p t u, x = .ref p ∧ MAt C H p t u ∧ ((∃ q t' u', y = .ref q ∧ MAt C H q t' u' ∧ b = (decide (t = t') && decide (u = u'))) ∨ ∃ tv, TyX K H y tv ∧ PySem.W.kitOne K tv (.ref C) = some false ∧ b = false)
inductive Like (C : Addr) (H : Hp) (p : Addr) : V → Bool → Prop where
  | ms {q : Addr} {t u t' u' : Int} (a : MAt C H p t u) (b : MAt C H q t' u') : Like C H p (.ref q) (decide (t = t') && decide (u = u'))
  | kd {y : V} {T : String} {t u : Int} (a : MAt C H p t u) (b : Bk H y T) : Like C H p y false
theorem Like.same {C p : Addr} {H H' : Hp} {y : V} {b : Bool} (h : Like C H p y b) (s : Same H H') : Like C H' p y b := by
  cases h with
  | ms a b => exact .ms (a.same s) (b.same s)
  | kd a k => exact .kd (a.same s) (k.same s)
theorem mf_inj {t u t' u' : Int} (h : mf t u = mf t' u') : t = t' ∧ u = u' := by
  unfold mf at h
  injection h with h1 h2
  injection h2 with h3 _
  exact ⟨V.int.inj (congrArg Prod.snd h1), V.int.inj (congrArg Prod.snd h3)⟩
theorem MAt.uniq {C p : Addr} {H : Hp} {t u t' u' : Int} (a : MAt C H p t u) (b : MAt C H p t' u') : t = t' ∧ u = u' := by
  obtain ⟨d, a⟩ := a
  obtain ⟨d', b⟩ := b
  rw [a] at b
  have e := HO.ins.inj (Option.some.inj b)
  exact mf_inj e.2.2
theorem Bk.notIns {C p dx : Addr} {H : Hp} {T : String} {fs : List (Str × V)} (b : Bk H (.ref p) T) (e : H p = some (.ins C dx fs)) : False := by
  cases b with
  | lst z => rw [z] at e; cases e
  | tup z => rw [z] at e; cases e
section
variable {K : PySem.W.Frag} {C p : Addr} {H : Hp} {y : V} {b : Bool}
theorem nf_self : PySem.W.notFirst K C (.ref C) = true := by simp [PySem.W.notFirst]
theorem Like.fwd (cl : Cls K C) (ii : IsC K C) (ec : EqC K C) (h : Like C H p y b) : DOwn K C (REq K C) (.ref p) y H b := by
  cases h with
  | @ms q t u t' u' a b =>
    obtain ⟨da, ha⟩ := _root_.id a
    obtain ⟨db, hb⟩ := _root_.id b
    refine ⟨p, da, _, _, rfl, ha, tyM hb cl ii, nf_self, fun e => ?_, p, t, u, rfl, a, .inl ⟨q, t', u', rfl, b, rfl⟩⟩
    cases e
    obtain ⟨rfl, rfl⟩ := a.uniq b
    simp
  | @kd _ T t u a k =>
    obtain ⟨da, ha⟩ := _root_.id a
    refine ⟨p, da, _, _, rfl, ha, k.ty, ec.nf T k.mem, fun e => ?_, p, t, u, rfl, a, .inr ⟨_, k.ty, ec.kit T k.mem, rfl⟩⟩
    subst e
    exact (k.notIns ha).elim
theorem Like.bwd (cl : Cls K C) (ii : IsC K C) (ec : EqC K C) (h : Like C H p y b) : DOr (DOwn K C (REq K C)) (DRef C (REq K C)) y (.ref p) H b := by
  cases h with
  | @ms q t u t' u' a b =>
    obtain ⟨da, ha⟩ := _root_.id a
    obtain ⟨db, hb⟩ := _root_.id b
    have e2 : (decide (t = t') && decide (u = u')) = (decide (t' = t) && decide (u' = u)) := by
      rw [decide_eq_decide.mpr (eq_comm (a := t)), decide_eq_decide.mpr (eq_comm (a := u))]
    rw [e2]
    refine .inl ⟨q, db, _, _, rfl, hb, tyM ha cl ii, nf_self, fun e => ?_, q, t', u', rfl, b, .inl ⟨p, t, u, rfl, a, rfl⟩⟩
    cases e
    obtain ⟨rfl, rfl⟩ := a.uniq b
    simp
  | @kd _ T t u a k =>
    obtain ⟨da, ha⟩ := _root_.id a
    refine .inr ⟨p, da, _, T, rfl, ha, k, fun e => ?_, p, t, u, rfl, a, .inr ⟨_, k.ty, ec.kit T k.mem, rfl⟩⟩
    subst e
    exact (k.notIns ha).elim
theorem Like.non (ec : EqC K C) (h : Like C H p y b) : DOr (DOwn K C (REq K C)) (DRef C (REq K C)) .non (.ref p) H false := by
  have go : ∀ {t u : Int}, MAt C H p t u → DOr (DOwn K C (REq K C)) (DRef C (REq K C)) .non (.ref p) H false := fun {t u} a => by
    obtain ⟨da, ha⟩ := _root_.id a
    exact .inr ⟨p, da, _, _, rfl, ha, .non, (fun e => nomatch e), p, t, u, rfl, a, .inr ⟨_, (Bk.non (H := H)).ty, ec.kit _ (Bk.non (H := H)).mem, rfl⟩⟩
  cases h with
  | ms a _ => exact go a
  | kd a _ => exact go a
/-- one in [None, y] -/
theorem Like.inl (cl : Cls K C) (ii : IsC K C) (ec : EqC K C) (h : Like C H p y b) : InB (DOr (DOwn K C (REq K C)) (DRef C (REq K C))) (.ref p) H [.non, y] b := by
  refine .inr ⟨h.non ec, ?_⟩
  cases b with
  | true => exact .inl ⟨h.bwd cl ii ec, rfl⟩
  | false => exact .inr ⟨h.bwd cl ii ec, rfl⟩
/-- y in (one, z) -/
theorem Like.inr {z : Str} (cl : Cls K C) (ii : IsC K C) (ec : EqC K C) (h : Like C H p y b) (hz : y ≠ .str z) : InB (DOr (DOr (DOwn K C (REq K C)) (DRef C (REq K C))) DTxt) y H [.ref p, .str z] b := by
  have key : ∀ {c : Bool}, Like C H p y c → DOr (DOr (DOwn K C (REq K C)) (DRef C (REq K C))) DTxt (.str z) y H false := fun {c} h => by
    cases h with
    | @ms q t u t' u' a b =>
      obtain ⟨dq, hq⟩ := _root_.id b
      exact .inl (.inr ⟨q, dq, _, _, rfl, hq, .str z, (fun e => nomatch e), q, t', u', rfl, b, .inr ⟨_, (Bk.str (H := H) z).ty, ec.kit _ (Bk.str (H := H) z).mem, rfl⟩⟩)
    | @kd _ T t u a k => exact .inr ⟨z, T, rfl, k, (decide_eq_false hz).symm⟩
  cases b with
  | true => exact .inl ⟨.inl (.inl (h.fwd cl ii ec)), rfl⟩
  | false => exact .inr ⟨.inl (.inl (h.fwd cl ii ec)), .inr ⟨key h, rfl⟩⟩
end
end My
namespace My
open PySem PySem.Spec PyProof.Rows L2
/-! ### texts: str and repr of own objects, pieces of f-strings, divmod -/
section
variable {X : Cx} {n : Nat} {CX : CXT} {C f : Addr} {fd : FuncData} {ps : List Str} {sp : Sp} {E : XK}
/-- an own def is called from within a built-in one -/
theorem fn_at (F : FnOk X.prog X.w X.K X.mg X.base CX n f fd ps sp) (hb : Binds X.K fd ps []) (hx : Passes CX X E) {A : Around} {pins : List (Addr × Obj)} {s : Shared} {σ : L2.St} {H : Hp} {vs : List V} {us : List Value} {Q : VK}
    (sb : Sub X n A) (I : Inv X pins σ H s) (r : Vals vs us) (h : sp vs H Q E) : wpAny (model X.prog X.w) A (call (.ref f) us) (fun u s' => ∃ v H', Inv X pins σ H' s' ∧ RelV v u ∧ Q v H') X.xe s := by
  have e := I.env0
  have e0 : Env0 X.prog X.w X.K X.mg X.base A X.stack s H := ⟨by rw [sb.fr]; exact e.frames, e.mod, e.bs, e.bsz, e.funs, e.frf, e.hok, e.bare⟩
  have hl := F.len _ _ _ _ h
  have hbs := hb s us I.kIn (by rw [List.append_nil, ← r.length]; exact hl)
  rw [List.append_nil] at hbs
  refine wpAny_call (codeAny_mono (F.run A X.stack s H ⟨us, []⟩ us vs _ E sb.room e0 hbs r h) fun r s' hq => ?_)
  cases r with
  | error e => exact hx pins σ H s e s' I hq
  | ok fl =>
    cases fl with
    | ret w =>
      obtain ⟨z, H', I', rz, q⟩ := I.after hq
      exact ⟨z, H', I', rz, q⟩
    | next => exact False.elim hq
    | brk => exact False.elim hq
    | cont => exact False.elim hq
/-- what a text of an own object asks: the def tells a text -/
def tOwn (C : Addr) (sp : Sp) (E : XK) : V → Hp → VK → Prop := fun x H Q => ∃ a dx fs, x = .ref a ∧ H a = some (.ins C dx fs) ∧ sp [.ref a] H (fun v H' => ∃ z : Str, v = .str z ∧ Q (.str z) H') E
end
/-! ### the text of a number, of a Measure -/
def iT (i : Int) : Str := Str.ofString (toString i)
def mRep (t u : Int) : Str := Str.empty ++ "Measure(" ++ iT t ++ ", " ++ iT u ++ ")"
end My
namespace My
open PySem PySem.Spec PyProof.Rows L2
/-! ### Stretches alike -/
def optEq : Option Q2 → Option Q2 → Bool
  | none, none => true
  | some a, some b => eqq a b
  | _, _ => false
theorem optEq_self (a : Option Q2) : optEq a a = true := by
  cases a with
  | none => rfl
  | some a => exact eqq_self a
theorem eqq_comm' (a b : Q2) : eqq a b = eqq b a := by
  unfold eqq
  exact decide_eq_decide.mpr eq_comm
theorem optEq_comm (a b : Option Q2) : optEq a b = optEq b a := by
  cases a with
  | none => cases b <;> rfl
  | some a =>
    cases b with
    | none => rfl
    | some b => exact eqq_comm' a b
def eqS (lo hi : Option Q2) (li hj : Bool) (lo' hi' : Option Q2) (li' hj' : Bool) : Bool := optEq lo lo' && (optEq hi hi' && (decide (V.bl li = V.bl li') && decide (V.bl hj = V.bl hj')))
theorem eqS_self (lo hi : Option Q2) (li hj : Bool) : eqS lo hi li hj lo hi li hj = true := by
  unfold eqS
  rw [optEq_self, optEq_self, decide_eq_true rfl, decide_eq_true rfl]
  rfl
theorem eqS_comm (lo hi : Option Q2) (li hj : Bool) (lo' hi' : Option Q2) (li' hj' : Bool) : eqS lo hi li hj lo' hi' li' hj' = eqS lo' hi' li' hj' lo hi li hj := by
  unfold eqS
  rw [optEq_comm lo, optEq_comm hi, decide_eq_decide.mpr (eq_comm (a := V.bl li)), decide_eq_decide.mpr (eq_comm (a := V.bl hj))]
section
variable {K : PySem.W.Frag} {CM CS p : Addr} {H : Hp}
def REqS (K : PySem.W.Frag) (CM CS : Addr) : Eqb := fun x y H b => ∃ p lo hi li hj, x = .ref p ∧ StAt CM CS H p lo hi li hj ∧ ((∃ q lo' hi' li' hj', y = .ref q ∧ StAt CM CS H q lo' hi' li' hj' ∧ b = eqS lo hi li hj lo' hi' li' hj') ∨
  ∃ tv, TyX K H y tv ∧ PySem.W.kitOne K tv (.ref CS) = some false ∧ b = false)
inductive LikeS (CM CS : Addr) (H : Hp) (p : Addr) : V → Bool → Prop where
  | st {q : Addr} {lo hi lo' hi' : Option Q2} {li hj li' hj' : Bool} (a : StAt CM CS H p lo hi li hj) (b : StAt CM CS H q lo' hi' li' hj') : LikeS CM CS H p (.ref q) (eqS lo hi li hj lo' hi' li' hj')
  | kd {y : V} {T : String} {lo hi : Option Q2} {li hj : Bool} (a : StAt CM CS H p lo hi li hj) (b : Bk H y T) : LikeS CM CS H p y false
  | ms {q : Addr} {t u : Int} {lo hi : Option Q2} {li hj : Bool} (a : StAt CM CS H p lo hi li hj) (b : MAt CM H q t u) : LikeS CM CS H p (.ref q) false
theorem LikeS.same {H' : Hp} {y : V} {b : Bool} (h : LikeS CM CS H p y b) (s : Same H H') : LikeS CM CS H' p y b := by
  cases h with
  | st a b => exact .st (a.same s) (b.same s)
  | kd a k => exact .kd (a.same s) (k.same s)
  | ms a m => exact .ms (a.same s) (m.same s)
theorem MsV.uniq {v : V} {e f : Option Q2} (a : MsV CM H v e) (b : MsV CM H v f) : e = f := by
  cases e with
  | none =>
    cases a
    cases f with
    | none => rfl
    | some y => obtain ⟨q, z, _⟩ := b; exact nomatch z
  | some x =>
    obtain ⟨p, rfl, hp⟩ := a
    cases f with
    | none => exact nomatch (show V.ref p = V.non from b)
    | some y =>
      obtain ⟨q, z, hq⟩ := b
      cases z
      obtain ⟨h1, h2⟩ := hp.uniq hq
      rw [show x = (x.1, x.2) from rfl, show y = (y.1, y.2) from rfl, h1, h2]
theorem sf_inj {l h l' h' : V} {i j i' j' : Bool} (e : sf l h i j = sf l' h' i' j') : l = l' ∧ h = h' ∧ i = i' ∧ j = j' := by
  have g : ∀ m : Str, (sf l h i j).lookup m = (sf l' h' i' j').lookup m := fun m => by rw [e]
  have g1 := g "low"
  have g2 := g "high"
  have g3 := g "low_in"
  have g4 := g "high_in"
  rw [sf_low, sf_low] at g1
  rw [sf_high, sf_high] at g2
  rw [sf_low_in, sf_low_in] at g3
  rw [sf_high_in, sf_high_in] at g4
  exact ⟨Option.some.inj g1, Option.some.inj g2, V.bl.inj (Option.some.inj g3), V.bl.inj (Option.some.inj g4)⟩
theorem StAt.uniq {lo hi lo' hi' : Option Q2} {li hj li' hj' : Bool} (a : StAt CM CS H p lo hi li hj) (b : StAt CM CS H p lo' hi' li' hj') : lo = lo' ∧ hi = hi' ∧ li = li' ∧ hj = hj' := by
  obtain ⟨⟨d, l, h, h1, h2, h3⟩, _⟩ := a
  obtain ⟨⟨d', l', h', k1, k2, k3⟩, _⟩ := b
  rw [h1] at k1
  have e := HO.ins.inj (Option.some.inj k1)
  obtain ⟨rfl, rfl, rfl, rfl⟩ := sf_inj e.2.2
  exact ⟨h2.uniq k2, h3.uniq k3, rfl, rfl⟩
theorem st_notM {q : Addr} {lo hi : Option Q2} {li hj : Bool} {t u : Int} (a : StAt CM CS H p lo hi li hj) (m : MAt CM H p t u) : False := by
  obtain ⟨⟨d, l, hh, h1, _⟩, _⟩ := a
  obtain ⟨dm, hm⟩ := m
  rw [h1] at hm
  have e := (HO.ins.inj (Option.some.inj hm)).2.2
  have e2 := congrArg (fun fs : List (Str × V) => fs.lookup ("top" : Str)) e
  have e3 : (sf l hh li hj).lookup ("top" : Str) = none := sf_no _ _ _ _ (by decide +kernel) (by decide +kernel) (by decide +kernel) (by decide +kernel)
  have e4 := mf_top t u
  rw [show (sf l hh li hj).lookup ("top" : Str) = (mf t u).lookup ("top" : Str) from e2, e4] at e3
  cases e3
/-- what is asked of the two classes -/
structure Two (K : PySem.W.Frag) (CM CS : Addr) : Prop where
  clM : Cls K CM
  iiM : IsC K CM
  ecM : EqC K CM
  clS : Cls K CS
  iiS : IsC K CS
  ecS : EqC K CS
  nMS : PySem.W.notFirst K CM (.ref CS) = true
  nSM : PySem.W.notFirst K CS (.ref CM) = true
  kMS : PySem.W.kitOne K (.ref CM) (.ref CS) = some false
  kSM : PySem.W.kitOne K (.ref CS) (.ref CM) = some false
def DAllS (K : PySem.W.Frag) (CM CS : Addr) : Eqb := DOr (DOr (DOwn K CS (REqS K CM CS)) (DRef CS (REqS K CM CS))) (DOwn K CM (REq K CM))
theorem LikeS.fwd {y : V} {b : Bool} (T : Two K CM CS) (h : LikeS CM CS H p y b) : DOwn K CS (REqS K CM CS) (.ref p) y H b := by
  cases h with
  | @st q lo hi lo' hi' li hj li' hj' a b =>
    obtain ⟨⟨d, l, hh, h1, _⟩, _⟩ := _root_.id a
    obtain ⟨⟨d', l', hh', k1, _⟩, _⟩ := _root_.id b
    refine ⟨p, d, _, _, rfl, h1, tyM k1 T.clS T.iiS, nf_self, fun e => ?_, p, lo, hi, li, hj, rfl, a, .inl ⟨q, lo', hi', li', hj', rfl, b, rfl⟩⟩
    cases e
    obtain ⟨rfl, rfl, rfl, rfl⟩ := a.uniq b
    exact eqS_self _ _ _ _
  | @kd _ Ty lo hi li hj a k =>
    obtain ⟨⟨d, l, hh, h1, _⟩, _⟩ := _root_.id a
    refine ⟨p, d, _, _, rfl, h1, k.ty, T.ecS.nf Ty k.mem, fun e => ?_, p, lo, hi, li, hj, rfl, a, .inr ⟨_, k.ty, T.ecS.kit Ty k.mem, rfl⟩⟩
    subst e
    exact (k.notIns h1).elim
  | @ms q t u lo hi li hj a m =>
    obtain ⟨⟨d, l, hh, h1, _⟩, _⟩ := _root_.id a
    obtain ⟨dm, hm⟩ := _root_.id m
    have ty := tyM hm T.clM T.iiM
    refine ⟨p, d, _, _, rfl, h1, ty, T.nSM, fun e => ?_, p, lo, hi, li, hj, rfl, a, .inr ⟨_, ty, T.kMS, rfl⟩⟩
    cases e
    exact (st_notM (q := p) a m).elim
theorem LikeS.bwd {y : V} {b : Bool} (T : Two K CM CS) (h : LikeS CM CS H p y b) : DAllS K CM CS y (.ref p) H b := by
  cases h with
  | @st q lo hi lo' hi' li hj li' hj' a b =>
    rw [eqS_comm]
    exact .inl (.inl (LikeS.fwd T (.st b a)))
  | @kd _ Ty lo hi li hj a k =>
    obtain ⟨⟨d, l, hh, h1, _⟩, _⟩ := _root_.id a
    refine .inl (.inr ⟨p, d, _, Ty, rfl, h1, k, fun e => ?_, p, lo, hi, li, hj, rfl, a, .inr ⟨_, k.ty, T.ecS.kit Ty k.mem, rfl⟩⟩)
    subst e
    exact (k.notIns h1).elim
  | @ms q t u lo hi li hj a m =>
    obtain ⟨⟨d, l, hh, h1, _⟩, _⟩ := _root_.id a
    obtain ⟨dm, hm⟩ := _root_.id m
    have ty := tyM h1 T.clS T.iiS
    refine .inr ⟨q, dm, _, _, rfl, hm, ty, T.nMS, fun e => ?_, q, t, u, rfl, m, .inr ⟨_, ty, T.kSM, rfl⟩⟩
    cases e
    exact (st_notM (q := p) a m).elim
theorem LikeS.inl {y : V} {b : Bool} (T : Two K CM CS) (h : LikeS CM CS H p y b) : InB (DAllS K CM CS) (.ref p) H [.non, y] b := by
  have go : ∀ {lo hi li hj}, StAt CM CS H p lo hi li hj → DAllS K CM CS .non (.ref p) H false := fun {lo hi li hj} a => LikeS.bwd T (.kd a .non)
  have nn : DAllS K CM CS .non (.ref p) H false := by
    cases h with
    | st a _ => exact go a
    | kd a _ => exact go a
    | ms a _ => exact go a
  refine .inr ⟨nn, ?_⟩
  cases b with
  | true => exact .inl ⟨h.bwd T, rfl⟩
  | false => exact .inr ⟨h.bwd T, rfl⟩
end
/-! ### texts of Stretches -/
def rT : Option Q2 → Str
  | none => "None"
  | some a => mRep a.1 a.2
/-- the tuple of two ends and two truths -/
def EndsK (k : Nat) (H : Hp) (v : V) (ea eb : Option Q2) (ia ib : Bool) : Prop := ∃ p va vb, v = .ref p ∧ H p = some (.tup [va, vb, .bl ia, .bl ib]) ∧ EndV k H va ea ∧ EndV k H vb eb
theorem EndsK.nl {k : Nat} {H H' : Hp} {v : V} {ea eb : Option Q2} {ia ib : Bool} (a : EndsK k H v ea eb ia ib) (s : Nl H H') : EndsK k H' v ea eb ia ib := by
  obtain ⟨p, va, vb, h0, h1, h2, h3⟩ := a
  exact ⟨p, va, vb, h0, s _ _ h1 rfl, h2.nl s, h3.nl s⟩
theorem EndsK.same {k : Nat} {H H' : Hp} {v : V} {ea eb : Option Q2} {ia ib : Bool} (a : EndsK k H v ea eb ia ib) (s : Same H H') : EndsK k H' v ea eb ia ib := a.nl (Nl.of s)
theorem EndsAt.k {H : Hp} {p : Addr} {ea eb : Option Q2} {ia ib : Bool} (a : EndsAt H p ea eb ia ib) : EndsK 150 H (.ref p) ea eb ia ib := by
  obtain ⟨⟨va, vb, h1, h2, h3⟩, _⟩ := a
  exact ⟨p, va, vb, rfl, h1, h2.mono (by decide), h3.mono (by decide)⟩
end My
namespace My
open PySem PySem.Spec PyProof.Rows L2
/-! ### texts by their signs: partings at the last and the first sign -/
/-! ### x.rpartition(sep) -/
/-! ### a leading sign -/
/-! ### the words of a measure's text -/
/-! ### the text of a Measure by its signs -/
end My
namespace My
open PySem PySem.Spec PyProof.Rows L2
/-! ### list.count(True) of truths -/
/-! ### Measures as fractions -/
theorem fr_of {t u A B : Int} (hu : 0 < u) (co : Int.gcd t u = 1) (hB : 0 < B) (e : t * B = A * u) : Fr t u A B := by
  have co' : Int.gcd u t = 1 := by rw [Int.gcd_comm]; exact co
  have d2 : u ∣ B := dvd_co (b := t) ⟨A, by rw [e, Int.mul_comm]⟩ co'
  obtain ⟨k, hk⟩ := d2
  have k0 : 0 < k := by
    rcases Int.lt_or_le 0 k with z | z
    · exact z
    · have := Int.mul_nonneg_of_nonpos_of_nonpos (show -u ≤ 0 by omega) z
      have e2 : -u * k = -(u * k) := Int.neg_mul ..
      omega
  have e1 : A = t * k := by
    have : A * u = (t * k) * u := by
      rw [← e, hk]
      simp only [Int.mul_assoc, Int.mul_comm, Int.mul_left_comm]
    exact Int.eq_of_mul_eq_mul_right (by omega) this
  refine ⟨hu, e, co, ?_, ?_⟩
  · rw [e1, Int.natAbs_mul]
    exact Nat.le_mul_of_pos_right _ (by omega)
  · rw [hk, Int.natAbs_mul]
    exact Nat.le_mul_of_pos_right _ (by omega)
def qadd (x y : Q2) : Q2 := (x.1 * y.2 + y.1 * x.2, x.2 * y.2)
def qsub (x y : Q2) : Q2 := (x.1 * y.2 - y.1 * x.2, x.2 * y.2)
def qmul (x y : Q2) : Q2 := (x.1 * y.1, x.2 * y.2)
def qprt (x : Q2) (m : Int) : Q2 := (x.1 * sgn m, x.2 * (m * sgn m))
structure QAt (C : Addr) (H : Hp) (p : Addr) (k : Nat) (x : Q2) : Prop where
  ob : ∃ t u, MAt C H p t u ∧ Fr t u x.1 x.2
  pos : 0 < x.2
  s1 : Sz k x.1
  s2 : Sz k x.2
theorem QAt.same {C p : Addr} {H H' : Hp} {k : Nat} {x : Q2} (h : QAt C H p k x) (s : Same H H') : QAt C H' p k x := by
  obtain ⟨⟨t, u, m, f⟩, h1, h2, h3⟩ := h
  exact ⟨⟨t, u, m.same s, f⟩, h1, h2, h3⟩
theorem QAt.mono {C p : Addr} {H : Hp} {k j : Nat} {x : Q2} (h : QAt C H p k x) (l : k ≤ j) : QAt C H p j x := ⟨h.ob, h.pos, h.s1.mono l, h.s2.mono l⟩
theorem QAt.kp {C p hd : Addr} {H H' : Hp} {n k : Nat} {x : Q2} (h : QAt C H p k x) (hh : HandAt H hd n) (s : Kp hd H H') : QAt C H' p k x := by
  obtain ⟨⟨t, u, m, f⟩, h1, h2, h3⟩ := h
  exact ⟨⟨t, u, m.kp hh s, f⟩, h1, h2, h3⟩
theorem QAt.nl {C p : Addr} {H H' : Hp} {k : Nat} {x : Q2} (h : QAt C H p k x) (s : Nl H H') : QAt C H' p k x := by
  obtain ⟨⟨t, u, ⟨d, m⟩, f⟩, h1, h2, h3⟩ := h
  exact ⟨⟨t, u, ⟨d, s _ _ m rfl⟩, f⟩, h1, h2, h3⟩
section
variable {C p q : Addr} {H : Hp} {Q : VK} {E : XK} {k j : Nat} {x y : Q2}
theorem QAt.raw (h : QAt C H p k x) {m : Str} (h1 : ¬ m = "top") (h2 : ¬ m = "bottom") : ∃ dx fs, H p = some (.ins C dx fs) ∧ fs.lookup m = none := by
  obtain ⟨⟨t, u, ⟨d, m⟩, f⟩, _⟩ := h
  exact ⟨d, _, m, mf_no _ _ h1 h2⟩
theorem q_add (hx : QAt C H p k x) (hy : QAt C H q j y) (l : k + j ≤ 8900) (l0 : 0 < k) (l1 : 0 < j) (f : ∀ (r : Addr) (H' : Hp), Same H H' → QAt C H' r (k + j + 1) (qadd x y) → Q (.ref r) H') :
    sp_bin2 C (fun t u t' u' => t * u' + t' * u) (fun t u t' u' => u * u') [.ref p, .ref q] H Q E := by
  obtain ⟨⟨t, u, m1, f1⟩, px, a1, a2⟩ := hx
  obtain ⟨⟨t', u', m2, f2⟩, py, b1, b2⟩ := hy
  refine ⟨p, q, t, u, t', u', rfl, m1, m2, f1.pos, f2.pos, (a1.le f1.lt).mono (by omega), (a2.le f1.lu).mono (by omega), (b1.le f2.lt).mono (by omega), (b2.le f2.lu).mono (by omega), ((a2.le f1.lu).mul (b2.le f2.lu)).mono (by omega), fun r t2 u2 H' _ s m f3 => ?_⟩
  refine f r H' s ⟨⟨t2, u2, m, fr_of f3.pos f3.co (Int.mul_pos px py) ?_⟩, Int.mul_pos px py, (a1.mul b2).add ((b1.mul a2).mono (by omega)), (a2.mul b2).mono (by omega)⟩
  have e1 := f1.eq
  have e2 := f2.eq
  have e3 := f3.eq
  have z : (t2 * (x.2 * y.2)) * (u * u') = ((x.1 * y.2 + y.1 * x.2) * u2) * (u * u') := by
    have : (t2 * (x.2 * y.2)) * (u * u') = (t2 * (u * u')) * (x.2 * y.2) := by grind
    rw [this, e3]
    have w1 : (t * u' + t' * u) * u2 * (x.2 * y.2) = ((t * x.2) * u' * y.2 + (t' * y.2) * u * x.2) * u2 := by grind
    rw [w1, e1, e2]
    grind
  have pu := Int.mul_pos f1.pos f2.pos
  exact Int.eq_of_mul_eq_mul_right (by omega) z
theorem q_sub (hx : QAt C H p k x) (hy : QAt C H q j y) (l : k + j ≤ 8900) (l0 : 0 < k) (l1 : 0 < j) (f : ∀ (r : Addr) (H' : Hp), Same H H' → QAt C H' r (k + j + 1) (qsub x y) → Q (.ref r) H') :
    sp_bin2 C (fun t u t' u' => t * u' - t' * u) (fun t u t' u' => u * u') [.ref p, .ref q] H Q E := by
  obtain ⟨⟨t, u, m1, f1⟩, px, a1, a2⟩ := hx
  obtain ⟨⟨t', u', m2, f2⟩, py, b1, b2⟩ := hy
  refine ⟨p, q, t, u, t', u', rfl, m1, m2, f1.pos, f2.pos, (a1.le f1.lt).mono (by omega), (a2.le f1.lu).mono (by omega), (b1.le f2.lt).mono (by omega), (b2.le f2.lu).mono (by omega), ((a2.le f1.lu).mul (b2.le f2.lu)).mono (by omega), fun r t2 u2 H' _ s m f3 => ?_⟩
  refine f r H' s ⟨⟨t2, u2, m, fr_of f3.pos f3.co (Int.mul_pos px py) ?_⟩, Int.mul_pos px py, (a1.mul b2).sub ((b1.mul a2).mono (by omega)), (a2.mul b2).mono (by omega)⟩
  have e1 := f1.eq
  have e2 := f2.eq
  have e3 := f3.eq
  have z : (t2 * (x.2 * y.2)) * (u * u') = ((x.1 * y.2 - y.1 * x.2) * u2) * (u * u') := by
    have : (t2 * (x.2 * y.2)) * (u * u') = (t2 * (u * u')) * (x.2 * y.2) := by grind
    rw [this, e3]
    have w1 : (t * u' - t' * u) * u2 * (x.2 * y.2) = ((t * x.2) * u' * y.2 - (t' * y.2) * u * x.2) * u2 := by grind
    rw [w1, e1, e2]
    grind
  have pu := Int.mul_pos f1.pos f2.pos
  exact Int.eq_of_mul_eq_mul_right (by omega) z
theorem q_mul (hx : QAt C H p k x) (hy : QAt C H q j y) (l : k + j ≤ 8900) (l0 : 0 < k) (l1 : 0 < j) (f : ∀ (r : Addr) (H' : Hp), Same H H' → QAt C H' r (k + j + 1) (qmul x y) → Q (.ref r) H') :
    sp_bin2 C (fun t u t' u' => t * t') (fun t u t' u' => u * u') [.ref p, .ref q] H Q E := by
  obtain ⟨⟨t, u, m1, f1⟩, px, a1, a2⟩ := hx
  obtain ⟨⟨t', u', m2, f2⟩, py, b1, b2⟩ := hy
  refine ⟨p, q, t, u, t', u', rfl, m1, m2, f1.pos, f2.pos, (a1.le f1.lt).mono (by omega), (a2.le f1.lu).mono (by omega), (b1.le f2.lt).mono (by omega), (b2.le f2.lu).mono (by omega), ((a2.le f1.lu).mul (b2.le f2.lu)).mono (by omega), fun r t2 u2 H' _ s m f3 => ?_⟩
  refine f r H' s ⟨⟨t2, u2, m, fr_of f3.pos f3.co (Int.mul_pos px py) ?_⟩, Int.mul_pos px py, (a1.mul b1).mono (by omega), (a2.mul b2).mono (by omega)⟩
  have e1 := f1.eq
  have e2 := f2.eq
  have e3 := f3.eq
  have z : (t2 * (x.2 * y.2)) * (u * u') = ((x.1 * y.1) * u2) * (u * u') := by
    have : (t2 * (x.2 * y.2)) * (u * u') = (t2 * (u * u')) * (x.2 * y.2) := by grind
    rw [this, e3]
    have w1 : (t * t') * u2 * (x.2 * y.2) = (t * x.2) * (t' * y.2) * u2 := by grind
    rw [w1, e1, e2]
    grind
  have pu := Int.mul_pos f1.pos f2.pos
  exact Int.eq_of_mul_eq_mul_right (by omega) z
theorem q_below {al : Bool} (hx : QAt C H p k x) (hy : QAt C H q j y) (l : k ≤ 9000) (l1 : j ≤ 9000) (f : Q (.bl (ltq x y || (al && eqq x y))) H) : sp_below C [.ref p, .ref q, .bl al] H Q E := by
  obtain ⟨⟨t, u, m1, f1⟩, px, a1, a2⟩ := hx
  obtain ⟨⟨t', u', m2, f2⟩, py, b1, b2⟩ := hy
  refine ⟨p, q, t, u, t', u', al, rfl, m1, m2, (a1.le f1.lt).mono l, (a2.le f1.lu).mono l, (b1.le f2.lt).mono l1, (b2.le f2.lu).mono l1, ?_⟩
  have r1 : Re (t, u) x := ⟨f1.pos, px, f1.eq⟩
  have r2 : Re (t', u') y := ⟨f2.pos, py, f2.eq⟩
  have e : lessA t u t' u' al = (ltq x y || (al && eqq x y)) := by
    rw [← ltq_congr r1 r2, ← eqq_congr r1 r2]
    rfl
  rw [e]
  exact f
end
/-! the same, behind the arguments -/
section
variable {C p q : Addr} {H : Hp} {Q : VK} {E : XK} {k j : Nat} {x y : Q2} {σ : L2.St}
theorem q_addT (hx : QAt C H p k x) (hy : QAt C H q j y) (l : k + j ≤ 8900) (l0 : 0 < k) (l1 : 0 < j) (f : ∀ (r : Addr) (H' : Hp), Same H H' → QAt C H' r (k + j + 1) (qadd x y) → Q (.ref r) H') :
    tNil σ H (fun xs H2 => sp_bin2 C (fun t u t' u' => t * u' + t' * u) (fun t u t' u' => u * u') (.ref p :: ((.ref q :: xs) ++ [])) H2 Q E) := q_add (E := E) hx hy l l0 l1 f
theorem q_subT (hx : QAt C H p k x) (hy : QAt C H q j y) (l : k + j ≤ 8900) (l0 : 0 < k) (l1 : 0 < j) (f : ∀ (r : Addr) (H' : Hp), Same H H' → QAt C H' r (k + j + 1) (qsub x y) → Q (.ref r) H') :
    tNil σ H (fun xs H2 => sp_bin2 C (fun t u t' u' => t * u' - t' * u) (fun t u t' u' => u * u') (.ref p :: ((.ref q :: xs) ++ [])) H2 Q E) := q_sub (E := E) hx hy l l0 l1 f
theorem q_mulT (hx : QAt C H p k x) (hy : QAt C H q j y) (l : k + j ≤ 8900) (l0 : 0 < k) (l1 : 0 < j) (f : ∀ (r : Addr) (H' : Hp), Same H H' → QAt C H' r (k + j + 1) (qmul x y) → Q (.ref r) H') :
    tNil σ H (fun xs H2 => sp_bin2 C (fun t u t' u' => t * t') (fun t u t' u' => u * u') (.ref p :: ((.ref q :: xs) ++ [])) H2 Q E) := q_mul (E := E) hx hy l l0 l1 f
theorem q_belowT (hx : QAt C H p k x) (hy : QAt C H q j y) (l : k ≤ 9000) (l1 : j ≤ 9000) (f : Q (.bl (ltq x y)) H) :
    tNil σ H (fun xs H2 => sp_below C (.ref p :: ((.ref q :: xs) ++ [.bl false])) H2 Q E) := q_below (E := E) (al := false) hx hy l l1 (by rw [Bool.false_and, Bool.or_false]; exact f)
theorem q_belowA (hx : QAt C H p k x) (hy : QAt C H q j y) (l : k ≤ 9000) (l1 : j ≤ 9000) (f : Q (.bl (ltq x y || eqq x y)) H) :
    tCons (tC (.bl true)) tNil σ H (fun xs H2 => sp_below C (.ref p :: ((.ref q :: xs) ++ [])) H2 Q E) := q_below (E := E) (al := true) hx hy l l1 (by rw [Bool.true_and]; exact f)
end
/-! ### sums keep the order; the midst lies between -/
def qhalf (x y : Q2) : Q2 := qprt (qadd x y) 2
/-! ### numbers of at most twelve figures -/
/-! ### constants by their signs -/
/-! ### a comprehension over a text -/
end My
namespace My
open PySem PySem.Spec PyProof.Rows L2
/-! ### comprehensions over anything that is walked -/
section
variable {J : It} {n : Nat} {G : Hp → Prop} {Y : Nat → Hp → V → Hp → Prop} {g : TG} {tt : TT} {te : TE} {vs : List Nat} {σ : L2.St} {H1 : Hp} {D : Addr} {Qd : Hp → Prop}
/-- the elements are known: z some y is told, z none is left out -/
theorem lcz (w : Walk J n G Y) (hGs : ∀ H H', G H → Same H H' → G H') (zs : List (Option V)) (hlen : zs.length = n) (hz : n < sizeLine) (hG : G H1) (hD : H1 D = none)
    (hs : ∀ (i : Nat) (x : V) (H H' : Hp) (z : Option V) (N : VK) (M : Hp → Prop), i < n → zs[i]? = some z → Same H1 H → Y i H x H' → (∀ y H4, z = some y → Same H H4 → N y H4) → (∀ H4, z = none → Same H H4 → M H4) →
      g x (wipe σ vs) H' fun σ2 H2 => wipe σ2 vs = wipe σ vs ∧ tt σ2 H2 fun b H3 => if b = true then te σ2 H3 N else M H3)
    (hd : ∀ H, Same H1 H → H D = some (.lst (zs.filterMap _root_.id)) → Qd H) :
    ∃ W : Nat → Nat → Hp → Prop, (∃ m, W 0 m (upd H1 D (.lst []))) ∧ ∀ i m H, W i m H →
      (J.stop i H ∧ Qd H) ∨ (J.go i H ∧ ∃ Nx : Hp → Prop, (∀ H', Nx H' → ∃ m', m' < m ∧ W (i + 1) m' H') ∧ ∀ x H', J.yld i H x H' → g x (wipe σ vs) H' fun σ2 H2 => wipe σ2 vs = wipe σ vs ∧ tt σ2 H2 fun b H3 =>
        if b = true then te σ2 H3 fun y H4 => ∃ acc, H4 D = some (.lst acc) ∧ acc.length < sizeLine ∧ Nx (upd H4 D (.lst (acc ++ [y]))) else Nx H3) := by
  refine lc_it w (fun i H => Same H1 H ∧ H D = some (.lst ((zs.take i).filterMap _root_.id))) ⟨same1 hD, upd_same⟩ (fun i H _ p => hGs _ _ hG p.1) (fun i x H H' hi p y => ?_) (fun H p => hd H p.1 ?_)
  · have hi2 : i < zs.length := by omega
    have tk : ∀ z, zs[i]? = some z → (zs.take (i + 1)).filterMap _root_.id = (zs.take i).filterMap _root_.id ++ z.toList := fun z e => by
      rw [List.take_add_one, e, List.filterMap_append]
      cases z <;> rfl
    have ez : zs[i]? = some zs[i] := List.getElem?_eq_getElem hi2
    refine hs i x H H' zs[i] _ _ hi ez p.1 y (fun v H4 e s4 => ⟨_, s4 _ _ p.2, ?_, ?_, ?_⟩) (fun H4 e s4 => ⟨p.1.trans s4, ?_⟩)
    · refine Nat.lt_of_le_of_lt (List.length_filterMap_le _ _) ?_
      rw [List.length_take]; omega
    · intro c o ec
      rw [upd_ne (ne_of_none ec hD)]
      exact s4 _ _ (p.1 _ _ ec)
    · rw [upd_same, tk _ ez, e]
      rfl
    · rw [tk _ ez, e, Option.toList_none, List.append_nil]
      exact s4 _ _ p.2
  · have e := p.2
    rw [← hlen, List.take_length] at e
    exact e
end
/-! ### several Measures -/
/-- the values ps are Measures of the fractions zs -/
structure Mks (C : Addr) (H : Hp) (k : Nat) (ps : List V) (zs : List Q2) : Prop where
  len : ps.length = zs.length
  all : ∀ (i : Nat) (v : V) (z : Q2), ps[i]? = some v → zs[i]? = some z → ∃ p, v = V.ref p ∧ QAt C H p k z
section
variable {C : Addr} {H H' : Hp} {k : Nat} {ps : List V} {zs : List Q2} {v : V}
theorem Mks.same (m : Mks C H k ps zs) (s : Same H H') : Mks C H' k ps zs := ⟨m.len, fun i v z h1 h2 => by
  obtain ⟨p, e, q⟩ := m.all i v z h1 h2
  exact ⟨p, e, q.same s⟩⟩
theorem Mks.kp {hd : Addr} {n : Nat} (m : Mks C H k ps zs) (hh : HandAt H hd n) (s : Kp hd H H') : Mks C H' k ps zs := ⟨m.len, fun i v z h1 h2 => by
  obtain ⟨p, e, q⟩ := m.all i v z h1 h2
  exact ⟨p, e, q.kp hh s⟩⟩
theorem Mks.at (m : Mks C H k ps zs) {i : Nat} {z : Q2} (h : zs[i]? = some z) : ∃ p, ps[i]? = some (.ref p) ∧ QAt C H p k z := by
  have hi : i < ps.length := by rw [m.len]; exact (List.getElem?_eq_some_iff.mp h).1
  obtain ⟨p, e, q⟩ := m.all i _ z (List.getElem?_eq_getElem hi) h
  exact ⟨p, by rw [List.getElem?_eq_getElem hi, e], q⟩
theorem Mks.of (m : Mks C H k ps zs) {i : Nat} {v : V} (h : ps[i]? = some v) : ∃ p z, v = .ref p ∧ zs[i]? = some z ∧ QAt C H p k z := by
  have hi : i < zs.length := by rw [← m.len]; exact (List.getElem?_eq_some_iff.mp h).1
  obtain ⟨p, e, q⟩ := m.all i v _ h (List.getElem?_eq_getElem hi)
  exact ⟨p, _, e, List.getElem?_eq_getElem hi, q⟩
/-- None, or a Measure -/
def QO (C : Addr) (H : Hp) (k : Nat) (v : V) : Option Q2 → Prop
  | none => v = .non
  | some z => ∃ p, v = .ref p ∧ QAt C H p k z
theorem QO.same : ∀ {e : Option Q2}, QO C H k v e → Same H H' → QO C H' k v e
  | none, h, _ => h
  | some _, ⟨p, h1, h2⟩, s => ⟨p, h1, h2.same s⟩
theorem QO.kp {hd : Addr} {n : Nat} : ∀ {e : Option Q2}, QO C H k v e → HandAt H hd n → Kp hd H H' → QO C H' k v e
  | none, h, _, _ => h
  | some _, ⟨p, h1, h2⟩, hh, s => ⟨p, h1, h2.kp hh s⟩
/-- the exact numbers of such a Measure -/
theorem QAt.low {p : Addr} {z : Q2} (q : QAt C H p k z) (l : k ≤ 4000) : ∃ a : Q2, MAt C H p a.1 a.2 ∧ Low a ∧ Re a z := by
  obtain ⟨⟨t, u, m, f⟩, h1, h2, h3⟩ := q
  exact ⟨(t, u), m, ⟨f.pos, f.co, (h2.le f.lt).mono l, (h3.le f.lu).mono l⟩, f.pos, h1, f.eq⟩
theorem QO.low (l : k ≤ 4000) : ∀ {e : Option Q2}, QO C H k v e → ∃ m, MsV C H v m ∧ LowO m ∧ ReO m e
  | none, h => ⟨none, h, trivial, trivial⟩
  | some _, ⟨p, h1, h2⟩ => by
    obtain ⟨a, ma, la, ra⟩ := h2.low l
    exact ⟨some a, ⟨p, h1, ma⟩, la, ra⟩
theorem QAt.of {p : Addr} {a z : Q2} (m : MAt C H p a.1 a.2) (l : Low a) (r : Re a z) (s1 : Sz k z.1) (s2 : Sz k z.2) : QAt C H p k z :=
  ⟨⟨a.1, a.2, m, fr_of l.pos l.co r.2.1 r.2.2⟩, r.2.1, s1, s2⟩
end
/-! ### a Ladder -/
def lf (T : V) (r : Str) (l h : V) : List (Str × V) := [("marks", T), ("rule", .str r), ("least", l), ("most", h)]
theorem lf_put (T : V) (r : Str) (l h : V) : putF "most" h (putF "least" l (putF "rule" (.str r) (putF "marks" T []))) = lf T r l h := by
  have e1 : putF ("rule" : Str) (.str r) (putF ("marks" : Str) T []) = ([("marks", T), ("rule", .str r)] : List (Str × V)) := by
    show (if ("marks" : Str) = "rule" then [(("marks" : Str), V.str r)] else (("marks" : Str), T) :: putF "rule" (.str r) []) = _
    rw [if_neg (by decide +kernel)] <;> rfl
  have e2 : putF ("least" : Str) l [("marks", T), ("rule", .str r)] = ([("marks", T), ("rule", .str r), ("least", l)] : List (Str × V)) := by
    show (if ("marks" : Str) = "least" then _ else (("marks" : Str), T) :: (if ("rule" : Str) = "least" then _ else (("rule" : Str), V.str r) :: putF "least" l [])) = _
    rw [if_neg (by decide +kernel), if_neg (by decide +kernel)] <;> rfl
  have e3 : putF ("most" : Str) h [("marks", T), ("rule", .str r), ("least", l)] = lf T r l h := by
    show (if ("marks" : Str) = "most" then _ else (("marks" : Str), T) :: (if ("rule" : Str) = "most" then _ else (("rule" : Str), V.str r) :: (if ("least" : Str) = "most" then _ else (("least" : Str), l) :: putF "most" h []))) = _
    rw [if_neg (by decide +kernel), if_neg (by decide +kernel), if_neg (by decide +kernel)] <;> rfl
  rw [e1, e2, e3]
section
variable (T : V) (r : Str) (l h : V)
theorem lf_marks : (lf T r l h).lookup ("marks" : Str) = some T := by
  rw [← lf_put, lookup_putF, if_neg (by decide +kernel), lookup_putF, if_neg (by decide +kernel), lookup_putF, if_neg (by decide +kernel), lookup_putF, if_pos rfl]
theorem lf_rule : (lf T r l h).lookup ("rule" : Str) = some (.str r) := by
  rw [← lf_put, lookup_putF, if_neg (by decide +kernel), lookup_putF, if_neg (by decide +kernel), lookup_putF, if_pos rfl]
theorem lf_least : (lf T r l h).lookup ("least" : Str) = some l := by
  rw [← lf_put, lookup_putF, if_neg (by decide +kernel), lookup_putF, if_pos rfl]
theorem lf_most : (lf T r l h).lookup ("most" : Str) = some h := by
  rw [← lf_put, lookup_putF, if_pos rfl]
theorem lf_no {m : Str} (h1 : ¬ m = "marks") (h2 : ¬ m = "rule") (h3 : ¬ m = "least") (h4 : ¬ m = "most") : (lf T r l h).lookup m = none := by
  rw [← lf_put, lookup_putF, if_neg h4, lookup_putF, if_neg h3, lookup_putF, if_neg h2, lookup_putF, if_neg h1] <;> rfl
end
/-- rows that rise -/
def RiseQ (zs : List Q2) : Prop := ∀ i a b, zs[i]? = some a → zs[i + 1]? = some b → ltq a b = true
def leq (a b : Q2) : Bool := ltq a b || eqq a b
/-- least isn't above most -/
def spanB : Option Q2 → Option Q2 → Bool
  | some a, some b => !ltq b a
  | _, _ => true
def IsRule (r : Str) : Prop := r = "up" ∨ r = "down" ∨ r = "near"
structure LadAt (K : PySem.W.Frag) (CM CL : Addr) (H : Hp) (p : Addr) (k : Nat) (zs : List Q2) (r : Str) (lo hi : Option Q2) : Prop where
  ob : ∃ dx T ps l h, H p = some (.ins CL dx (lf (.ref T) r l h)) ∧ SqT K H T ps ∧ Mks CM H k ps zs ∧ QO CM H k l lo ∧ QO CM H k h hi
  len0 : 0 < zs.length
  len1 : zs.length ≤ 24
  rise : RiseQ zs
  rule : IsRule r
  span : spanB lo hi = true
theorem LadAt.same {K : PySem.W.Frag} {CM CL p : Addr} {H H' : Hp} {k : Nat} {zs : List Q2} {r : Str} {lo hi : Option Q2} (a : LadAt K CM CL H p k zs r lo hi) (s : Same H H') : LadAt K CM CL H' p k zs r lo hi := by
  obtain ⟨⟨dx, T, ps, l, h, h1, h2, h3, h4, h5⟩, a1, a2, a3, a4, a5⟩ := a
  exact ⟨⟨dx, T, ps, l, h, s _ _ h1, s.sqt h2, h3.same s, h4.same s, h5.same s⟩, a1, a2, a3, a4, a5⟩
theorem LadAt.raw {K : PySem.W.Frag} {CM CL p : Addr} {H : Hp} {k : Nat} {zs : List Q2} {r : Str} {lo hi : Option Q2} (a : LadAt K CM CL H p k zs r lo hi) {m : Str} (h1 : ¬ m = "marks") (h2 : ¬ m = "rule") (h3 : ¬ m = "least") (h4 : ¬ m = "most") : ∃ dx fs, H p = some (.ins CL dx fs) ∧ fs.lookup m = none := by
  obtain ⟨⟨dx, T, ps, l, h, e1, _⟩, _⟩ := a
  exact ⟨dx, _, e1, lf_no _ _ _ _ h1 h2 h3 h4⟩
/-- the midsts of neighbours -/
def midq : List Q2 → List Q2
  | a :: b :: r => qhalf a b :: midq (b :: r)
  | _ => []
def sizeR (zs : List Q2) (r : Str) (x : Q2) : Int :=
  if r = "up" then (zs.countP (fun a => ltq a x) : Nat) else if r = "down" then (zs.countP (fun a => leq a x) : Nat) - 1 else ((midq zs).countP (fun a => leq a x) : Nat)
def loOk : Option Q2 → Q2 → Bool
  | none, _ => true
  | some a, x => !ltq x a
def hiOk : Option Q2 → Q2 → Bool
  | none, _ => true
  | some b, x => !ltq b x
def inO (lo hi : Option Q2) (x : Q2) : Bool := loOk lo x && hiOk hi x
def sizeQ (zs : List Q2) (r : Str) (lo hi : Option Q2) (x : Q2) : Option Nat :=
  if inO lo hi x = true then (if 0 ≤ sizeR zs r x ∧ sizeR zs r x < zs.length then some (sizeR zs r x).toNat else none) else none
theorem atI_of {xs : List V} {z : Int} {n : Nat} {v : V} (e : z = (n : Int)) (h : xs[n]? = some v) : atI xs z = some v := by
  rw [e]; exact atI_nat h
/-! ### what the defs of ladders promise -/
theorem iteDT {c A B : Prop} [Decidable c] (hc : c) (h : A) : if decide c = true then A else B := by
  rw [if_pos (decide_eq_true hc)]; exact h
theorem iteDF {c A B : Prop} [Decidable c] (hc : ¬ c) (h : B) : if decide c = true then A else B := by
  rw [if_neg (by simpa using hc)]; exact h
theorem iteNT {c A B : Prop} [Decidable c] (hc : ¬ c) (h : A) : if (!decide c) = true then A else B := by
  rw [if_pos (by simpa using hc)]; exact h
section
variable {C H p k} {m : Str} {R : Prop}
theorem meth_q {x : Q2} (q : QAt C H p k x) (h1 : ¬ m = "top") (h2 : ¬ m = "bottom") (h : R) : ∃ a dx fs, V.ref p = .ref a ∧ H a = some (.ins C dx fs) ∧ fs.lookup m = none ∧ R := by
  obtain ⟨dx, fs, e1, e2⟩ := q.raw h1 h2
  exact ⟨p, dx, fs, rfl, e1, e2, h⟩
theorem meth_l {K : PySem.W.Frag} {CM : Addr} {zs : List Q2} {r : Str} {lo hi : Option Q2} (q : LadAt K CM C H p k zs r lo hi) (h1 : ¬ m = "marks") (h2 : ¬ m = "rule") (h3 : ¬ m = "least") (h4 : ¬ m = "most") (h : R) : ∃ a dx fs, V.ref p = .ref a ∧ H a = some (.ins C dx fs) ∧ fs.lookup m = none ∧ R := by
  obtain ⟨dx, fs, e1, e2⟩ := q.raw h1 h2 h3 h4
  exact ⟨p, dx, fs, rfl, e1, e2, h⟩
theorem meth_s {CM : Addr} {lo hi : Option Q2} {li hj : Bool} (q : StAt CM C H p lo hi li hj) (h1 : ¬ m = "low") (h2 : ¬ m = "high") (h3 : ¬ m = "low_in") (h4 : ¬ m = "high_in") (h : R) : ∃ a dx fs, V.ref p = .ref a ∧ H a = some (.ins C dx fs) ∧ fs.lookup m = none ∧ R := by
  obtain ⟨dx, fs, e1, e2⟩ := q.raw h1 h2 h3 h4
  exact ⟨p, dx, fs, rfl, e1, e2, h⟩
end
end My
namespace My
open PySem PySem.Spec PyProof.Rows L2
/-! ### enumerate of a tuple -/
section
variable {X : Cx}
/-! ### len of an own object -/
end
/-! ### max and min with a default -/
section
variable {X : Cx} {K : PySem.W.Frag}
/-! ### xs[::k] -/
end
theorem logS {m : Int} (h : m.natAbs < 2 ^ 60) : m.natAbs.log2 < 9000 := Nat.lt_of_lt_of_le (PySem.Flt.log2_lt_of (by decide) h) (by decide)
theorem szl {n : Nat} (h : n ≤ 1000) : n ≤ sizeLine := Nat.le_trans h (by decide)
theorem szb {n : Nat} (h : Nat.ble n 1000 = true) : n ≤ sizeLine := szl (Nat.le_of_ble_eq_true h)
theorem szs {n : Nat} (h : n < 1000) : n < sizeLine := Nat.lt_of_lt_of_le h (by decide)
/-! ### draws -/
end My
namespace My
open PySem PySem.Spec PyProof.Rows L2
theorem Kp.fresh {h l : Addr} {H H1 : Hp} (k : Kp h H H1) (hn : H1 l = none) (ne : l ≠ h) : H l = none := by
  cases e : H l with
  | none => rfl
  | some o => rw [k l o e ne] at hn; cases hn
theorem geI {n : Nat} {zs : List Int} (h : n < zs.length) : ∃ a, zs[n]? = some a := ⟨_, List.getElem?_eq_getElem h⟩
def optZ : Option Int → V
  | none => .non
  | some z => .int z
/-- a ladder in whole parts, as the laws draw it -/
structure LawL (H : Hp) (p : Addr) (part : Int) (ms : List Int) (r : Str) (lo hi : Option Int) : Prop where
  ob : ∃ T, H p = some (.tup [.int part, .ref T, .str r, optZ lo, optZ hi]) ∧ H T = some (.tup (ms.map V.int))
  p0 : 0 < part
  p1 : part ≤ 10007
  len0 : 0 < ms.length
  len1 : ms.length ≤ 24
  rise : ∀ (i : Nat) (a b : Int), ms[i]? = some a → ms[i + 1]? = some b → a < b
  four : ∀ m ∈ ms, m % 4 = 0
  bnd : ∀ m ∈ ms, -4000000 ≤ m ∧ m ≤ 4000000
  blo : ∀ z, lo = some z → -4000040 ≤ z ∧ z ≤ 4000040
  bhi : ∀ z, hi = some z → -4000040 ≤ z ∧ z ≤ 4000040
  rule : IsRule r
  span : ∀ a b, lo = some a → hi = some b → a ≤ b
section
variable {H H' : Hp} {p : Addr} {part : Int} {ms : List Int} {r : Str} {lo hi : Option Int}
theorem LawL.same (a : LawL H p part ms r lo hi) (s : Same H H') : LawL H' p part ms r lo hi := by
  obtain ⟨⟨T, h1, h2⟩, a1⟩ := a
  exact ⟨⟨T, s _ _ h1, s _ _ h2⟩, by assumption, by assumption, by assumption, by assumption, by assumption, by assumption, by assumption, by assumption, by assumption, by assumption, by assumption⟩
/-- the parts as fractions -/
def zq (d : Int) (ms : List Int) : List Q2 := ms.map fun m => (m, d)
def oq (d : Int) (o : Option Int) : Option Q2 := o.map fun m => (m, d)
end
/-- whole numbers within a bound -/
def IntsB (B : Int) (xs : List V) : Prop := ∀ x ∈ xs, ∃ z : Int, x = .int z ∧ -B ≤ z ∧ z ≤ B
theorem IntsB.app {B : Int} {xs ys : List V} (a : IntsB B xs) (b : IntsB B ys) : IntsB B (xs ++ ys) := fun x h => by
  rcases List.mem_append.mp h with h | h
  · exact a x h
  · exact b x h
theorem IntsB.mono {B B' : Int} {xs : List V} (a : IntsB B xs) (l : B ≤ B') : IntsB B' xs := fun x h => by
  obtain ⟨z, e, h1, h2⟩ := a x h
  exact ⟨z, e, by omega, by omega⟩
theorem IntsB.ints {B : Int} : ∀ {xs : List V}, IntsB B xs → ∃ ys : List Int, xs = ys.map V.int ∧ ∀ y ∈ ys, -B ≤ y ∧ y ≤ B
  | [], _ => ⟨[], rfl, fun y h => by simp at h⟩
  | x :: xs, a => by
    obtain ⟨z, rfl, h1⟩ := a x (by simp)
    obtain ⟨ys, e, h2⟩ := IntsB.ints (xs := xs) fun w hw => a w (by simp [hw])
    refine ⟨z :: ys, by rw [e]; rfl, fun y hy => ?_⟩
    rcases List.mem_cons.mp hy with e | e
    · rw [e]; exact h1
    · exact h2 y e
theorem IntsB.of {B : Int} {ms : List Int} (h : ∀ m ∈ ms, -B ≤ m ∧ m ≤ B) : IntsB B (ms.map V.int) := fun x hx => by
  obtain ⟨m, hm, rfl⟩ := List.mem_map.mp hx
  exact ⟨m, rfl, h m hm⟩
/-! ### sizes by whole numbers -/
abbrev RiseI (ms : List Int) : Prop := ∀ (i : Nat) (a b : Int), ms[i]? = some a → ms[i + 1]? = some b → a < b
theorem RiseI.tail {x : Int} {ms : List Int} (h : RiseI (x :: ms)) : RiseI ms := fun i a b h1 h2 => h (i + 1) a b (by simpa using h1) (by simpa using h2)
theorem RiseI.head : ∀ {ms : List Int} {x : Int}, RiseI (x :: ms) → ∀ m ∈ ms, x < m
  | [], _, _, m, hm => by simp at hm
  | y :: ms, x, h, m, hm => by
    have h0 : x < y := h 0 x y rfl rfl
    rcases List.mem_cons.mp hm with e | e
    · rw [e]; exact h0
    · have := RiseI.head h.tail m e
      omega
theorem RiseI.lt {ms : List Int} (h : RiseI ms) : ∀ {j : Nat} {i : Nat} {a b : Int}, i < j → ms[i]? = some a → ms[j]? = some b → a < b
  | 0, _, _, _, hi, _, _ => by omega
  | j + 1, i, a, b, hi, ha, hb => by
    obtain ⟨c, hc⟩ := geI (zs := ms) (n := j) (by have := (List.getElem?_eq_some_iff.mp hb).1; omega)
    have h1 := h j c b hc hb
    by_cases e : i = j
    · subst e
      rw [ha] at hc
      cases hc
      exact h1
    · have := RiseI.lt h (show i < j by omega) ha hc
      omega
section
variable {ms : List Int} {d z : Int} {lo hi : Option Q2}
end
/-! ### what the laws' own defs promise -/
end My
namespace My
open PySem PySem.Spec PyProof.Rows L2
/-! ### the stretches of a ladder's sizes -/
section
variable {X : Cx} {K : PySem.W.Frag}
end
def endQ (zs : List Q2) (i : Int) : Option Q2 := if 0 ≤ i ∧ i < zs.length then zs[i.toNat]? else none
/-- both ends of a size by the rule alone, and whether they are in -/
def rulE (zs : List Q2) (r : Str) (n : Nat) : (Option Q2 × Bool) × (Option Q2 × Bool) :=
  if r = "up" then ((endQ zs ((n : Int) - 1), false), (zs[n]?, true)) else if r = "down" then ((zs[n]?, true), (endQ zs ((n : Int) + 1), false)) else ((endQ (midq zs) ((n : Int) - 1), true), (endQ (midq zs) n, false))
/-- a Stretch whose ends are these fractions -/
def StQ (CM CS : Addr) (H : Hp) (p : Addr) (x y : Option Q2 × Bool) : Prop := ∃ lo hi, StAt CM CS H p lo hi (x.2 && x.1.isSome) (y.2 && y.1.isSome) ∧ ReO lo x.1 ∧ ReO hi y.1
theorem StQ.same {CM CS p : Addr} {H H' : Hp} {x y : Option Q2 × Bool} (a : StQ CM CS H p x y) (s : Same H H') : StQ CM CS H' p x y := by
  obtain ⟨lo, hi, h1, h2, h3⟩ := a
  exact ⟨lo, hi, h1.same s, h2, h3⟩
def CutQ (CM CS : Addr) (H : Hp) (v : V) (x y : Option Q2 × Bool) : Prop := ∃ x' y', CutV CM CS H v x' y' ∧ Alike x' x ∧ Alike y' y
theorem CutQ.same {CM CS : Addr} {H H' : Hp} {v : V} {x y : Option Q2 × Bool} (a : CutQ CM CS H v x y) (s : Same H H') : CutQ CM CS H' v x y := by
  obtain ⟨x', y', h1, h2, h3⟩ := a
  exact ⟨x', y', h1.same s, h2, h3⟩
/-- both ends of a size's stretch -/
def sizE (zs : List Q2) (r : Str) (lo hi : Option Q2) (n : Nat) : (Option Q2 × Bool) × (Option Q2 × Bool) :=
  (cutLo (rulE zs r n).1.1 (rulE zs r n).1.2 lo true, cutHi (rulE zs r n).2.1 (rulE zs r n).2.2 hi true)
/-! between neighbours there is something -/
end My
namespace My
open PySem PySem.Spec PyProof.Rows L2
/-! ### defs that are called where no text of a list or tuple is under way -/
structure FnG (P : Program) (w : World) (K : PySem.W.Frag) (mg : Str → Option Value) (base : Heap) (CX : CXT) (k : Nat) (f : Addr) (fd : FuncData) (ps : List Str) (sp : Sp) : Prop where
  lenG : ∀ vs H Q E, sp vs H Q E → vs.length = ps.length
  runG : ∀ (A : Around) (outer : List Env) (s : Shared) (H : Hp) (args : Args) (us : List Value) (vs : List V) (Q : VK) (E : XK), Room k A → A.guards = some [] → Env0 P w K mg base A outer s H → BindsTo s fd args (ps.zip us) → Vals vs us → sp vs H Q E →
    codeAny (model P w) A (.call (.ref f) args) (CR CX outer P w H s Q E) s
section
variable {P : Program} {w : World} {K : PySem.W.Frag} {mg : Str → Option Value} {base : Heap} {x qual : Str} {params : Arguments} {body : List Stmt} {scope : Scope} {dvs : List V} {kws : List (Str × V)} {f : Addr} {fd : FuncData}
theorem okG {CX : CXT} {N ps : List Str} {k : Nat} {sp : Sp} (F : FunD K x qual params body scope dvs kws f fd) (S : FnScope N ps scope) (hlen : ∀ vs H Q E, sp vs H Q E → vs.length = ps.length)
    (hbody : ∀ (cdv : Value) (A : Around) (outer : List Env) (s : Shared) (H : Hp) (vs : List V) (Q : VK) (E : XK), Room k (A.deeper (envOfC qual scope s.heap.objs.size f cdv)) → A.guards = some [] → sp vs H Q E →
      ∃ t, PSs (cxOf CX P w K mg base N qual scope f cdv A outer s H E) body t ∧ t { nx := fun _ H' => Q .non H', rt := Q } (start N vs) H) : FnG P w K mg base CX (k + 1) f fd ps sp := by
  obtain ⟨oc, od, dV, kV, doc, pm, an, cdv, ct, osl, rfl, lk, hcd, _, _⟩ := F.ex
  refine ⟨hlen, fun A outer s H args us vs Q E room gd en bd rl hs => ?_⟩
  have lv := hlen _ _ _ _ hs
  have kin : K.In s.heap := en.mod.kin.keeps fun b o q => (en.bs b o q).1
  have noL : s.heap.NoLimit := en.mod.nolimit.keeps fun b o q => (en.bs b o q).1
  have kinds : ∀ y ∈ ps.zip us, scope.names.lookup y.1 = some .local ∨ (scope.names.lookup y.1 = some .cell ∧ ((cellsFrom (s.heap.objs.size + 1) scope.names []).lookup y.1).isSome = true) := fun ⟨n, v⟩ hy => by
    rcases S.par n (List.of_mem_zip hy).1 with q | q
    · exact .inl q
    · exact .inr ⟨q, PySem.W.cellsFrom_some _ _ _ (.inl q)⟩
  refine codeAny_call_function room.depth (kin _ _ lk) rfl S.co S.gen rfl (PySem.W.codeRec_of kin hcd) (bd _ _ _ _ ?_)
  refine wpAny_newFunctionEnv_cells S.kind kinds fun env ee s1 ic => ?_
  subst ee
  refine ⟨noL.keeps ic.toInCall.keep, codeAny_func ?_⟩
  obtain ⟨t, ht, hq⟩ := hbody cdv A outer s H vs Q E (room.deeper _) gd hs
  have J0 : Inv (cxOf CX P w K mg base N qual scope f cdv A outer s H E) [] (start N vs) H s1 := inv_start S room.hd en lv rl ic
  refine wpAny_mono (ht.run [] s1 (start N vs) H _ J0 hq) (fun fl s' hz => ?_) fun e s' hz => hz
  cases fl with
  | ret u =>
    obtain ⟨v, σ', H', J, rv, q⟩ := hz
    exact ⟨v, H', J.os, J.bare, J.base, J.hok, rv, q⟩
  | next =>
    obtain ⟨σ', H', J, q⟩ := hz
    exact ⟨V.non, H', J.os, J.bare, J.base, J.hok, rfl, q⟩
  | brk =>
    obtain ⟨_, _, _, q⟩ := hz
    exact False.elim q
  | cont =>
    obtain ⟨_, _, _, q⟩ := hz
    exact False.elim q
end
section
variable {X : Cx} {CX : CXT} {k : Nat} {f : Addr} {fd : FuncData} {ps : List Str} {sp : Sp} {dvs : List V} {ds : List Value} {E : XK} {x : Str} {p pos : Pos} {e : Expr} {es : List Expr} {t : TA}
theorem pe_callG (F : FnG X.prog X.w X.K X.mg X.base CX k f fd ps sp) (gd : X.A.guards = some []) (hr : Room k X.A) (hg : Gl X x) (hm : X.mg x = some (.ref f)) (hk : PySem.W.keepIn X.K (.ref f) = true) (hb : Binds X.K fd ps ds) (hd : Vals dvs ds) (hx : Passes CX X E)
    (ha : PA X (e :: es) t) (hdb : (x == ("__debug__" : Str)) = false := by decide) (he : starEach (e :: es) X.env = (false, eval e X.env) :: starEach es X.env := by rfl) (hpl : (backTo pos (starEach es X.env)).any (·.1) = false := by rfl) :
    PE X (.Call (.Name x p) (e :: es) [] pos) (tCall sp dvs E t) := by
  refine ⟨fun pins s σ H Q I hw => ?_⟩
  refine wpAny_Call_Name_kw (ld_glob I hg hm ?_ hdb)
  refine PySem.W.callWith_K (h₀ := X.base) I.ok.mod.kin hk (thn (ha.run pos pins s σ H _ I hw) fun us s1 ⟨vs, H1, I1, rl, q⟩ => ⟨I1.kIn, ?_⟩) he hpl
  have r2 : Vals (vs ++ dvs) (us ++ ds) := rl.append hd
  have hl : (us ++ ds).length = ps.length := by rw [← r2.length]; exact F.lenG _ _ _ _ q
  refine wpAny_call (codeAny_mono (F.runG X.A X.stack s1 H1 ⟨us, []⟩ (us ++ ds) (vs ++ dvs) Q E hr gd I1.env0 (hb s1 us I1.kIn hl) r2 q) fun rr s' hq => ?_)
  cases rr with
  | error e => exact hx pins σ H1 s1 e s' I1 hq
  | ok fl =>
    cases fl with
    | ret u => exact I1.after hq
    | next => exact False.elim hq
    | brk => exact False.elim hq
    | cont => exact False.elim hq
end
/-! ### the law is called where none is under way -/
theorem law_G {P : Program} {w : World} {K : PySem.W.Frag} {mg mb : Str → Option Value} {CX : CXT} {k : Nat} {fa a : Addr} {fd : FuncData} {x : Str} {sp : Sp} {s1 : Shared} {vs : List Value} {ns : List Int}
    (kin : K.In s1.heap) (hns : s1.heap.Ns mainGlobals mg) (hb : s1.heap.Ns builtinsNs mb) (hbb : ∀ y : Str, y ≠ "__name__" → mb y = bootBuiltins y) (hlim : s1.heap.NoLimit) (hgen : s1.gens = #[])
    (ha : s1.heap.get? a = some { cls := .type "list", data := .seq vs.toArray }) (hi : IntsAre vs ns) (hl : ns.length ≤ sizeLine) (hr : Room k callerA)
    (F : ∀ base : Heap, K.In base → base.Ns mainGlobals mg → FnG P w K mg base CX k fa fd [x] sp) (hbind : ∀ (s : Shared) (u : Value), BindsTo s fd ⟨[u], []⟩ [(x, u)])
    (hsp : ∀ H : Hp, Only H → SqL K H a (ns.map V.int) → sp [.ref a] H (fun v _ => v = .bl true) fun _ _ _ => False)
    (hCX : ∀ H e s', CX [] H s1 (fun _ _ _ => False) e s' → False) :
    codeAny (model P w) callerA (.call (.ref fa) ⟨[.ref a], []⟩) (fun r s' => r = .ok (.ret (.bool true)) ∧ OldK s1.heap s'.heap ∧ s'.os = s1.os ∧ AllBare s'.gens) s1 := by
  have rv := vals_ints hi
  have lenV := hi.length
  have core : ∀ H : Hp, Only H → SqL K H a (ns.map V.int) → HOk P w H s1.heap → (∀ b, H b ≠ none → b = a) → (H a ≠ none → K.lookup a = none) →
      codeAny (model P w) callerA (.call (.ref fa) ⟨[.ref a], []⟩) (fun r s' => r = .ok (.ret (.bool true)) ∧ OldK s1.heap s'.heap ∧ s'.os = s1.os ∧ AllBare s'.gens) s1 := by
    intro H only seq hok one free
    have inB : ∀ {b : Addr} {o : Obj}, s1.heap.get? b = some o → H b = none → (hidT s1.heap H).get? b = some o := fun q n => hidT_get q n
    have apart : ∀ {b : Addr} {o : Obj} {es : Array DictEntry} {ep : Nat}, s1.heap.get? b = some o → o.data = .dict es ep → H b = none := fun {b o es ep} q dd => by
      cases z : H b with
      | none => rfl
      | some u =>
        have eb : b = a := one b (by rw [z]; simp)
        subst eb
        rw [ha] at q; cases q
        have d' : Data.seq vs.toArray _ = Data.dict es ep := dd
        cases d'
    have nsB : ∀ {b : Addr} {m : Str → Option Value}, s1.heap.Ns b m → (hidT s1.heap H).Ns b m := fun {b m} ⟨o, es, ep, q, dd, r⟩ => ⟨o, es, ep, inB q (apart q dd), dd, r⟩
    have kinB : K.In (hidT s1.heap H) := fun b o q => inB (kin b o q) (by
      cases z : H b with
      | none => rfl
      | some u =>
        have eb : b = a := one b (by rw [z]; simp)
        subst eb
        rw [free (by rw [z]; simp)] at q; cases q)
    have md : Mod K mg (hidT s1.heap H) := ⟨kinB, nsB hns, ⟨mb, nsB hb, hbb⟩, let ⟨mc, h1, h2⟩ := hlim; ⟨mc, nsB h1, h2⟩⟩
    have en : Env0 P w K mg (hidT s1.heap H) callerA [] s1 H := ⟨rfl, md, fun b o q => of_hidT q, Nat.le_of_eq (hidT_size _ _), trivial, fun b hb => absurd (show b ∈ ([] : List Addr) from hb) (by simp), hok, .of_eq hgen⟩
    refine codeAny_mono ((F _ kinB (nsB hns)).runG callerA [] s1 H ⟨[.ref a], []⟩ [.ref a] [.ref a] _ _ hr rfl en (hbind s1 (.ref a)) (.cons rfl .nil) (hsp H only seq)) fun r s' h => ?_
    cases r with
    | error e => exact (hCX H e s' h).elim
    | ok fl =>
      cases fl with
      | next => exact False.elim h
      | brk => exact False.elim h
      | cont => exact False.elim h
      | ret u =>
        obtain ⟨v, H', os, bare, un, hok', r', q⟩ := h
        cases (show v = .bl true from q)
        cases (show u = Value.bool true from r')
        refine ⟨rfl, OldK.of_keep fun b o eo => ?_, os, bare⟩
        cases z : H b with
        | none => exact un.keep b o eo z (fun y => absurd (show b ∈ ([] : List Addr) from y) (by simp)) (by simp)
        | some u =>
          rcases only b with y | ⟨ob, xs, y⟩
          · rw [z] at y; cases y
          · obtain ⟨e1, _⟩ := hok b _ y
            obtain ⟨e2, _⟩ := hok' b _ (un.frzs b ob _ y)
            rw [eo] at e1; cases e1
            exact e2
  cases hk : K.lookup a with
  | some o =>
    have eo := kin a o hk
    rw [ha] at eo
    cases eo
    exact core (fun _ => none) (fun _ => .inl rfl) (.inr ⟨_, vs.toArray, _, hk, rfl, rfl, rfl, by rw [List.size_toArray, lenV]; exact hl, by simpa using rv⟩) (fun b u z => nomatch (show (none : Option HO) = some u from z)) (fun b z => absurd rfl z) fun z => absurd rfl z
  | none =>
    refine core (fun b => if b = a then some (.frz { cls := .type "list", data := .seq vs.toArray } (.lst (ns.map V.int))) else none) (fun b => ?_) (.inl (.inr ⟨{ cls := .type "list", data := .seq vs.toArray }, if_pos rfl⟩)) (fun b u z => ?_) (fun b z => ?_) fun _ => hk
    · by_cases eb : b = a
      · exact .inr ⟨_, _, if_pos eb⟩
      · exact .inl (if_neg eb)
    · by_cases eb : b = a
      · have y := (if_pos eb).symm.trans z
        cases y
        subst eb
        exact ⟨ha, by rw [List.length_map]; exact hl, vs, _, rv, ha⟩
      · have y := (if_neg eb).symm.trans z
        cases y
    · by_cases eb : b = a
      · exact eb
      · exact absurd (if_neg eb) z
theorem walk_G {l : PySem.W.OpenLaw} {n k : Nat} {q : Program} {loose : List Str} {XP : (Str → Option Value) → Heap → Prop} {YP : World → Heap → Prop} {d : DefRec} {CX : CXT} {x : Str}
    (hn : l.most = some n) (hn2 : n ≤ sizeLine) (hdf : d.params.defaults = []) (hr : Room k callerA)
    (F : ∀ (w : World) (mg : Str → Option Value) (fa : Addr) (h : Heap), YP w h → h.Ns mainGlobals mg → mg d.name = some (.ref fa) →
      ∃ (K : PySem.W.Frag) (fd : FuncData) (sp : Sp), K.In h ∧ (∀ (s : Shared) (u : Value), BindsTo s fd ⟨[u], []⟩ [(x, u)]) ∧
        (∀ (H : Hp) (a : Addr) (ns : List Int), ns.length ≤ n → Only H → SqL K H a (ns.map V.int) → sp [.ref a] H (fun v _ => v = .bl true) fun _ _ _ => False) ∧
        ∀ base : Heap, K.In base → base.Ns mainGlobals mg → FnG l.prog w K mg base CX k fa fd [x] sp)
    (hCX : ∀ (H : Hp) (s : Shared) (e : Value) (s' : Shared), CX [] H s (fun _ _ _ => False) e s' → False) :
    PySem.W.WalkO q loose XP YP l.row.toRowW d [] (fun f vs => PySem.call f vs) := by
  refine Att.attach_call hn hdf fun w s₀ s1 mg mb fa o pm cd doc a vs ns G Y ho hd hcd hmg hobj hints hlen hgen => ?_
  obtain ⟨K, fd, sp, KX, hb, hsp, hF⟩ := F w mg fa _ Y G.T.g hmg
  exact law_G KX G.T.g G.T.b G.T.builtins G.T.nolimit hgen hobj hints (Nat.le_trans hlen hn2) hr hF hb (fun H hO hS => hsp H a ns hlen hO hS) fun H e s' => hCX H s1 e s'
end My
namespace My
open PySem PySem.Spec PyProof.Rows L2
/-! ### tuples: sums and slices, whatever their lengths -/
section
variable {X : Cx} {K : PySem.W.Frag}
end
theorem Mks.cut {C : Addr} {H : Hp} {k : Nat} {ps : List V} {zs : List Q2} (m : Mks C H k ps zs) (n : Nat) : Mks C H k (ps.take n ++ ps.drop (n + 1)) (zs.take n ++ zs.drop (n + 1)) := by
  have l := m.len
  refine ⟨by simp only [List.length_append, List.length_take, List.length_drop]; omega, fun i v z h1 h2 => ?_⟩
  by_cases hi : i < n ∧ i < ps.length
  · rw [List.getElem?_append_left (by rw [List.length_take]; omega), List.getElem?_take_of_lt hi.1] at h1
    rw [List.getElem?_append_left (by rw [List.length_take]; omega), List.getElem?_take_of_lt hi.1] at h2
    exact m.all i v z h1 h2
  · rw [List.getElem?_append_right (by rw [List.length_take]; omega), List.getElem?_drop] at h1
    rw [List.getElem?_append_right (by rw [List.length_take]; omega), List.getElem?_drop] at h2
    have e : (ps.take n).length = (zs.take n).length := by rw [List.length_take, List.length_take, l]
    rw [e] at h1
    exact m.all _ v z h1 h2
/-! ### rows, as the laws draw them -/
structure RowsL (H : Hp) (p : Addr) (part : Int) (ts : List Int) : Prop where
  ob : ∃ T, H p = some (.tup [.int part, .ref T]) ∧ H T = some (.tup (ts.map V.int))
  p0 : 0 < part
  p1 : part ≤ 10007
  len0 : 0 < ts.length
  len1 : ts.length ≤ 24
  bnd : ∀ t ∈ ts, -2000000 ≤ t ∧ t ≤ 2000000
theorem RowsL.same {H H' : Hp} {p : Addr} {part : Int} {ts : List Int} (a : RowsL H p part ts) (s : Same H H') : RowsL H' p part ts := by
  obtain ⟨⟨T, h1, h2⟩, a1, a2, a3, a4, a5⟩ := a
  exact ⟨⟨T, s _ _ h1, s _ _ h2⟩, a1, a2, a3, a4, a5⟩
/-! ### tuples of whole numbers as data -/
def intsD (zs : List Int) : PyData := .tuple (zs.map PyData.int)
theorem dpI {K : PySem.W.Frag} {H : Hp} : ∀ zs : List Int, DpAll K H (zs.map V.int) (zs.map PyData.int)
  | [] => .nil
  | z :: zs => .cons (.int z) (dpI zs)
theorem dpT {K : PySem.W.Frag} {H : Hp} {p : Addr} {zs : List Int} (h : H p = some (.tup (zs.map V.int))) : Dp K H (.ref p) (intsD zs) := .tup (SqT.of h) (dpI zs)
end My
namespace My
open PySem PySem.Spec PyProof.Rows L2
/-! ### a list or a tuple, walked -/
section
variable {X : Cx} {tg : Expr}
end
/-- a def that calls itself, ahead of its own promise -/
theorem fn_never {P : Program} {w : World} {K : PySem.W.Frag} {mg : Str → Option Value} {base : Heap} {CX : CXT} {k : Nat} {f : Addr} {fd : FuncData} {ps : List Str} : FnOk P w K mg base CX k f fd ps (fun _ _ _ _ => False) :=
  ⟨fun _ _ _ _ h => h.elim, fun _ _ _ _ _ _ _ _ _ _ _ _ _ h => h.elim⟩
/-! ### fractions as pairs of whole numbers -/
def TQ (H : Hp) (v : V) (k : Nat) (z : Q2) : Prop := ∃ p, v = .ref p ∧ H p = some (.tup [.int z.1, .int z.2]) ∧ 0 < z.2 ∧ Sz k z.1 ∧ Sz k z.2
section
variable {H H' : Hp} {v : V} {k j : Nat} {z : Q2}
theorem TQ.same (a : TQ H v k z) (s : Same H H') : TQ H' v k z := by
  obtain ⟨p, h1, h2, h3⟩ := a
  exact ⟨p, h1, s _ _ h2, h3⟩
theorem TQ.nl (a : TQ H v k z) (s : Nl H H') : TQ H' v k z := by
  obtain ⟨p, h1, h2, h3⟩ := a
  exact ⟨p, h1, s _ _ h2 rfl, h3⟩
theorem TQ.kp {h : Addr} {n : Nat} (a : TQ H v k z) (hh : HandAt H h n) (s : Kp h H H') : TQ H' v k z := by
  obtain ⟨p, h1, h2, h3⟩ := a
  exact ⟨p, h1, s.get hh h2 rfl, h3⟩
theorem TQ.mono (a : TQ H v k z) (l : k ≤ j) : TQ H v j z := by
  obtain ⟨p, h1, h2, h3, h4, h5⟩ := a
  exact ⟨p, h1, h2, h3, h4.mono l, h5.mono l⟩
theorem TQ.pos (a : TQ H v k z) : 0 < z.2 := by
  obtain ⟨p, h1, h2, h3, h4, h5⟩ := a
  exact h3
theorem TQ.mk {p : Addr} {a b : Int} (h : H p = some (.tup [.int a, .int b])) (hb : 0 < b) (s1 : Sz k a) (s2 : Sz k b) : TQ H (.ref p) k (a, b) := ⟨p, rfl, h, hb, s1, s2⟩
end
structure Tqs (H : Hp) (k : Nat) (vs : List V) (zs : List Q2) : Prop where
  len : vs.length = zs.length
  all : ∀ (i : Nat) (v : V) (z : Q2), vs[i]? = some v → zs[i]? = some z → TQ H v k z
section
variable {H H' : Hp} {k j : Nat} {vs : List V} {zs : List Q2}
theorem Tqs.same (m : Tqs H k vs zs) (s : Same H H') : Tqs H' k vs zs := ⟨m.len, fun i v z h1 h2 => (m.all i v z h1 h2).same s⟩
theorem Tqs.nl (m : Tqs H k vs zs) (s : Nl H H') : Tqs H' k vs zs := ⟨m.len, fun i v z h1 h2 => (m.all i v z h1 h2).nl s⟩
theorem Tqs.kp {h : Addr} {n : Nat} (m : Tqs H k vs zs) (hh : HandAt H h n) (s : Kp h H H') : Tqs H' k vs zs := ⟨m.len, fun i v z h1 h2 => (m.all i v z h1 h2).kp hh s⟩
theorem Tqs.mono (m : Tqs H k vs zs) (l : k ≤ j) : Tqs H j vs zs := ⟨m.len, fun i v z h1 h2 => (m.all i v z h1 h2).mono l⟩
theorem Tqs.at (m : Tqs H k vs zs) {i : Nat} {z : Q2} (h : zs[i]? = some z) : ∃ v, vs[i]? = some v ∧ TQ H v k z := by
  have hi : i < vs.length := by rw [m.len]; exact (List.getElem?_eq_some_iff.mp h).1
  exact ⟨_, List.getElem?_eq_getElem hi, m.all i _ z (List.getElem?_eq_getElem hi) h⟩
theorem Tqs.of (m : Tqs H k vs zs) {i : Nat} {v : V} (h : vs[i]? = some v) : ∃ z, zs[i]? = some z ∧ TQ H v k z := by
  have hi : i < zs.length := by rw [← m.len]; exact (List.getElem?_eq_some_iff.mp h).1
  exact ⟨_, List.getElem?_eq_getElem hi, m.all i v _ h (List.getElem?_eq_getElem hi)⟩
theorem Tqs.snoc (m : Tqs H k vs zs) {v : V} {z : Q2} (t : TQ H v k z) : Tqs H k (vs ++ [v]) (zs ++ [z]) := by
  refine ⟨by rw [List.length_append, List.length_append, m.len]; rfl, fun i w y h1 h2 => ?_⟩
  by_cases hi : i < vs.length
  · rw [List.getElem?_append_left hi] at h1
    rw [List.getElem?_append_left (by rw [← m.len]; exact hi)] at h2
    exact m.all i w y h1 h2
  · have l1 := (List.getElem?_eq_some_iff.mp h1).1
    rw [List.length_append, List.length_singleton] at l1
    have e : i = vs.length := by omega
    rw [e, List.getElem?_append_right (Nat.le_refl _), Nat.sub_self] at h1
    rw [e, m.len, List.getElem?_append_right (Nat.le_refl _), Nat.sub_self] at h2
    cases h1; cases h2
    exact t
theorem Tqs.one {v : V} {z : Q2} (t : TQ H v k z) : Tqs H k [v] [z] := (⟨rfl, fun i w y h1 => by simp at h1⟩ : Tqs H k [] []).snoc t
theorem Tqs.cons (m : Tqs H k vs zs) {v : V} {z : Q2} (t : TQ H v k z) : Tqs H k (v :: vs) (z :: zs) := by
  refine ⟨by rw [List.length_cons, List.length_cons, m.len], fun i w y h1 h2 => ?_⟩
  cases i with
  | zero => cases h1; cases h2; exact t
  | succ i => exact m.all i w y (by simpa using h1) (by simpa using h2)
theorem Tqs.nil : Tqs H k [] [] := ⟨rfl, fun i w y h1 => by simp at h1⟩
theorem Mks.mono {C : Addr} {ps : List V} (m : Mks C H k ps zs) (l : k ≤ j) : Mks C H j ps zs := ⟨m.len, fun i v z h1 h2 => by
  obtain ⟨p, e, q⟩ := m.all i v z h1 h2
  exact ⟨p, e, q.mono l⟩⟩
theorem QO.mono {C : Addr} {v : V} (l : k ≤ j) : ∀ {e : Option Q2}, QO C H k v e → QO C H j v e
  | none, h => h
  | some _, ⟨p, h1, h2⟩ => ⟨p, h1, h2.mono l⟩
end
theorem leq_not {a b : Q2} : leq a b = !ltq b a := by
  unfold leq ltq eqq
  rw [← Bool.decide_or, ← decide_not]
  exact decide_eq_decide.mpr ⟨fun h => by omega, fun h => by omega⟩
/-! ### what the defs of pairs promise -/
/-- None, or a pair -/
def TOq (H : Hp) (k : Nat) (v : V) : Option Q2 → Prop
  | none => v = .non
  | some z => TQ H v k z
theorem TOq.same {H H' : Hp} {k : Nat} {v : V} : ∀ {e : Option Q2}, TOq H k v e → Same H H' → TOq H' k v e
  | none, h, _ => h
  | some _, h, s => TQ.same h s
theorem TOq.kp {H H' : Hp} {k n : Nat} {h : Addr} {v : V} : ∀ {e : Option Q2}, TOq H k v e → HandAt H h n → Kp h H H' → TOq H' k v e
  | none, h, _, _ => h
  | some _, h, hh, s => TQ.kp h hh s
theorem QO.nl {C : Addr} {H H' : Hp} {k : Nat} {v : V} (s : Nl H H') : ∀ {e : Option Q2}, QO C H k v e → QO C H' k v e
  | none, h => h
  | some _, ⟨p, h1, h2⟩ => ⟨p, h1, h2.nl s⟩
theorem sqt_kp {K : PySem.W.Frag} {H H' : Hp} {h a : Addr} {n : Nat} {xs : List V} (s : SqT K H a xs) (hh : HandAt H h n) (k : Kp h H H') : SqT K H' a xs := by
  rcases s with (s | ⟨o, s⟩) | s
  · exact .inl (.inl (k.get hh s rfl))
  · exact .inl (.inr ⟨o, k.get hh s rfl⟩)
  · exact .inr s
theorem LadAt.kp {K : PySem.W.Frag} {CM CL p h : Addr} {H H' : Hp} {k n : Nat} {zs : List Q2} {r : Str} {lo hi : Option Q2} (a : LadAt K CM CL H p k zs r lo hi) (hh : HandAt H h n) (s : Kp h H H') : LadAt K CM CL H' p k zs r lo hi := by
  obtain ⟨⟨dx, T, ps, l, u, h1, h2, h3, h4, h5⟩, a1, a2, a3, a4, a5⟩ := a
  exact ⟨⟨dx, T, ps, l, u, s.get hh h1 rfl, sqt_kp h2 hh s, h3.kp hh s, h4.kp hh s, h5.kp hh s⟩, a1, a2, a3, a4, a5⟩
end My
namespace My
open PySem PySem.Spec PyProof.Rows L2
/-! ### comprehensions that draw -/
/-! ### things that are the same, one within another -/
def AtomV (x : V) : Prop := (∃ z : Int, x = .int z) ∨ (∃ s : Str, x = .str s) ∨ x = .non ∨ ∃ b : Bool, x = .bl b
def SameV (K : PySem.W.Frag) (H : Hp) : Nat → V → V → Prop
  | 0, x, y => x = y ∧ AtomV x
  | n + 1, x, y => (x = y ∧ AtomV x) ∨ ∃ p q xs ys, x = .ref p ∧ y = .ref q ∧ SqT K H p xs ∧ SqT K H q ys ∧ xs.length = ys.length ∧ xs.length ≤ 900 ∧ ∀ (i : Nat) (a b : V), xs[i]? = some a → ys[i]? = some b → SameV K H n a b
theorem SameV.same {K : PySem.W.Frag} {H H' : Hp} (s : Same H H') : ∀ {n : Nat} {x y : V}, SameV K H n x y → SameV K H' n x y
  | 0, _, _, h => h
  | n + 1, _, _, .inl h => .inl h
  | n + 1, _, _, .inr ⟨p, q, xs, ys, h1, h2, h3, h4, h5, h6, h7⟩ => .inr ⟨p, q, xs, ys, h1, h2, s.sqt h3, s.sqt h4, h5, h6, fun i a b ha hb => SameV.same s (h7 i a b ha hb)⟩
theorem SameV.atom {K : PySem.W.Frag} {H : Hp} {x : V} (a : AtomV x) : ∀ n, SameV K H n x x
  | 0 => ⟨rfl, a⟩
  | _ + 1 => .inl ⟨rfl, a⟩
theorem SameV.ints {K : PySem.W.Frag} {H : Hp} {p q : Addr} {ss : List Int} (n : Nat) (hp : SqT K H p (ss.map V.int)) (hq : SqT K H q (ss.map V.int)) (l : ss.length ≤ 900) : SameV K H (n + 1) (.ref p) (.ref q) :=
  .inr ⟨p, q, _, _, rfl, rfl, hp, hq, rfl, by rw [List.length_map]; exact l, fun i a b ha hb => by
    rw [ha] at hb
    cases hb
    obtain ⟨s, _, rfl⟩ := List.mem_map.mp (List.mem_of_getElem? ha)
    exact SameV.atom (.inl ⟨s, rfl⟩) n⟩
/-! ### a Grid -/
def gf (a b c : V) : List (Str × V) := [("lengths", a), ("breadths", b), ("grade", c)]
section
variable (a b c : V)
end
/-- a ladder, whatever its rule and ends -/
def LadE (K : PySem.W.Frag) (CM CL : Addr) (H : Hp) (p : Addr) (k : Nat) (zs : List Q2) : Prop := ∃ r lo hi, LadAt K CM CL H p k zs r lo hi
structure GrdAt (K : PySem.W.Frag) (CM CL CG : Addr) (H : Hp) (p : Addr) (k : Nat) (L1 L2 : Addr) (g : Q2) : Prop where
  ob : ∃ dx q, H p = some (.ins CG dx (gf (.ref L1) (.ref L2) (.ref q))) ∧ QAt CM H q k g
theorem GrdAt.same {K : PySem.W.Frag} {CM CL CG : Addr} {H H' : Hp} {p : Addr} {k : Nat} {L1 L2 : Addr} {g : Q2} (a : GrdAt K CM CL CG H p k L1 L2 g) (s : Same H H') : GrdAt K CM CL CG H' p k L1 L2 g := by
  obtain ⟨dx, q, h1, h2⟩ := a.ob
  exact ⟨dx, q, s _ _ h1, h2.same s⟩
theorem GrdAt.kp {K : PySem.W.Frag} {CM CL CG : Addr} {H H' : Hp} {p h : Addr} {k n : Nat} {L1 L2 : Addr} {g : Q2} (a : GrdAt K CM CL CG H p k L1 L2 g) (hh : HandAt H h n) (s : Kp h H H') : GrdAt K CM CL CG H' p k L1 L2 g := by
  obtain ⟨dx, q, h1, h2⟩ := a.ob
  exact ⟨dx, q, s.get hh h1 rfl, h2.kp hh s⟩
/-! ### the laws' sides of a grid -/
structure SidesAt (H : Hp) (h p : Addr) (k : Nat) (zs ys : List Q2) (g : Q2) : Prop where
  ob : ∃ l1 l2 v us ws, H p = some (.lst [.ref l1, .ref l2, v]) ∧ H l1 = some (.lst us) ∧ H l2 = some (.lst ws) ∧ Tqs H k us zs ∧ Tqs H k ws ys ∧ TQ H v 20 g ∧ p ≠ h ∧ l1 ≠ h ∧ l2 ≠ h
  l0 : 0 < zs.length
  l1 : zs.length ≤ 8
  m0 : 0 < ys.length
  m1 : ys.length ≤ 8
theorem SidesAt.same {H H' : Hp} {h p : Addr} {k : Nat} {zs ys : List Q2} {g : Q2} (a : SidesAt H h p k zs ys g) (s : Same H H') : SidesAt H' h p k zs ys g := by
  obtain ⟨⟨l1, l2, v, us, ws, a1, a2, a3, a4, a5, a6, a7⟩, b1, b2, b3, b4⟩ := a
  exact ⟨⟨l1, l2, v, us, ws, s _ _ a1, s _ _ a2, s _ _ a3, a4.same s, a5.same s, a6.same s, a7⟩, b1, b2, b3, b4⟩
theorem SidesAt.kp {H H' : Hp} {h p : Addr} {k n : Nat} {zs ys : List Q2} {g : Q2} (a : SidesAt H h p k zs ys g) (hh : HandAt H h n) (s : Kp h H H') : SidesAt H' h p k zs ys g := by
  obtain ⟨⟨l1, l2, v, us, ws, a1, a2, a3, a4, a5, a6, a7, a8, a9⟩, b1, b2, b3, b4⟩ := a
  exact ⟨⟨l1, l2, v, us, ws, s _ _ a1 a7, s _ _ a2 a8, s _ _ a3 a9, a4.kp hh s, a5.kp hh s, a6.kp hh s, a7, a8, a9⟩, b1, b2, b3, b4⟩
theorem sqt_nl {K : PySem.W.Frag} {H H' : Hp} {a : Addr} {xs : List V} (s : SqT K H a xs) (k : Nl H H') : SqT K H' a xs := by
  rcases s with (s | ⟨o, s⟩) | s
  · exact .inl (.inl (k _ _ s rfl))
  · exact .inl (.inr ⟨o, k _ _ s rfl⟩)
  · exact .inr s
end My
namespace My
open PySem PySem.Spec PyProof.Rows L2
/-! ### sizes by fractions -/
/-- f holds of the first ones alone -/
def DownQ (f : Q2 → Bool) (zs : List Q2) : Prop := ∀ (i j : Nat) (a b : Q2), i < j → zs[i]? = some a → zs[j]? = some b → f b = true → f a = true
theorem DownQ.tail {f : Q2 → Bool} {x : Q2} {zs : List Q2} (h : DownQ f (x :: zs)) : DownQ f zs := fun i j a b hij ha hb hf => h (i + 1) (j + 1) a b (by omega) (by simpa using ha) (by simpa using hb) hf
section
variable {zs : List Q2} {r : Str} {lo hi : Option Q2} {x : Q2}
end
end My
namespace My
open PySem PySem.Spec PyProof.Rows L2
/-! ### what stood ahead, wanted at a later heap: the step first -/
section
variable {K : PySem.W.Frag} {C CM CL CG p q h a L1 L2 : Addr} {H H' H1 : Hp} {v : V} {k j n : Nat} {z : Q2} {vs : List V} {zs ys : List Q2} {o : HO} {e : Option Q2} {r : Str} {lo hi : Option Q2}
theorem TQ.s (s : Same H H') (t : TQ H v k z) : TQ H' v k z := t.same s
theorem TQ.nq (s : Nl H H') (t : TQ H v k z) : TQ H' v k z := t.nl s
theorem Tqs.s (s : Same H H') (t : Tqs H k vs zs) : Tqs H' k vs zs := t.same s
theorem QAt.s (s : Same H H') (t : QAt C H p k z) : QAt C H' p k z := t.same s
theorem Mks.s (s : Same H H') (t : Mks C H k vs zs) : Mks C H' k vs zs := t.same s
theorem QO.s (s : Same H H') (t : QO C H k v e) : QO C H' k v e := t.same s
theorem TOq.s (s : Same H H') (t : TOq H k v e) : TOq H' k v e := t.same s
theorem TOq.mono (l : k ≤ j) : ∀ {e : Option Q2}, TOq H k v e → TOq H j v e
  | none, h => h
  | some _, h => TQ.mono h l
theorem LadAt.s (s : Same H H') (t : LadAt K CM CL H p k zs r lo hi) : LadAt K CM CL H' p k zs r lo hi := t.same s
theorem LadAt.mono (t : LadAt K CM CL H p k zs r lo hi) (l : k ≤ j) : LadAt K CM CL H p j zs r lo hi := by
  obtain ⟨⟨dx, T, ps, u, w, h1, h2, h3, h4, h5⟩, a1, a2, a3, a4, a5⟩ := t
  exact ⟨⟨dx, T, ps, u, w, h1, h2, h3.mono l, h4.mono l, h5.mono l⟩, a1, a2, a3, a4, a5⟩
theorem GrdAt.s (s : Same H H') (t : GrdAt K CM CL CG H p k L1 L2 z) : GrdAt K CM CL CG H' p k L1 L2 z := t.same s
theorem SidesAt.s (s : Same H H') (t : SidesAt H h p k zs ys z) : SidesAt H' h p k zs ys z := t.same s
theorem HandAt.s (s : Same H H') (t : HandAt H h n) : HandAt H' h n := t.same s
theorem TQ.u {u : HO} {b : Addr} (np : H b = none) (t : TQ H v k z) : TQ (upd H b u) v k z := t.same (same1 np)
theorem Tqs.u {u : HO} {b : Addr} (np : H b = none) (t : Tqs H k vs zs) : Tqs (upd H b u) k vs zs := t.same (same1 np)
theorem QAt.u {u : HO} {b : Addr} (np : H b = none) (t : QAt C H p k z) : QAt C (upd H b u) p k z := t.same (same1 np)
theorem Mks.u {u : HO} {b : Addr} (np : H b = none) (t : Mks C H k vs zs) : Mks C (upd H b u) k vs zs := t.same (same1 np)
theorem QO.u {u : HO} {b : Addr} (np : H b = none) (t : QO C H k v e) : QO C (upd H b u) k v e := t.same (same1 np)
theorem TOq.u {u : HO} {b : Addr} (np : H b = none) (t : TOq H k v e) : TOq (upd H b u) k v e := t.same (same1 np)
theorem LadAt.u {u : HO} {b : Addr} (np : H b = none) (t : LadAt K CM CL H p k zs r lo hi) : LadAt K CM CL (upd H b u) p k zs r lo hi := t.same (same1 np)
theorem GrdAt.u {u : HO} {b : Addr} (np : H b = none) (t : GrdAt K CM CL CG H p k L1 L2 z) : GrdAt K CM CL CG (upd H b u) p k L1 L2 z := t.same (same1 np)
theorem SidesAt.u {u : HO} {b : Addr} (np : H b = none) (t : SidesAt H h p k zs ys z) : SidesAt (upd H b u) h p k zs ys z := t.same (same1 np)
theorem HandAt.u {u : HO} {b : Addr} (np : H b = none) (t : HandAt H h n) : HandAt (upd H b u) h n := t.same (same1 np)
end
/-- each of these values is a fraction -/
def AllTQ (H : Hp) (k : Nat) (vs : List V) : Prop := ∀ x ∈ vs, ∃ z, TQ H x k z
theorem AllTQ.nil {H : Hp} {k : Nat} : AllTQ H k [] := fun x hx => by simp at hx
theorem AllTQ.cons {H : Hp} {k : Nat} {v : V} {z : Q2} {vs : List V} (t : TQ H v k z) (m : AllTQ H k vs) : AllTQ H k (v :: vs) := fun x hx => by
  rcases List.mem_cons.mp hx with e | e
  · rw [e]; exact ⟨z, t⟩
  · exact m x e
theorem AllTQ.app {H : Hp} {k : Nat} {vs ws : List V} (m : AllTQ H k vs) (m' : AllTQ H k ws) : AllTQ H k (vs ++ ws) := fun x hx => by
  rcases List.mem_append.mp hx with e | e
  · exact m x e
  · exact m' x e
/-! ### a rule, a least and a most, as the laws draw them in fractions -/
structure ChartAt (H : Hp) (T : Addr) (k : Nat) (r : Str) (lo hi : Option Q2) : Prop where
  ob : ∃ u w, H T = some (.tup [.str r, u, w]) ∧ TOq H k u lo ∧ TOq H k w hi
  rule : IsRule r
  span : spanB lo hi = true
section
variable {H H' : Hp} {T h : Addr} {k n : Nat} {r : Str} {lo hi : Option Q2}
theorem ChartAt.same (c : ChartAt H T k r lo hi) (s : Same H H') : ChartAt H' T k r lo hi := by
  obtain ⟨⟨u, w, h1, h2, h3⟩, h4, h5⟩ := c
  exact ⟨⟨u, w, s _ _ h1, h2.same s, h3.same s⟩, h4, h5⟩
theorem ChartAt.kp (c : ChartAt H T k r lo hi) (hh : HandAt H h n) (s : Kp h H H') : ChartAt H' T k r lo hi := by
  obtain ⟨⟨u, w, h1, h2, h3⟩, h4, h5⟩ := c
  exact ⟨⟨u, w, s.get hh h1 rfl, h2.kp hh s, h3.kp hh s⟩, h4, h5⟩
theorem ChartAt.u {u : HO} {b : Addr} (np : H b = none) (c : ChartAt H T k r lo hi) : ChartAt (upd H b u) T k r lo hi := c.same (same1 np)
theorem ChartAt.s (s : Same H H') (c : ChartAt H T k r lo hi) : ChartAt H' T k r lo hi := c.same s
end
/-- a pair of sizes, or None -/
def OwnV (H : Hp) (v : V) : Option (Nat × Nat) → Prop
  | none => v = .non
  | some x => ∃ T, v = .ref T ∧ H T = some (.tup [.int (x.1 : Int), .int (x.2 : Int)])
theorem OwnV.s {H H' : Hp} {v : V} (s : Same H H') : ∀ {o : Option (Nat × Nat)}, OwnV H v o → OwnV H' v o
  | none, h => h
  | some _, ⟨T, h1, h2⟩ => ⟨T, h1, s _ _ h2⟩
theorem OwnV.alike {K : PySem.W.Frag} {H : Hp} {v w : V} : ∀ {o : Option (Nat × Nat)}, OwnV H v o → OwnV H w o → SameV K H 1 v w
  | none, h, g => by
    cases h; cases g
    exact SameV.atom (.inr (.inr (.inl rfl))) 1
  | some x, ⟨T, h1, h2⟩, ⟨T', g1, g2⟩ => by
    subst h1 g1
    exact SameV.ints (ss := [(x.1 : Int), (x.2 : Int)]) 0 (SqT.of h2) (SqT.of g2) (Nat.le_of_ble_eq_true rfl)
def ownQ (zs : List Q2) (r1 : Str) (lo1 hi1 : Option Q2) (ys : List Q2) (r2 : Str) (lo2 hi2 : Option Q2) (g x1 x2 : Q2) : Option (Nat × Nat) :=
  match sizeQ zs r1 lo1 hi1 x1 with
  | none => none
  | some i => match sizeQ ys r2 lo2 hi2 (qsub x2 (qmul g ((i : Int), 1))) with
    | none => none
    | some w => some (i, w)
def sp_own (K : PySem.W.Frag) (CM CL CG : Addr) : Sp := fun vs H Q _ => ∃ (p f L1 L2 f1 f2 : Addr) (k j m : Nat) (zs ys : List Q2) (r1 r2 : Str) (lo1 hi1 lo2 hi2 : Option Q2) (g x1 x2 : Q2), vs = [.ref p, .ref f] ∧ GrdAt K CM CL CG H p j L1 L2 g ∧ LadAt K CM CL H L1 k zs r1 lo1 hi1 ∧ LadAt K CM CL H L2 k ys r2 lo2 hi2 ∧ SqT K H f [.ref f1, .ref f2] ∧ QAt CM H f1 m x1 ∧ QAt CM H f2 m x2 ∧
  0 < j ∧ j ≤ 100 ∧ 0 < k ∧ k ≤ 300 ∧ 0 < m ∧ m ≤ 500 ∧ ∀ (v : V) (H' : Hp), Same H H' → OwnV H' v (ownQ zs r1 lo1 hi1 ys r2 lo2 hi2 g x1 x2) → Q v H'
/-! ### the numbers of the marks, first and last -/
end My
namespace My
open PySem PySem.Spec PyProof.Rows L2
/-! ### cuts of three stretches -/
theorem Alike.of {x y : Q2} {i j : Bool} (h : Re x y) (e : i = j) : Alike (some x, i) (some y, j) := ⟨h, fun _ => e⟩
theorem Alike.refl {x : Option Q2 × Bool} (h : PosO x.1) : Alike x x := ⟨ReO.refl h, fun _ => rfl⟩
theorem Alike.symm {x y : Option Q2 × Bool} (h : Alike x y) : Alike y x := ⟨h.1.symm, fun e => (h.2 (by rw [h.1.isS]; exact e)).symm⟩

/-- a Measure whose numbers are not too great -/
def PtM (CM : Addr) (H : Hp) (y : V) : Prop := ∃ (q : Addr) (x : Q2), y = .ref q ∧ MAt CM H q x.1 x.2 ∧ 0 < x.2 ∧ Sz 20000 x.1 ∧ Sz 20000 x.2
theorem PtM.nl {CM : Addr} {H H' : Hp} {y : V} (h : PtM CM H y) (s : Nl H H') : PtM CM H' y := by
  obtain ⟨q, x, e, ⟨d, m⟩, r⟩ := h
  exact ⟨q, x, e, ⟨d, s _ _ m rfl⟩, r⟩
theorem PtM.same {CM : Addr} {H H' : Hp} {y : V} (h : PtM CM H y) (s : Same H H') : PtM CM H' y := h.nl (Nl.of s)
end My
namespace My
open PySem PySem.Spec PyProof.Rows L2
/-! ### which measures a size's stretch holds -/
/-- whether there is such a stretch -/
def sizB (zs : List Q2) (r : Str) (lo hi : Option Q2) (n : Nat) : Bool := someB (sizE zs r lo hi n).1.1 (sizE zs r lo hi n).2.1 (sizE zs r lo hi n).1.2 (sizE zs r lo hi n).2.2
end My
namespace My
open PySem PySem.Spec PyProof.Rows L2
/-! ### lists of numbers -/
/-! ### the sizes that fit some feet -/
structure FitsL (H : Hp) (D : Addr) (ls : List (List Int)) : Prop where
  ob : ∃ ts : List V, H D = some (.lst ts) ∧ ts.length = ls.length ∧ ∀ (i : Nat) (v : V) (l : List Int), ts[i]? = some v → ls[i]? = some l → ∃ T, v = .ref T ∧ H T = some (.tup (l.map V.int))
theorem FitsL.same {H H' : Hp} {D : Addr} {ls : List (List Int)} (a : FitsL H D ls) (s : Same H H') : FitsL H' D ls := by
  obtain ⟨ts, h1, h2, h3⟩ := a.ob
  refine ⟨ts, s _ _ h1, h2, fun i v l e1 e2 => ?_⟩
  obtain ⟨T, e, h⟩ := h3 i v l e1 e2
  exact ⟨T, e, s _ _ h⟩
theorem FitsL.at {H : Hp} {D : Addr} {ls : List (List Int)} {ts : List V} (h2 : ts.length = ls.length) (h3 : ∀ (i : Nat) (v : V) (l : List Int), ts[i]? = some v → ls[i]? = some l → ∃ T, v = .ref T ∧ H T = some (.tup (l.map V.int))) {i : Nat} {l : List Int} (h : ls[i]? = some l) : ∃ T, ts[i]? = some (.ref T) ∧ H T = some (.tup (l.map V.int)) := by
  have hi : i < ts.length := by rw [h2]; exact (List.getElem?_eq_some_iff.mp h).1
  obtain ⟨T, e, k⟩ := h3 i _ l (List.getElem?_eq_getElem hi) h
  exact ⟨T, by rw [List.getElem?_eq_getElem hi, e], k⟩
/-- the first one of which there is none -/
def BareAt (ls : List (List Int)) : Option Nat → Prop
  | none => ∀ l ∈ ls, l ≠ []
  | some n => ls[n]? = some [] ∧ ∀ j l, j < n → ls[j]? = some l → l ≠ []
theorem BareAt.uniq {ls : List (List Int)} : ∀ {o o' : Option Nat}, BareAt ls o → BareAt ls o' → o = o'
  | none, none, _, _ => rfl
  | none, some n, h, g => absurd rfl (h _ (List.mem_of_getElem? g.1))
  | some n, none, h, g => absurd rfl (g _ (List.mem_of_getElem? h.1))
  | some n, some m, h, g => by
    rcases Nat.lt_trichotomy n m with q | q | q
    · exact absurd rfl (g.2 n _ q h.1)
    · rw [q]
    · exact absurd rfl (h.2 m _ q g.1)
def firstI (ls : List (List Int)) (a : Int) : Int := ((ls.getD a.toNat []).head?).getD 0
def lastI (ls : List (List Int)) (a : Int) : Int := ((ls.getD a.toNat []).getLast?).getD 0
/-- runs: none is bare, each begins no later than it ends -/
def RunsI (ls : List (List Int)) : Prop := ∀ i : Nat, i < ls.length → ls.getD i [] ≠ [] ∧ firstI ls i ≤ lastI ls i
structure GInv (ls : List (List Int)) (done : List (Int × Int)) (ss as : List Int) : Prop where
  len : ss.length = as.length
  hits : ∀ q ∈ done, ∃ s ∈ ss, firstI ls q.2 ≤ s ∧ s ≤ q.1
  own : ∀ (j : Nat) (s a : Int), ss[j]? = some s → as[j]? = some a → (s, a) ∈ done
  ap : ∀ (j j' : Nat) (s a : Int), j < j' → ss[j]? = some s → as[j']? = some a → s < firstI ls a
theorem GInv.nil {ls : List (List Int)} : GInv ls [] [] [] := ⟨rfl, fun q h => by simp at h, fun j s a h => by simp at h, fun j j' s a _ h => by simp at h⟩
/-- the pairs of last sizes and numbers -/
structure PairsOf (ls : List (List Int)) (ps : List (Int × Int)) : Prop where
  perm : ps.Perm ((List.range ls.length).map fun i : Nat => (lastI ls i, (i : Int)))
  srt : ∀ (i j : Nat) (p q : Int × Int), i < j → ps[i]? = some p → ps[j]? = some q → p.1 ≤ q.1
theorem PairsOf.mem {ls : List (List Int)} {ps : List (Int × Int)} (h : PairsOf ls ps) {q : Int × Int} : q ∈ ps ↔ ∃ i : Nat, i < ls.length ∧ q = (lastI ls i, (i : Int)) := by
  rw [h.perm.mem_iff, List.mem_map]
  constructor
  · rintro ⟨i, hi, e⟩; exact ⟨i, List.mem_range.mp hi, e.symm⟩
  · rintro ⟨i, hi, e⟩; exact ⟨i, List.mem_range.mpr hi, e.symm⟩
theorem GInv.rise {ls : List (List Int)} {ps : List (Int × Int)} {k : Nat} {ss as : List Int} (P : PairsOf ls ps) (R : RunsI ls) (g : GInv ls (ps.take k) ss as) : ∀ (j j' : Nat) (s s' : Int), j < j' → ss[j]? = some s → ss[j']? = some s' → s < s' := fun j j' s s' hj h h' => by
  have l := (List.getElem?_eq_some_iff.mp h').1
  obtain ⟨a', ha'⟩ := geI (zs := as) (n := j') (by rw [← g.len]; exact l)
  have h1 := g.ap j j' s a' hj h ha'
  have h2 := g.own j' s' a' h' ha'
  obtain ⟨i, hi, e⟩ := P.mem.mp (List.mem_of_mem_take h2)
  obtain ⟨rfl, rfl⟩ := Prod.mk.inj e
  have := (R i hi).2
  omega
theorem GInv.skip {ls : List (List Int)} {ps : List (Int × Int)} {k : Nat} {ss as : List Int} {b n s : Int} (P : PairsOf ls ps) (R : RunsI ls) (hk : ps[k]? = some (b, n)) (g : GInv ls (ps.take k) ss as) (hl : ss.getLast? = some s) (h : firstI ls n ≤ s) : GInv ls (ps.take (k + 1)) ss as := by
  have e : ps.take (k + 1) = ps.take k ++ [(b, n)] := by rw [List.take_add_one, hk]; rfl
  refine ⟨g.len, fun q hq => ?_, fun j s' a h1 h2 => ?_, g.ap⟩
  · rw [e] at hq
    rcases List.mem_append.mp hq with hq | hq
    · exact g.hits q hq
    · have : q = (b, n) := by simpa using hq
      subst this
      refine ⟨s, List.mem_of_getLast? hl, h, ?_⟩
      have l0 : 0 < ss.length := by cases ss with | nil => simp at hl | cons => simp
      have hs : ss[ss.length - 1]? = some s := by rw [← List.getLast?_eq_getElem?]; exact hl
      obtain ⟨a, ha⟩ := geI (zs := as) (n := ss.length - 1) (by rw [← g.len]; omega)
      have hm := g.own _ s a hs ha
      obtain ⟨i, hi⟩ := List.mem_iff_getElem?.mp hm
      have li := (List.getElem?_eq_some_iff.mp hi).1
      rw [List.length_take] at li
      rw [List.getElem?_take_of_lt (by omega)] at hi
      exact P.srt i k (s, a) (b, n) (by omega) hi hk
  · rw [e]
    exact List.mem_append.mpr (.inl (g.own j s' a h1 h2))
theorem GInv.take {ls : List (List Int)} {ps : List (Int × Int)} {k : Nat} {ss as : List Int} {b n : Int} (P : PairsOf ls ps) (R : RunsI ls) (hk : ps[k]? = some (b, n)) (g : GInv ls (ps.take k) ss as) (h : ∀ s, ss.getLast? = some s → s < firstI ls n) : GInv ls (ps.take (k + 1)) (ss ++ [b]) (as ++ [n]) := by
  have e : ps.take (k + 1) = ps.take k ++ [(b, n)] := by rw [List.take_add_one, hk]; rfl
  obtain ⟨i, hi, ei⟩ := P.mem.mp (List.mem_of_getElem? hk)
  obtain ⟨rfl, rfl⟩ := Prod.mk.inj ei
  refine ⟨by rw [List.length_append, List.length_append, g.len]; rfl, fun q hq => ?_, fun j s' a h1 h2 => ?_, fun j j' s' a hj h1 h2 => ?_⟩
  · rw [e] at hq
    rcases List.mem_append.mp hq with hq | hq
    · obtain ⟨s, hs, q1⟩ := g.hits q hq
      exact ⟨s, List.mem_append.mpr (.inl hs), q1⟩
    · have : q = (lastI ls (i : Int), (i : Int)) := by simpa using hq
      subst this
      exact ⟨lastI ls i, by simp, (R i hi).2, Int.le_refl _⟩
  · rw [e]
    by_cases hlt : j < ss.length
    · rw [List.getElem?_append_left hlt] at h1
      rw [List.getElem?_append_left (by rw [← g.len]; exact hlt)] at h2
      exact List.mem_append.mpr (.inl (g.own j s' a h1 h2))
    · have l1 := (List.getElem?_eq_some_iff.mp h1).1
      rw [List.length_append, List.length_singleton] at l1
      have ej : j = ss.length := by omega
      rw [ej, List.getElem?_append_right (Nat.le_refl _), Nat.sub_self] at h1
      rw [ej, g.len, List.getElem?_append_right (Nat.le_refl _), Nat.sub_self] at h2
      have h1 : lastI ls i = s' := by simpa using h1
      have h2 : (i : Int) = a := by simpa using h2
      rw [← h1, ← h2]
      simp
  · have l2 := (List.getElem?_eq_some_iff.mp h2).1
    rw [List.length_append, List.length_singleton, ← g.len] at l2
    have h1' : ss[j]? = some s' := by
      rw [List.getElem?_append_left (by omega)] at h1; exact h1
    by_cases hlt : j' < ss.length
    · rw [List.getElem?_append_left (by rw [← g.len]; exact hlt)] at h2
      exact g.ap j j' s' a hj h1' h2
    · have ej : j' = ss.length := by omega
      rw [ej, g.len, List.getElem?_append_right (Nat.le_refl _), Nat.sub_self] at h2
      have h2 : (i : Int) = a := by simpa using h2
      rw [← h2]
      have hs : ss[ss.length - 1]? = ss.getLast? := List.getLast?_eq_getElem?.symm
      obtain ⟨s, hs2⟩ := geI (zs := ss) (n := ss.length - 1) (by omega)
      have hlast := h s (by rw [← hs]; exact hs2)
      by_cases q : j = ss.length - 1
      · rw [q, hs2] at h1'
        cases h1'
        exact hlast
      · have := g.rise P R j (ss.length - 1) s' s (by omega) h1' hs2
        omega
/-! ### tuples of the heap: sums and slices -/
section
variable {X : Cx}
end
/-! ### fractions as rational numbers -/
def toR (z : Q2) : Rat := (z.1 : Rat) / (z.2 : Rat)
theorem posR {n : Int} (h : 0 < n) : (0 : Rat) < (n : Rat) := by
  have := Rat.intCast_lt_intCast.mpr h
  simpa using this
section
variable {a b z w x y : Q2}
theorem div_ltR {a b c d : Int} (hb : 0 < b) (hd : 0 < d) : ((a : Rat) / b < (c : Rat) / d) ↔ (a : Rat) * d < c * b := by
  have hb := posR hb
  have hd := posR hd
  constructor
  · intro h
    have e1 : (a : Rat) * d = (a / b) * (b * d) := by grind
    have e2 : (c : Rat) * b = (c / d) * (b * d) := by grind
    rw [e1, e2]
    exact Rat.mul_lt_mul_of_pos_right h (Rat.mul_pos hb hd)
  · intro h
    by_cases g : (c : Rat) / d ≤ (a : Rat) / b
    · have := Rat.mul_le_mul_of_nonneg_right g (Rat.le_of_lt (Rat.mul_pos hb hd))
      have e1 : (a : Rat) * d = (a / b) * (b * d) := by grind
      have e2 : (c : Rat) * b = (c / d) * (b * d) := by grind
      grind
    · grind
theorem ltq_R (ha : 0 < a.2) (hb : 0 < b.2) : ltq a b = true ↔ toR a < toR b := by
  unfold toR
  rw [div_ltR ha hb]
  unfold ltq
  rw [decide_eq_true_iff, ← Rat.intCast_mul, ← Rat.intCast_mul, Rat.intCast_lt_intCast]
theorem leq_R (ha : 0 < a.2) (hb : 0 < b.2) : leq a b = true ↔ toR a ≤ toR b := by
  rw [leq_not]
  cases e : ltq b a with
  | true =>
    have := (ltq_R hb ha).mp e
    constructor
    · intro h; simp at h
    · intro h; grind
  | false =>
    have : ¬ toR b < toR a := fun q => by rw [(ltq_R hb ha).mpr q] at e; cases e
    constructor
    · intro _; grind
    · intro _; rfl
theorem re_R (h : Re z w) : toR z = toR w := by
  obtain ⟨h1, h2, h3⟩ := h
  unfold toR
  have p1 := posR h1
  have p2 := posR h2
  have e : (z.1 : Rat) * (w.2 : Rat) = (w.1 : Rat) * (z.2 : Rat) := by rw [← Rat.intCast_mul, ← Rat.intCast_mul, h3]
  grind
theorem nn_R (ha : 0 < a.2) : 0 ≤ a.1 ↔ 0 ≤ toR a := by
  have p : 0 < ((0, 1) : Q2).2 := by decide
  have h := leq_R (a := (0, 1)) (b := a) p ha
  have e : toR (0, 1) = 0 := by unfold toR; grind
  rw [e] at h
  rw [← h, leq_not]
  unfold ltq
  simp
end
theorem Re.nn {z w : Q2} (r : Re z w) (h : 0 ≤ w.1) : 0 ≤ z.1 := by
  rw [nn_R r.1, re_R r]
  exact (nn_R r.2.1).mp h
section
variable {zs : List Q2} {a z x y e w : Q2} {i : Nat}
end
/-! ### lists of tuples of numbers as data -/
section
variable {X : Cx} {K : PySem.W.Frag}
end
theorem dpAll_of {α : Type} {K : PySem.W.Frag} {H : Hp} (f : α → PyData) : ∀ {ts : List V} {ls : List α}, ts.length = ls.length → (∀ (i : Nat) (v : V) (l : α), ts[i]? = some v → ls[i]? = some l → Dp K H v (f l)) → DpAll K H ts (ls.map f)
  | [], [], _, _ => .nil
  | [], _ :: _, h, _ => by simp at h
  | _ :: _, [], h, _ => by simp at h
  | t :: ts, l :: ls, h, g => .cons (g 0 t l rfl rfl) (dpAll_of f (by simpa using h) fun i v l' h1 h2 => g (i + 1) v l' (by simpa using h1) (by simpa using h2))
theorem FitsL.dp {K : PySem.W.Frag} {H : Hp} {D : Addr} {ls : List (List Int)} (a : FitsL H D ls) : Dp K H (.ref D) (.list (ls.map fun l => intsD l)) := by
  obtain ⟨ts, h1, h2, h3⟩ := a.ob
  refine .lst (SqL.of h1) (dpAll_of (fun l => intsD l) h2 fun i v l e1 e2 => ?_)
  obtain ⟨T, rfl, h⟩ := h3 i v l e1 e2
  exact dpT h
/-! ### a set of a tuple of numbers -/
/-! ### looked at ahead of a step (apply fails at once where exact, refine and show take seconds) -/
theorem eq_id {α : Sort _} {a b : α} (h : a = b) : a = b := h
theorem ile_id {a b : Int} (h : a ≤ b) : a ≤ b := h
theorem ilt_id {a b : Int} (h : a < b) : a < b := h
theorem nle_id {a b : Nat} (h : a ≤ b) : a ≤ b := h
theorem nlt_id {a b : Nat} (h : a < b) : a < b := h
section
variable {K : PySem.W.Frag} {C CM CL CG p h a L1 L2 : Addr} {H H' : Hp} {v : V} {k n : Nat} {z : Q2} {vs : List V} {zs ys : List Q2} {e : Option Q2} {r : Str} {lo hi : Option Q2} {o : Option HO} {x : HO} {P Q : Prop}
end
/-! ### what follows a statement, kept out of sight while it is read -/
/-! ### a comprehension over a list that draws, some left out -/
theorem AllTQ.nl {H H' : Hp} {k : Nat} {vs : List V} (m : AllTQ H k vs) (s : Nl H H') : AllTQ H' k vs := fun x hx => by
  obtain ⟨z, t⟩ := m x hx
  exact ⟨z, t.nl s⟩
theorem AllTQ.same {H H' : Hp} {k : Nat} {vs : List V} (m : AllTQ H k vs) (s : Same H H') : AllTQ H' k vs := m.nl (Nl.of s)
theorem AllTQ.mono {H : Hp} {k j : Nat} {vs : List V} (m : AllTQ H k vs) (l : k ≤ j) : AllTQ H j vs := fun x hx => by
  obtain ⟨z, t⟩ := m x hx
  exact ⟨z, t.mono l⟩
theorem Kp.up2 {h D : Addr} {H H1 : Hp} {u : HO} (k : Kp h H H1) (hD : H D = none) : Kp h H (upd H1 D u) := fun c o e n => by
  rw [upd_ne (ne_of_none e hD)]
  exact k c o e n
end My
namespace My
open PySem PySem.Spec PyProof.Rows L2
/-! ### the stretches of a ladder's sizes, held -/
theorem MAt.nl {C p : Addr} {H H' : Hp} {t u : Int} (a : MAt C H p t u) (s : Nl H H') : MAt C H' p t u := by
  obtain ⟨dx, h⟩ := a
  exact ⟨dx, s _ _ h rfl⟩
theorem MsV.nl {C : Addr} {H H' : Hp} {v : V} (s : Nl H H') : ∀ {e : Option Q2}, MsV C H v e → MsV C H' v e
  | none, h => h
  | some _, ⟨p, h1, h2⟩ => ⟨p, h1, h2.nl s⟩
theorem StAt.nl {CM CS p : Addr} {H H' : Hp} {lo hi : Option Q2} {li hj : Bool} (a : StAt CM CS H p lo hi li hj) (s : Nl H H') : StAt CM CS H' p lo hi li hj := by
  obtain ⟨⟨dx, l, h, h1, h2, h3⟩, a1, a2, a3, a4⟩ := a
  exact ⟨⟨dx, l, h, s _ _ h1 rfl, h2.nl s, h3.nl s⟩, a1, a2, a3, a4⟩
theorem StQ.nl {CM CS p : Addr} {H H' : Hp} {x y : Option Q2 × Bool} (a : StQ CM CS H p x y) (s : Nl H H') : StQ CM CS H' p x y := by
  obtain ⟨lo, hi, h1, h2, h3⟩ := a
  exact ⟨lo, hi, h1.nl s, h2, h3⟩
/-- the stretch of a size, or None -/
def RunV (CM CS : Addr) (H : Hp) (v : V) (zs : List Q2) (r : Str) (lo hi : Option Q2) (n : Nat) : Prop :=
  (sizB zs r lo hi n = true ∧ ∃ p, v = .ref p ∧ StQ CM CS H p (sizE zs r lo hi n).1 (sizE zs r lo hi n).2) ∨ (sizB zs r lo hi n = false ∧ v = .non)
section
variable {CM CS : Addr} {H H' : Hp} {v : V} {zs : List Q2} {r : Str} {lo hi : Option Q2} {n : Nat}
theorem RunV.same (a : RunV CM CS H v zs r lo hi n) (s : Same H H') : RunV CM CS H' v zs r lo hi n := by
  rcases a with ⟨h, p, e, q⟩ | h
  · exact .inl ⟨h, p, e, q.same s⟩
  · exact .inr h
theorem RunV.nl (a : RunV CM CS H v zs r lo hi n) (s : Nl H H') : RunV CM CS H' v zs r lo hi n := by
  rcases a with ⟨h, p, e, q⟩ | h
  · exact .inl ⟨h, p, e, q.nl s⟩
  · exact .inr h
end
section
variable {CM CS : Addr} {H : Hp} {p q : Addr} {x y x2 y2 : Option Q2 × Bool}
theorem StQ.raw (a : StQ CM CS H p x y) {m : Str} (h1 : ¬ m = "low") (h2 : ¬ m = "high") (h3 : ¬ m = "low_in") (h4 : ¬ m = "high_in") {R : Prop} (h : R) : ∃ a dx fs, V.ref p = .ref a ∧ H a = some (.ins CS dx fs) ∧ fs.lookup m = none ∧ R := by
  obtain ⟨lo, hi, s, _⟩ := a
  exact meth_s s h1 h2 h3 h4 h
/-- an end of so many bits -/
def SzE (k : Nat) : Option Q2 → Prop
  | none => True
  | some a => Sz k a.1 ∧ Sz k a.2
end
theorem SzE.mono {k j : Nat} (l : k ≤ j) : ∀ {o : Option Q2}, SzE k o → SzE j o
  | none, _ => trivial
  | some _, h => ⟨h.1.mono l, h.2.mono l⟩
def SzL (k : Nat) (zs : List Q2) : Prop := ∀ z ∈ zs, Sz k z.1 ∧ Sz k z.2
theorem SzL.get {k : Nat} {zs : List Q2} (h : SzL k zs) (i : Nat) : SzE k zs[i]? := by
  cases e : zs[i]? with
  | none => trivial
  | some a => exact h a (List.mem_of_getElem? e)
theorem SzL.end {k : Nat} {zs : List Q2} (h : SzL k zs) (i : Int) : SzE k (endQ zs i) := by
  unfold endQ
  split
  · exact h.get _
  · trivial
theorem LawL.szs {H : Hp} {p : Addr} {part : Int} {ms : List Int} {r : Str} {lo hi : Option Int} (a : LawL H p part ms r lo hi) : SzL 40 (zq (4 * part) ms) ∧ SzE 40 (oq (4 * part) lo) ∧ SzE 40 (oq (4 * part) hi) := by
  have p0 := a.p0
  have p1 := a.p1
  have sp : Sz 40 (4 * part) := by show (4 * part).natAbs < 2 ^ 40; omega
  have sz : ∀ z : Int, -4000040 ≤ z → z ≤ 4000040 → Sz 40 z := fun z h1 h2 => by show z.natAbs < 2 ^ 40; omega
  refine ⟨fun z hz => ?_, ?_, ?_⟩
  · obtain ⟨m, hm, rfl⟩ := List.mem_map.mp hz
    have := a.bnd m hm
    exact ⟨sz m (by omega) (by omega), sp⟩
  · cases lo with
    | none => trivial
    | some z => have := a.blo z rfl; exact ⟨sz z this.1 this.2, sp⟩
  · cases hi with
    | none => trivial
    | some z => have := a.bhi z rfl; exact ⟨sz z this.1 this.2, sp⟩
theorem LadAt.up {K : PySem.W.Frag} {CM CL : Addr} {H : Hp} {p : Addr} {k j : Nat} {zs : List Q2} {r : Str} {lo hi : Option Q2} (a : LadAt K CM CL H p k zs r lo hi) (l : k ≤ j) : LadAt K CM CL H p j zs r lo hi := a.mono l
/-! ### measures that a stretch holds -/
def GoodM (CM : Addr) (x y : Option Q2 × Bool) (H : Hp) (ys : List V) : Prop := ∀ v ∈ ys, ∃ q z, v = .ref q ∧ QAt CM H q 300 z ∧ (loIn x.1 x.2 z && hiIn y.1 y.2 z) = true
theorem GoodM.nl {CM : Addr} {x y : Option Q2 × Bool} {H H' : Hp} {ys : List V} (g : GoodM CM x y H ys) (s : Nl H H') : GoodM CM x y H' ys := fun v hv => by
  obtain ⟨q, z, e, a, h⟩ := g v hv
  exact ⟨q, z, e, a.nl s, h⟩
theorem GoodM.snoc {CM : Addr} {x y : Option Q2 × Bool} {H : Hp} {ys : List V} {q : Addr} {z : Q2} (g : GoodM CM x y H ys) (a : QAt CM H q 300 z) (h : (loIn x.1 x.2 z && hiIn y.1 y.2 z) = true) : GoodM CM x y H (ys ++ [.ref q]) := fun v hv => by
  rcases List.mem_append.mp hv with hv | hv
  · exact g v hv
  · have : v = .ref q := by simpa using hv
    exact ⟨q, z, this, a, h⟩
section
variable {a b : Q2} {i j : Bool} {yo xo : Option Q2}
end
end My
namespace My
open PySem PySem.Spec PyProof.Rows L2
/-! ### comprehensions within comprehensions: the readings of the inner ones are found ahead -/
section
variable {X : Cx}
end
end My
namespace My
open PySem PySem.Spec PyProof.Rows L2
/-! ### repr of a tuple that holds own objects -/
section
variable {X : Cx} {n : Nat} {CX : CXT} {C f : Addr} {fd : FuncData} {ps : List Str} {sp : Sp} {E : XK}
end
/-! ### == of tuples, item by item -/
section
open GQ
open AutoSeq1 (wpAny_loadPart')
variable {prog : Program} {w : World} {A : Around} {R : Result → Shared → Prop}
end
section
variable {X : Cx} {n : Nat} {D : Eqb}
end
/-! ### {x} of an own object, repr of one whose own def shows a tuple -/
section
variable {X : Cx} {n : Nat} {CX : CXT} {C f : Addr} {fd : FuncData} {ps : List Str} {sp : Sp} {E : XK}
end
end My
namespace My
open PySem PySem.Spec PyProof.Rows L2
/-! ### signs of texts; dicts beside own == -/
/-! ### own == within comprehensions: K by name -/
end My
/-! ### own errors whose __init__ calls super().__init__(..): over any built-in base -/
namespace My
open PySem PySem.Spec PyProof.Rows L2 NdefX Builtin Builtin.ObjectAttr
abbrev leTail : List Value := [.type "LookupError", .type "Exception", .type "BaseException", .type "object"]
/-- own classes, then T -/
def refsT (T : List Value) : List Value → Bool
  | .ref _ :: r => refsT T r
  | l => l == T
/-- what is asked of the built-in base -/
structure BaseX (B newId initId : String) (T : List Value) : Prop where
  F : ExcBaseFacts B newId initId T
  KF : PySem.W.KxsFacts B initId
  pass : ∀ self, refuseLoop self "__setattr__" T = pure ()
  ob : T.contains (.type "object") = true
  ne : T ≠ []
  nr : ∀ c r, T ≠ .ref c :: r
theorem baseVE : BaseX "ValueError" "ValueError.__new__" "ValueError.__init__" PySem.HandSPX.veTail :=
  ⟨PySem.F.excBase_ValueError, PySem.W.kxs_ValueError, fun self => PySem.HandSPX.refsVE_pass self _ (by decide +kernel), by decide +kernel, (fun e => nomatch e), fun c r e => nomatch e⟩
theorem refsT_cases {T : List Value} : ∀ l : List Value, refsT T l = true → (∃ c r, l = .ref c :: r ∧ refsT T r = true) ∨ l = T
  | [], e => .inr (beq_iff_eq.mp e)
  | .ref c :: r, e => .inl ⟨c, r, rfl, e⟩
  | .none :: _, e => .inr (beq_iff_eq.mp e)
  | .ellipsis :: _, e => .inr (beq_iff_eq.mp e)
  | .notImplemented :: _, e => .inr (beq_iff_eq.mp e)
  | .bool _ :: _, e => .inr (beq_iff_eq.mp e)
  | .int _ _ :: _, e => .inr (beq_iff_eq.mp e)
  | .float _ _ :: _, e => .inr (beq_iff_eq.mp e)
  | .str _ _ :: _, e => .inr (beq_iff_eq.mp e)
  | .bytes _ _ :: _, e => .inr (beq_iff_eq.mp e)
  | .type _ :: _, e => .inr (beq_iff_eq.mp e)
  | .builtin _ :: _, e => .inr (beq_iff_eq.mp e)
section
variable {B newId initId : String} {T : List Value} (bx : BaseX B newId initId T)
include bx
theorem BaseX.passes (self : Value) : ∀ l : List Value, refsT T l = true → refuseLoop self "__setattr__" l = pure () := by
  intro l
  induction l with
  | nil =>
    intro e
    exact absurd (beq_iff_eq.mp e).symm bx.ne
  | cons a r ih =>
    intro e
    rcases refsT_cases (a :: r) e with ⟨c, r', q, h⟩ | q
    · obtain ⟨rfl, rfl⟩ := List.cons.inj q
      rw [refuseLoop_ref]; exact ih h
    · rw [q]; exact bx.pass self
theorem BaseX.contains (X : String) : ∀ l : List Value, refsT T l = true → l.contains (.type X) = T.contains (.type X) := by
  intro l
  induction l with
  | nil => intro e; exact absurd (beq_iff_eq.mp e).symm bx.ne
  | cons a r ih =>
    intro e
    rcases refsT_cases (a :: r) e with ⟨c, r', q, h⟩ | q
    · obtain ⟨rfl, rfl⟩ := List.cons.inj q
      rw [List.contains_cons, ih h]; rfl
    · rw [q]
theorem BaseX.nempty {l : List Value} (e : refsT T l = true) : l.isEmpty = false := by
  cases l with
  | nil => exact absurd (beq_iff_eq.mp e).symm bx.ne
  | cons _ _ => rfl
end
/-- what the written part says of the class -/
structure OexG (newId : String) (T : List Value) (K : PySem.W.Frag) (C : Addr) : Prop where
  cls : ∃ nm q N bs bm sn sub ab col dd k0 k1 k2 k3 k5, K.lookup C = some (excClassObj nm q C N bs bm true sn sub ab col dd k0 k1 k2 k3 k5 newId) ∧ refsT T bm = true
  sa : PySem.W.findIn K (.ref C) "__setattr__" = some (some (.builtin "object.__setattr__"))
  exC : PySem.W.subIn K (.ref C) (.type "BaseException") = some true
  tyC : PySem.W.typeIn K (.ref C) = some (.type "type")
  kC : PySem.W.keepIn K (.ref C) = true
section
open PySem.HandSPX (store_in_new)
variable {prog : Program} {w : World} {A : Around} {E : Value → Shared → Prop} {R : Result → Shared → Prop} {hp : Heap} {g : Array GenState} {d : Drawn} {t : Nat} {os : OsState}
theorem exc_osaG {K : PySem.W.Frag} {name : Str} {tk : Tok} {v : Value} {x C : Addr} {fv : Array Value} {cd : ClassData}
    (X : K.In hp) (hx : hp.get? x = some { cls := .ref C, data := .fields fv }) (hcd : PySem.W.clsIn K C = some cd) (ne : cd.mro.isEmpty = false) (hob : cd.mro.contains (.type "object") = true) (hpass : refuseLoop (.ref x) "__setattr__" cd.mro = pure ()) (hh : cd.hasDict = true) (ha : PySem.W.findIn K (.ref C) name = some none)
    (hq : ∀ h' tk' dx, (∀ b o, b ≠ x → hp.get? b = some o → h'.get? b = some o) → hp.objs.size ≤ dx → dx ≠ x → h'.get? x = some { cls := .ref C, dict := some dx, data := .fields fv } →
      h'.Ns1 dx (fun y => if y = name then some v else none) → R (.ok (.ret .none)) ⟨h', g, d, tk', os⟩) :
    codeAny (model prog w) A (.call (.builtin "object.__setattr__") ⟨[.ref x, .str name tk, v], []⟩) R ⟨hp, g, d, t, os⟩ := by
  have I : PySem.W.InstAt hp x { cls := .ref C, data := .fields fv } C none := ⟨hx, rfl, rfl, trivial⟩
  have SF := F.store_object
  have hxs : x ≠ hp.objs.size := Nat.ne_of_lt (Heap.lt_size hx)
  have sub : PySem.W.Looks (model prog w) hp (isInstance (.ref x) (.type "object")) true := I.type.andThen (PySem.W.looks_mroIn X (by unfold PySem.W.mroIn; rw [hcd, Option.bind_some, if_neg (by rw [ne]; decide), hob]))
  refine codeAny_call_builtin SF.slot.plain SF.entry (@PySem.W.check_slot (model prog w) _ _ ⟨hp, g, d, t, os⟩ "object.__setattr__" "object" "__setattr__" (.ref x) [.str name tk, v] [] _ SF.kind SF.split sub (SF.args (.ref x) (.str name tk) v) ?_)
  have hmr : PySem.W.Looks (model prog w) hp (mroOf (.ref C)) cd.mro := (PySem.W.looks_clsIn X hcd).andThen .now
  have L3 : PySem.W.Looks (model prog w) hp (storeTaker? none) none := .now
  have hcls : PySem.W.Looks (model prog w) hp (classData C) cd := PySem.W.looks_clsIn X hcd
  rw [PySem.W.osa_eq, refuse_eq]
  refine wpAny_bind (wpAny_bind (I.type.at (wpAny_bind (hmr.at ?_))))
  rw [hpass]
  refine wpAny_pure (wpAny_bind (I.type.at (wpAny_bind ((PySem.W.looks_findIn X ha).at (wpAny_bind (L3.at ?_))))))
  show wpAny _ _ (storeInOwnDict (.ref x) (.ref C) (.str name tk) name v false) _ _ _
  obtain ⟨nm, bs, mro, ns, qn, hd, sn, sb, ab, col, del⟩ := cd
  dsimp only at hh
  subst hh
  unfold storeInOwnDict ownDictForStores
  repeat (first | with_reducible refine store_in_new ?_ ?_ | with_reducible refine wpAny_loadPart_at hx ?_ | with_reducible refine hcls.at ?_ | wp_step)
  · exact ⟨_, #[], _, (Heap.get?_update_ne _ _ _ _ hxs.symm).trans (Heap.get?_push_at rfl rfl), rfl, fun e he => absurd he (by simp), fun _ => rfl⟩
  · intro h' tk' hn' hs
    have hx₁ : (hp.push { cls := .type "dict", data := .dict #[] }).get? x = some { cls := .ref C, data := .fields fv } := Heap.get?_push_of_some _ hx
    refine hq h' tk' hp.objs.size (fun b o hb ho => ?_) (Nat.le_refl _) hxs.symm ?_ hn'
    · exact (hs.2 b (Nat.ne_of_lt (Heap.lt_size ho))).trans ((Heap.get?_update_ne _ _ _ _ hb).trans (Heap.get?_push_of_some _ ho))
    · exact (hs.2 x hxs).trans (Heap.get?_update_self _ hx₁ rfl)
theorem osa_oldG {K : PySem.W.Frag} {name : Str} {tk : Tok} {v : Value} {x C dx : Addr} {fv : Array Value} {cd : ClassData} {m0 : Str → Option Value} {nl : List Str}
    (X : K.In hp) (hx : hp.get? x = some { cls := .ref C, dict := some dx, data := .fields fv }) (hns : hp.Ns1 dx m0) (hw : Within m0 nl) (hz : nl.length ≤ 1000) (hcd : PySem.W.clsIn K C = some cd) (ne : cd.mro.isEmpty = false) (hob : cd.mro.contains (.type "object") = true) (hpass : refuseLoop (.ref x) "__setattr__" cd.mro = pure ()) (hh : cd.hasDict = true)
    (ha : PySem.W.findIn K (.ref C) name = some none)
    (hq : ∀ h' tk', (∀ b o, b ≠ dx → hp.get? b = some o → h'.get? b = some o) → h'.Ns1 dx (fun y => if y = name then some v else m0 y) → R (.ok (.ret .none)) ⟨h', g, d, tk', os⟩) :
    codeAny (model prog w) A (.call (.builtin "object.__setattr__") ⟨[.ref x, .str name tk, v], []⟩) R ⟨hp, g, d, t, os⟩ := by
  obtain ⟨oD, esD, epD, hoD, hdD, _⟩ := hns.count hw
  have I : PySem.W.InstAt hp x { cls := .ref C, dict := some dx, data := .fields fv } C (some oD) := ⟨hx, rfl, rfl, hoD⟩
  have SF := F.store_object
  have sub : PySem.W.Looks (model prog w) hp (isInstance (.ref x) (.type "object")) true := I.type.andThen (PySem.W.looks_mroIn X (by unfold PySem.W.mroIn; rw [hcd, Option.bind_some, if_neg (by rw [ne]; decide), hob]))
  refine codeAny_call_builtin SF.slot.plain SF.entry (@PySem.W.check_slot (model prog w) _ _ ⟨hp, g, d, t, os⟩ "object.__setattr__" "object" "__setattr__" (.ref x) [.str name tk, v] [] _ SF.kind SF.split sub (SF.args (.ref x) (.str name tk) v) ?_)
  have hmr : PySem.W.Looks (model prog w) hp (mroOf (.ref C)) cd.mro := (PySem.W.looks_clsIn X hcd).andThen .now
  have L3 : PySem.W.Looks (model prog w) hp (storeTaker? none) none := .now
  have hcls : PySem.W.Looks (model prog w) hp (classData C) cd := PySem.W.looks_clsIn X hcd
  rw [PySem.W.osa_eq, refuse_eq]
  refine wpAny_bind (wpAny_bind (I.type.at (wpAny_bind (hmr.at ?_))))
  rw [hpass]
  refine wpAny_pure (wpAny_bind (I.type.at (wpAny_bind ((PySem.W.looks_findIn X ha).at (wpAny_bind (L3.at ?_))))))
  show wpAny _ _ (storeInOwnDict (.ref x) (.ref C) (.str name tk) name v false) _ _ _
  obtain ⟨nm, bs, mro, ns, qn, hd, sn, sb, ab, col, del⟩ := cd
  dsimp only at hh
  subst hh
  unfold storeInOwnDict ownDictForStores
  repeat (first | with_reducible refine PySem.OEX.store_in_old hns hw hz ?_ | with_reducible refine wpAny_loadPart_at hx ?_ | with_reducible refine hcls.at ?_ | wp_step)
  intro h' tk' hn' hs
  exact hq h' tk' (fun b o hb ho => (hs.2 b hb).trans ho) hn'
end
section
variable {Bn newId initId : String} {T : List Value} (bx : BaseX Bn newId initId T) {X : Cx} {pins : List (Addr × Obj)} {σ : L2.St} {H : Hp} {s : Shared} {a C dx : Addr} {f : Str} {y : V} {u : Value} {fs : List (Str × V)} {Q : Unit → Shared → Prop} {E : Value → Shared → Prop} {A : Around}
include bx
/-- self.f = y, the first one -/
theorem ost_newG (T' : OexG newId T X.K C) (I : Inv X pins σ H s) (e : H a = some (exo a C none)) (hno : PySem.W.findIn X.K (.ref C) f = some none) (ry : RelV y u)
    (h : ∀ dx s', H dx = none → dx ≠ a → Inv X pins σ (upd (upd H dx (exd dx [(f, y)])) a (exo a C (some dx))) s' → Q () s') : wpAny (model X.prog X.w) A (setAttr (.ref a) f u) Q E s := by
  obtain ⟨nm, q, N, bs, bm, sn, sub, ab, col, dd, k0, k1, k2, k3, k5, hC, hbm⟩ := T'.cls
  have hcl : PySem.W.clsIn X.K C = some { name := nm, bases := bs, mro := .ref C :: bm, ns := N, qualname := q, hasDict := true, slotNames := sn, subclasses := sub, abstract := ab, collection := col, hasDel := false } := by unfold PySem.W.clsIn; rw [hC] <;> rfl
  have hm : refsT T (.ref C :: bm) = true := hbm
  obtain ⟨t1, ho⟩ := exo_at I.hok e
  obtain ⟨hp, g, d, t, os⟩ := s
  refine PySem.W.set_plain I.kIn (ox := { cls := .ref C, dict := none, data := .fields #[.ref t1, .none, .none, .none, .bool false, .none] }) (od := none) ⟨ho, rfl, rfl, trivial⟩ T'.sa ?_
  refine exc_osaG I.kIn ho hcl (bx.nempty hm) ((bx.contains "object" _ hm).trans bx.ob) (bx.passes _ _ hm) rfl hno (fun h' tk' dx k dn dne hx hn => ?_)
  have hnd : H dx = none := I.hok.fresh dn
  have nd : ∀ {b : Addr} {o : Obj}, hp.get? b = some o → b ≠ dx := fun {b o} q => Nat.ne_of_lt (Nat.lt_of_lt_of_le (Heap.lt_size q) dn)
  have na : ∀ {b : Addr}, H b = none → b ≠ a := fun {b} n z => by
    rw [z, e] at n
    cases n
  have Un1 : Un X.fs [] H (upd (upd H dx (exd dx [(f, y)])) a (exo a C (some dx))) hp h' := {
    keep := fun b o q n _ _ => k b o (na n) q
    slot := fun b o q n _ _ => ⟨o.slots, k b o (na n) q⟩
    free := fun b o q n _ => by rw [upd_ne (na n), upd_ne (nd q)]; exact n
    there := fun b o q _ => by
      by_cases hb : b = a
      · exact ⟨_, by rw [hb]; exact hx⟩
      · exact ⟨o, k b o hb q⟩
    tups := fun b xs q => by rw [upd_ne (at_ne e q exo_tup), upd_ne (ne_of_none q hnd)]; exact q
    frzs := fun b o v q => by rw [upd_ne (at_ne e q exo_frz), upd_ne (ne_of_none q hnd)]; exact q
    tbls := fun b ps q => ⟨#[], by rw [upd_ne (at_ne e q exo_tbl), upd_ne (ne_of_none q hnd), q]; simp⟩ }
  refine h dx _ hnd dne (I.un (t' := tk') Un1 fun b o q => ?_)
  by_cases hb : b = a
  · subst hb
    rw [upd_same] at q
    cases q
    exact exo_ok hx
  · rw [upd_ne hb] at q
    by_cases hd : b = dx
    · subst hd
      rw [upd_same] at q
      cases q
      exact exd_ok hn (relO_put (fs := []) ry fun g => True.intro)
    · rw [upd_ne hd] at q
      exact (I.hok b o q).stay (fun c v hc z => k c v (by
          rcases hc with hc | hc
          · rw [hc]
            exact hb
          · exact at_ne e hc exo_own) z)
        (fun c hc => by rw [upd_ne (at_ne e hc exo_own), upd_ne (ne_of_none hc hnd)]; exact hc) (fun c xs hc => by rw [upd_ne (at_ne e hc exo_tup), upd_ne (ne_of_none hc hnd)]; exact hc)
/-- self.f = y, a further one -/
theorem ost_oldG (T' : OexG newId T X.K C) (I : Inv X pins σ H s) (e : H a = some (exo a C (some dx))) (ed : H dx = some (exd dx fs)) (hl : fs.length ≤ 900) (hno : PySem.W.findIn X.K (.ref C) f = some none) (ry : RelV y u)
    (h : ∀ s', Inv X pins σ (upd H dx (exd dx ((f, y) :: fs))) s' → Q () s') : wpAny (model X.prog X.w) A (setAttr (.ref a) f u) Q E s := by
  obtain ⟨nm, q, N, bs, bm, sn, sub, ab, col, dd, k0, k1, k2, k3, k5, hC, hbm⟩ := T'.cls
  have hcl : PySem.W.clsIn X.K C = some { name := nm, bases := bs, mro := .ref C :: bm, ns := N, qualname := q, hasDict := true, slotNames := sn, subclasses := sub, abstract := ab, collection := col, hasDel := false } := by unfold PySem.W.clsIn; rw [hC] <;> rfl
  have hm : refsT T (.ref C :: bm) = true := hbm
  obtain ⟨t1, ho⟩ := exo_at I.hok e
  obtain ⟨mA, hns, rel⟩ := exd_at I.hok ed
  have hw := within_of rel
  obtain ⟨hp, g, d, t, os⟩ := s
  obtain ⟨oD, _, _, hoD, _, _⟩ := hns.count hw
  refine PySem.W.set_plain I.kIn (ox := { cls := .ref C, dict := some dx, data := .fields #[.ref t1, .none, .none, .none, .bool false, .none] }) (od := some oD) ⟨ho, rfl, rfl, hoD⟩ T'.sa ?_
  refine osa_oldG I.kIn ho hns hw (by rw [List.length_map]; omega) hcl (bx.nempty hm) ((bx.contains "object" _ hm).trans bx.ob) (bx.passes _ _ hm) rfl hno (fun h' tk' k hn => ?_)
  have hd : ∃ o, h'.get? dx = some o := by
    obtain ⟨o, _, _, e', _⟩ := hn
    exact ⟨o, e'⟩
  exact h _ (I.write (t' := tk') (x := dx) (e := dx) (o := exd dx ((f, y) :: fs)) (by rw [ed]; exact True.intro) (.inl rfl) k hd (exd_ok hn (relO_put ry rel)))
end
theorem baseLE : BaseX "LookupError" "LookupError.__new__" "LookupError.__init__" leTail :=
  ⟨PySem.F.excBase_LookupError, PySem.W.kxs_LookupError, fun self => by kernel_rfl, by decide +kernel, (fun e => nomatch e), fun c r e => nomatch e⟩
/-! ### super().__init__(..), then the fields -/
/-- an own __init__ as it stands behind the top: its closure one cell that holds its class; f its address, cc the cell, cda its code object, told by the file fl -/
structure SupD (K : PySem.W.Frag) (C : Addr) (name qual : Str) (params : Arguments) (body : List Stmt) (scope : Scope) (dvs : List V) (f cc cda : Addr) (fl : Str) (fd : FuncData) : Prop where
  ex : ∃ (oc : Value) (od : Option Addr) (dV kV doc pm : Value) (an : Option Addr) (ct : Value) (osl : Array (Option Value)),
    fd = PySem.W.fnX name qual params body scope [("__class__", cc)] dV kV doc pm an (.ref cda) ct ∧ K.lookup f = some ⟨oc, od, .func fd, osl⟩ ∧ DflV K dV dvs ∧ KwdV K kV []
  cell : ∃ (c0 : Value) (d0 : Option Addr) (s0 : Array (Option Value)), K.lookup cc = some ⟨c0, d0, .cell (some (.ref C)), s0⟩
  code : ∃ (c0 : Value) (d0 : Option Addr) (vs : Array Value) (s0 : Array (Option Value)) (tf : Tok), K.lookup cda = some ⟨c0, d0, .fields vs, s0⟩ ∧ vs[2]? = some (.str fl tf)
  cin : PySem.W.codeIn K (.ref cda) qual = true
  kp : PySem.W.keepIn K (.ref f) = true
/-- what is asked of the class beside it -/
structure SupC (Bn newId initId : String) (T : List Value) (K : PySem.W.Frag) (C : Addr) : Prop where
  ox : OexG newId T K C
  subB : PySem.W.subIn K (.ref C) (.type Bn) = some true
  sup : PySem.W.ks_superIn K C C "__init__" = some (some (.builtin initId))
  nop : PySem.W.nsIn K cStatics "thirdparty.any" = some none
  sub : PySem.W.mroIn K C (.ref C) = some true
theorem exo_inst {P : Program} {w : World} {H : Hp} {h : Heap} {e C : Addr} (hok : HOk P w H h) (he : H e = some (exo e C none)) : ∃ t1 : Addr, PySem.W.InstAt h e ({ cls := .ref C, dict := none, data := .fields #[.ref t1, .none, .none, .none, .bool false, .none] } : Obj) C none := by
  obtain ⟨t1, ho⟩ := exo_at hok he
  exact ⟨t1, ho, rfl, rfl, trivial⟩
section
variable {Bn newId initId : String} {T : List Value} (bx : BaseX Bn newId initId T) {X : Cx} {pins : List (Addr × Obj)} {σ : L2.St} {H : Hp} {s : Shared} {e C : Addr} {Q : Value → Shared → Prop}
include bx
/-- the built-in __init__ bound to e by u, called -/
theorem oinit_G {u : Addr} {us : List Value} (T' : OexG newId T X.K C) (I : Inv X pins σ H s) (he : H e = some (exo e C none)) (hu : s.heap.get? u = some (PySem.W.kxs_mw initId e)) (hl : us.length ≤ sizeLine) (h : ∀ s', Inv X pins σ H s' → Q .none s') :
    wpAny (model X.prog X.w) X.A (call (.ref u) us) Q X.xe s := by
  obtain ⟨nm, q, N, bs, bm, sn, sub, ab, col, dd, k0, k1, k2, k3, k5, hC, hbm⟩ := T'.cls
  obtain ⟨t1, ho⟩ := exo_at I.hok he
  have hC' := I.kIn _ _ hC
  obtain ⟨hp, g, d, tk, os⟩ := s
  have fin : ∀ h', (∀ b o, b ≠ e → hp.get? b = some o → h'.get? b = some o) → h'.get? e = some (PySem.W.excObj C hp.objs.size none .none) → h'.get? hp.objs.size = some (PySem.W.excTup us) → Q .none ⟨h', g, d, tk, os⟩ := fun h' k e' t' => by
    have J := I.write (t' := tk) (x := e) (e := e) (o := exo e C none) (by rw [he]; exact True.intro) (.inl rfl) k ⟨_, e'⟩ (exo_ok e')
    have eu : upd H e (exo e C none) = H := by
      funext b
      by_cases hb : b = e
      · rw [hb, upd_same, he]
      · rw [upd_ne hb]
    rw [eu] at J
    exact h _ J
  refine wpAny_call (codeAny_of_tree ?_)
  show wpAny _ X.A.in1 (callAny (.ref u) ⟨us, []⟩) _ _ _
  simp only [callAny]
  refine wpAny_bind (wpAny_load hu ?_)
  simp only [PySem.W.kxs_mw, show (Value.type "method-wrapper" == Value.type "method" || Value.type "method-wrapper" == Value.type "builtin_function_or_method" || Value.type "method-wrapper" == Value.type "method-wrapper") = true by decide, if_true]
  refine PySem.W.KFB.if_so (by decide) ?_
  refine wpAny_bind (PySem.W.check_bound_init bx.F.toExcCallFacts hC' ho rfl ?_)
  refine wpAny_bind (wpAny_pure (wpAny_pure ?_))
  refine ⟨plainId_quiet bx.F.init.plain _, codeAny_builtin bx.F.initEntry ?_⟩
  exact PySem.W.exc_init_tree (cls := .ref C) (t0 := t1) (dv := none) (c2 := .none) (c3 := .none) (b4 := .bool false) ho hl fin
end
/-- what is pinned besides -/
theorem pin_more {X : Cx} {pins : List (Addr × Obj)} {σ : L2.St} {H : Hp} {s : Shared} {u : Addr} {o : Obj} (I : Inv X pins σ H s) (hg : s.heap.get? u = some o) (hH : H u = none) (hl : u ≠ X.env.locals) (hf : u ∉ X.fs) (hc : ∀ v, o.data ≠ .cell v) : Inv X ((u, o) :: pins) σ H s := by
  refine ⟨I.ok, I.os, I.bare, I.base, I.loc, I.cell, I.free, I.freeC, fun p hp => ?_, I.hok, I.len⟩
  rcases List.mem_append.mp hp with h | h
  · exact I.pin p (List.mem_append_left _ h)
  · rcases List.mem_cons.mp h with rfl | h
    · exact ⟨hg, hH, hl, hf, hc⟩
    · exact I.pin p (List.mem_append_right _ h)
theorem unpin {X : Cx} {pins : List (Addr × Obj)} {σ : L2.St} {H : Hp} {s : Shared} {q : Addr × Obj} (I : Inv X (q :: pins) σ H s) : Inv X pins σ H s := by
  refine ⟨I.ok, I.os, I.bare, I.base, I.loc, I.cell, I.free, I.freeC, fun p hp => ?_, I.hok, I.len⟩
  rcases List.mem_append.mp hp with h | h
  · exact I.pin p (List.mem_append_left _ h)
  · exact I.pin p (List.mem_append_right _ (List.mem_cons_of_mem _ h))
section
variable {Bn newId initId : String} {T : List Value} (bx : BaseX Bn newId initId T) {X : Cx} {pins : List (Addr × Obj)} {σ : L2.St} {H : Hp} {s : Shared} {a C cc cda f : Addr}
include bx
/-- super().__init__(..) in an own __init__ -/
theorem sup_expr {body : List Stmt} {p0 p1 p2 p4 : Pos} {e1 : Expr} {es1 : List Expr} {oc ac0 c0 : Value} {od ad0 d0 : Option Addr} {fd : FuncData} {osl as0 s0 : Array (Option Value)} {ar : Arg} {avs : Array Value} {fl : Str} {tf : Tok} {i : Nat} {ta : TA} {Q : Hp → Prop}
    (CC : SupC Bn newId initId T X.K C) (I : Inv X pins σ H s) (hks : Gl X "super") (hkc : X.env.kindOf "__class__" = some .free) (hfu : X.env.func = some f) (hf : X.K.lookup f = some ⟨oc, od, .func fd, osl⟩) (hp : (fd.params.posonlyargs ++ fd.params.args).head? = some ar)
    (hco : X.env.code = .ref cda) (hcc : X.K.lookup cda = some ⟨ac0, ad0, .fields avs, as0⟩) (hvs : avs[2]? = some (.str fl tf)) (hfile : ((X.prog.main.file : Str) == fl) = true) (htop : (X.prog.main.scope.names.lookup ("super" : Str)).isSome = false) (hsu : X.mg "super" = none)
    (hi : X.N[i]? = some ar.arg) (hσ : σ[i]? = some (some (.ref a))) (hvis : X.env.kindOf ar.arg = some .local) (hcell : X.env.cells.lookup ("__class__" : Str) = some cc) (hck : X.K.lookup cc = some ⟨c0, d0, .cell (some (.ref C)), s0⟩) (ea : H a = some (exo a C none))
    (ha : PA X (e1 :: es1) ta) (q : ta σ H fun us H1 => us.length ≤ 1000 ∧ H1 a = some (exo a C none) ∧ Q H1)
    (he : starEach (e1 :: es1) X.env = (false, eval e1 X.env) :: starEach es1 X.env) (hpl : (backTo p4 (starEach es1 X.env)).any (·.1) = false) {pl : Sem Bool}
    (hmc : eval (.Call (.Attribute (.Call (.Name "super" p0) [] [] p1) "__init__" p2) (e1 :: es1) [] p4) X.env = (do
      let ov ← attributeBase (.Call (.Name "super" p0) [] [] p1) "__init__" X.env (eval (.Call (.Name "super" p0) [] [] p1) X.env)
      standAt p2.atName
      let (f, first) ← holding [ov] (getMethod ov "__init__" pl)
      callWith p4 f first (backTo p4 (starEach (e1 :: es1) X.env)) [])) :
    PySem.wpAt (model X.prog X.w) X.A (.func body X.env) (eval (.Call (.Attribute (.Call (.Name "super" p0) [] [] p1) "__init__" p2) (e1 :: es1) [] p4) X.env) (fun _ s' => ∃ H1, Inv X pins σ H1 s' ∧ Q H1) X.xe s := by
  have KI := I.kIn
  obtain ⟨nm, q0, N0, bs, bm, sn, sub, ab, col, dd, k0, k1, k2, k3, k5, hC, hbm⟩ := CC.ox.cls
  have hcl : PySem.W.clsIn X.K C = some { name := nm, bases := bs, mro := .ref C :: bm, ns := N0, qualname := q0, hasDict := true, slotNames := sn, subclasses := sub, abstract := ab, collection := col, hasDel := false } := by unfold PySem.W.clsIn; rw [hC] <;> rfl
  refine ks_wpAt_MethodCall ?_ hmc
  refine ks_wpAt_super_base hks hkc (by decide) hfu (KI _ _ hf) rfl hp hco (KI _ _ hcc) rfl hvs hfile htop ?_
  obtain ⟨mb, hb1, hb2⟩ := I.mod.blt
  refine PySem.W.ks_loadName_global I.ok.kind hks (Calls.loadGlobal_builtin (by rw [I.ok.glob]; exact I.mod.glob.keeps I.bk) hsu (by rw [I.ok.blt]; exact hb1.keeps I.bk) ((hb2 "super" (by decide)).trans (by first | rfl | kernel_rfl)) ⟨rfl, ?_⟩)
  refine wpAny_loadName_free I.ok.kind hkc hcell ⟨_, KI _ _ hck, rfl⟩ ?_
  obtain ⟨m, hn, hlk⟩ := I.loc
  obtain ⟨u, ru, lu⟩ := hlk i ar.arg _ hi hσ (.inl hvis)
  obtain rfl : u = Value.ref a := ru
  have hm : m ar.arg = some (.ref a) := by
    rcases lu with ⟨_, h⟩ | ⟨h, _⟩
    · exact h
    · rcases h with h | h <;> (rw [hvis] at h; cases h)
  refine wpAny_loadName_local I.ok.kind hvis hn hm ?_
  obtain ⟨t1, J0⟩ := exo_inst I.hok ea
  refine ks_wpAny_isType_cls (KI _ _ hC) rfl ⟨rfl, ?_⟩
  obtain ⟨hh, g, d, tk, os⟩ := s
  refine ks_wpAny_call_super (KI _ _ hC) rfl J0.at_ rfl (fun c e => nomatch e) (PySem.W.looks_mroIn KI CC.sub) (fun h' e k => ?_)
  have I1 : Inv X pins σ H ⟨h', g, d, tk, os⟩ := I.kept (t' := tk) k
  obtain ⟨t2, J1⟩ := exo_inst I1.hok ea
  have hB : PySem.W.Looks (model X.prog X.w) h' (isInstance (.ref a) (.type Bn)) true := J1.type.andThen (PySem.W.looks_subIn I1.kIn CC.subB)
  have hal : PySem.W.alongIn X.K "__init__" (((.ref C :: bm : List Value).dropWhile (· != .ref C)).drop 1) = some (some (.builtin initId)) := by
    have z := CC.sup
    unfold PySem.W.ks_superIn at z
    rw [hcl] at z
    exact z
  refine PySem.W.kxs_getMethod bx.KF e (PySem.W.looks_opaque I1.kIn CC.nop) (l₀ := .ref C :: bm) (fun A Q E s k q => wpAny_bind ((PySem.W.looks_clsIn I1.kIn hcl) A _ E s k (wpAny_pure q))) rfl I1.kIn hal hB (PySem.W.ks_ne I1.kIn J1 hcl) (by decide) ?_
  have hk2 : ∀ b o, h'.get? b = some o → (h'.push (PySem.W.kxs_mw initId a)).get? b = some o := fun b o e => Heap.get?_push_of_some _ e
  have I2 : Inv X pins σ H ⟨h'.push (PySem.W.kxs_mw initId a), g, d, tk + 1, os⟩ := I1.kept (t' := tk + 1) hk2
  have hu : (h'.push (PySem.W.kxs_mw initId a)).get? h'.objs.size = some (PySem.W.kxs_mw initId a) := Heap.get?_push_size _ rfl
  have I3 : Inv X ((h'.objs.size, PySem.W.kxs_mw initId a) :: pins) σ H ⟨h'.push (PySem.W.kxs_mw initId a), g, d, tk + 1, os⟩ :=
    pin_more I2 hu (I1.hok.fresh (Nat.le_refl _)) (Nat.ne_of_gt I1.lt) (I1.nofs (Nat.le_refl _)) (fun v e => nomatch e)
  rw [he]
  refine PySem.W.kxs_callWith (i := initId) (x := a) (by show (false || (backTo p4 (starEach es1 X.env)).any (·.1)) = false; rw [hpl]; rfl) ?_
  refine Calls.evalArgs_plain ?_
  have hrun := ha.run p4 _ _ σ H _ I3 q
  rw [he] at hrun
  refine wpAny_mono hrun (fun us s3 ⟨vs, H3, I4, r4, hz, e4, q4⟩ => ?_) fun _ _ z => z
  obtain ⟨hp4, _⟩ := I4.pin (h'.objs.size, PySem.W.kxs_mw initId a) (List.mem_append_right _ List.mem_cons_self)
  refine ⟨hp4, ?_⟩
  have hlen : us.length ≤ sizeLine := by
    rw [← Paired.length r4, sizeLine_eq]
    omega
  exact oinit_G bx CC.ox (unpin I4) e4 hp4 hlen fun s' J => ⟨H3, J, q4⟩
end
section
variable {Bn newId initId : String} {T : List Value} (bx : BaseX Bn newId initId T) {CX : CXT} {P : Program} {w : World} {K : PySem.W.Frag} {mg : Str → Option Value} {base : Heap} {k : Nat} {C : Addr}
include bx
/-- an own __init__ that first calls super().__init__(..) -/
theorem fn_sup {N ps : List Str} {name qual : Str} {params : Arguments} {body : List Stmt} {scope : Scope} {e1 : Expr} {es1 : List Expr} {rest : List Stmt} {dvs : List V} {f cc cda : Addr} {fl : Str} {fd : FuncData} {sp : Sp} {p0 p1 p2 p4 p5 : Pos} {ar : Arg}
    (D : SupD K C name qual params body scope dvs f cc cda fl fd) (CC : SupC Bn newId initId T K C) (hbd : body = .Expr (.Call (.Attribute (.Call (.Name "super" p0) [] [] p1) "__init__" p2) (e1 :: es1) [] p4) p5 :: rest)
    (hfile : (P.main.file == fl) = true) (htop : (P.main.scope.names.lookup ("super" : Str)).isSome = false) (hsu : mg "super" = none)
    (S : NdefX.NScope N ps ["__class__"] scope) (hks : scope.names.lookup ("super" : Str) = some .globalImplicit) (hp : (params.posonlyargs ++ params.args).head? = some ar) (hps : ps[0]? = some ar.arg)
    (len : ∀ vs H Q E, sp vs H Q E → vs.length = ps.length)
    (he : ∀ env, starEach (e1 :: es1) env = (false, eval e1 env) :: starEach es1 env) (hpl : ∀ env, (backTo p4 (starEach es1 env)).any (·.1) = false) {pl : Env → Sem Bool}
    (hmc : ∀ env, eval (.Call (.Attribute (.Call (.Name "super" p0) [] [] p1) "__init__" p2) (e1 :: es1) [] p4) env = (do
      let ov ← attributeBase (.Call (.Name "super" p0) [] [] p1) "__init__" env (eval (.Call (.Name "super" p0) [] [] p1) env)
      standAt p2.atName
      let (f, first) ← holding [ov] (getMethod ov "__init__" (pl env))
      callWith p4 f first (backTo p4 (starEach (e1 :: es1) env)) []))
    (hin : ∀ (L a c : Addr) (cl : List (Str × Addr)), interactive (PySem.W.envX qual scope L a (.ref c) cl) = false)
    (hbody : ∀ (A : Around) (outer : List Env) (s : Shared) (H : Hp) (vs : List V) (Q : VK) (E : XK), sp vs H Q E →
      ∃ (a : Addr) (ws : List V), vs = .ref a :: ws ∧ H a = some (exo a C none) ∧ ∃ ta t, PA (ncx CX P w K mg base N ⟨name, qual, params, body, scope, [("__class__", cc)], cda⟩ f A outer s H E) (e1 :: es1) ta ∧
        PSs (ncx CX P w K mg base N ⟨name, qual, params, body, scope, [("__class__", cc)], cda⟩ f A outer s H E) rest t ∧
        ta (startF N vs [some (.ref C)]) H fun us H1 => us.length ≤ 1000 ∧ H1 a = some (exo a C none) ∧ t { nx := fun _ H' => Q .non H', rt := Q } (startF N vs [some (.ref C)]) H1) : FnOk P w K mg base CX (k + 1) f fd ps sp := by
  refine ⟨len, fun A outer s H args us vs Q E hr e0 hb r hsp => ?_⟩
  obtain ⟨oc, od, dV, kV, doc, pm, an, ct, osl, rfl, lk, hd, hk⟩ := D.ex
  obtain ⟨cc0, cd0, cs0, ck⟩ := D.cell
  obtain ⟨ac0, ad0, avs, as0, tf, ak, av⟩ := D.code
  have hl := len _ _ _ _ hsp
  have KX : K.In s.heap := e0.mod.kin.keeps fun b o e => (e0.bs b o e).1
  have lim : s.heap.NoLimit := e0.mod.nolimit.keeps fun b o e => (e0.bs b o e).1
  have ckb := e0.mod.kin _ _ ck
  refine codeAny_call_function hr.depth (KX _ _ lk) rfl S.co S.gen rfl (PySem.W.codeRec_of KX D.cin) (hb _ _ _ _ ?_)
  refine wpAny_newFunctionEnv S.nocell (fun ⟨n, _⟩ hy => S.par n (List.of_mem_zip hy).1) (fun h₁ hns hsb => ⟨lim.fresh _ hsb, ?_⟩) S.kind
  have kp : ∀ b o, s.heap.get? b = some o → h₁.get? b = some o := fun b o e => hsb.extBut b o (Nat.ne_of_lt (Heap.lt_size e)) (Heap.get?_push_of_some _ e)
  obtain ⟨a, ws, rfl, ea, ta, t, hta, ht, hq⟩ := hbody A outer s H vs Q E hsp
  have Cl : CellsAt [("__class__", cc)] ["__class__"] [some (.ref C)] s.heap H := by
    refine ⟨rfl, fun y c e => ?_, fun x y c e1 e2 => ?_, fun i y e => ?_⟩
    · have e := PySem.mem_of_lookup e
      simp only [List.mem_singleton, Prod.mk.injEq] at e
      obtain ⟨rfl, rfl⟩ := e
      exact ⟨(e0.bs _ _ ckb).2, _, _, (e0.bs _ _ ckb).1, rfl⟩
    · have e1 := PySem.mem_of_lookup e1
      have e2 := PySem.mem_of_lookup e2
      simp only [List.mem_singleton, Prod.mk.injEq] at e1 e2
      rw [e1.1, e2.1]
    · cases i with
      | zero =>
        simp only [List.getElem?_cons_zero, Option.some.injEq] at e
        subst e
        exact ⟨cc, rfl, fun v hv => by
          simp only [List.getElem?_cons_zero, Option.some.injEq] at hv
          subst hv
          exact ⟨.ref C, rfl, _, (e0.bs _ _ ckb).1, rfl⟩⟩
      | succ i => simp at e
  have I : Inv (ncx CX P w K mg base N ⟨name, qual, params, body, scope, [("__class__", cc)], cda⟩ f A outer s H E) [] (startF N (.ref a :: ws) [some (.ref C)]) H { s with heap := h₁, toks := s.toks + (ps.zip us).length } := inv_startN S hr.hd e0 hl r Cl hns kp
  show codeAny _ _ (.func body (envF ⟨name, qual, params, body, scope, [("__class__", cc)], cda⟩ f s.heap.objs.size)) _ _
  refine ks_codeAny_funcAt ?_
  have go : PySem.wpAt (model P w) (A.deeper (envF ⟨name, qual, params, body, scope, [("__class__", cc)], cda⟩ f s.heap.objs.size)) (.func body (envF ⟨name, qual, params, body, scope, [("__class__", cc)], cda⟩ f s.heap.objs.size)) (execs body (envF ⟨name, qual, params, body, scope, [("__class__", cc)], cda⟩ f s.heap.objs.size))
      (SP (ncx CX P w K mg base N ⟨name, qual, params, body, scope, [("__class__", cc)], cda⟩ f A outer s H E) [] { nx := fun _ H' => Q .non H', rt := Q }) (ncx CX P w K mg base N ⟨name, qual, params, body, scope, [("__class__", cc)], cda⟩ f A outer s H E).xe { s with heap := h₁, toks := s.toks + (ps.zip us).length } := by
    have hX : ∃ B : List Stmt, B = body := ⟨_, rfl⟩
    obtain ⟨B, hB⟩ := hX
    rw [← hB] at hta ht I ⊢
    rw [show execs B (envF ⟨name, qual, params, B, scope, [("__class__", cc)], cda⟩ f s.heap.objs.size) = execs (.Expr (.Call (.Attribute (.Call (.Name "super" p0) [] [] p1) "__init__" p2) (e1 :: es1) [] p4) p5 :: rest) (envF ⟨name, qual, params, B, scope, [("__class__", cc)], cda⟩ f s.heap.objs.size) by rw [hB, hbd]]
    refine ks_wpAt_execs_cons (ks_wpAt_Expr_any ?_ (hin _ _ _ _) rfl)
    refine ks_wpAt_mono (sup_expr (X := ncx CX P w K mg base N ⟨name, qual, params, B, scope, [("__class__", cc)], cda⟩ f A outer s H E) (i := 0) bx CC I hks (S.frk _ List.mem_cons_self) rfl lk hp rfl ak av hfile htop hsu ?_ rfl ?_ rfl ck ea hta hq (he _) (hpl _) (hmc _)) (fun _ s' ⟨H1, J, q⟩ => ?_) fun _ _ z => z
    · have z := S.pre
      have hpl0 : 0 < ps.length := by
        cases ps with
        | nil => simp at hps
        | cons _ _ => simp
      have : (N.take (ps.length + 1))[0]? = some ar.arg := by
        rw [show ps.length + 1 = ps.length + (["__class__"] : List Str).length from rfl, z, List.getElem?_append_left hpl0]; exact hps
      rw [List.getElem?_take_of_lt (by omega)] at this
      exact this
    · exact S.par _ (List.mem_of_getElem? hps)
    · exact PySem.wpAt_of_wpAny (ht.run [] s' _ H1 _ J q)
  refine ks_wpAt_mono go (fun fl s' hs => ?_) fun e s' hs => hs
  have fin : ∀ {σ' : L2.St} {H' : Hp} {v : V} {u : Value}, Inv (ncx CX P w K mg base N ⟨name, qual, params, body, scope, [("__class__", cc)], cda⟩ f A outer s H E) [] σ' H' s' → L2.RelV v u → Q v H' → CE outer P w H s Q u s' :=
    fun {σ' H' v u} J rv q => ⟨v, H', J.os, J.bare, J.base, J.hok, rv, q⟩
  cases fl with
  | ret u =>
    obtain ⟨v, σ', H', J, rv, q⟩ := hs
    exact fin J rv q
  | next =>
    obtain ⟨σ', H', J, q⟩ := hs
    exact fin (v := V.non) (u := Value.none) J rfl q
  | brk =>
    obtain ⟨_, _, _, q⟩ := hs
    exact False.elim q
  | cont =>
    obtain ⟨_, _, _, q⟩ := hs
    exact False.elim q
end
end My
/-! ### errors with fields: made, caught, kept -/
namespace My
open PySem PySem.Spec PyProof.Rows L2 NdefX
/-! #### what the top has written of them -/
def oexB (x : Str) (newId : String) (T : List Value) : PySem.W.Frag → Bool := fun K =>
  (match K.lookup (He.ga K x) with
    | some ⟨.type "type", _, .cls cd, sl⟩ => (match cd.mro, sl.toList with
      | .ref C' :: bm, [_, _, _, _, some (.builtin n), _] => C' == He.ga K x && (n == newId && (!cd.hasDel && (cd.hasDict && refsT T bm)))
      | _, _ => false)
    | _ => false) && (He.eqO (PySem.W.findIn K (.ref (He.ga K x)) "__setattr__") (some (some (.builtin "object.__setattr__"))) && (decide (PySem.W.subIn K (.ref (He.ga K x)) (.type "BaseException") = some true) && (decide (PySem.W.typeIn K (.ref (He.ga K x)) = some (.type "type")) && PySem.W.keepIn K (.ref (He.ga K x)))))
theorem oex_ok {x : Str} {newId : String} {T : List Value} {K : PySem.W.Frag} (c : oexB x newId T K = true) : OexG newId T K (He.ga K x) := by
  obtain ⟨c1, c⟩ := He.ba c
  obtain ⟨c2, c⟩ := He.ba c
  obtain ⟨c3, c⟩ := He.ba c
  obtain ⟨c4, c5⟩ := He.ba c
  refine ⟨?_, He.eqO_ok c2, of_decide_eq_true c3, of_decide_eq_true c4, c5⟩
  split at c1
  · rename_i dd cd sl ho
    split at c1
    · rename_i C' bm k0 k1 k2 k3 n k5 hm hs
      simp only [Bool.and_eq_true, beq_iff_eq, Bool.not_eq_true'] at c1
      obtain ⟨rfl, rfl, hdel, hdict, ht⟩ := c1
      obtain ⟨nm, bs, mro, ns, qn, hd, sn, sub, ab, col, del⟩ := cd
      dsimp only at hm hdel hdict
      subst hm hdel hdict
      have hsl : sl = #[k0, k1, k2, k3, some (.builtin n), k5] := by
        obtain ⟨l⟩ := sl
        simp only at hs
        rw [hs]
      subst hsl
      exact ⟨nm, qn, ns, bs, bm, sn, sub, ab, col, dd, k0, k1, k2, k3, k5, ho, ht⟩
    · cases c1
  · cases c1
def supCB (x : Str) (Bn newId initId : String) (T : List Value) : PySem.W.Frag → Bool := fun K => oexB x newId T K && (decide (PySem.W.subIn K (.ref (He.ga K x)) (.type Bn) = some true) && (He.eqO (PySem.W.ks_superIn K (He.ga K x) (He.ga K x) "__init__") (some (some (.builtin initId))) && (He.eqO (PySem.W.nsIn K cStatics "thirdparty.any") (some none) && decide (PySem.W.mroIn K (He.ga K x) (.ref (He.ga K x)) = some true))))
theorem supC_ok {x : Str} {Bn newId initId : String} {T : List Value} {K : PySem.W.Frag} (c : supCB x Bn newId initId T K = true) : SupC Bn newId initId T K (He.ga K x) := by
  obtain ⟨c1, c⟩ := He.ba c
  obtain ⟨c2, c⟩ := He.ba c
  obtain ⟨c3, c⟩ := He.ba c
  obtain ⟨c4, c5⟩ := He.ba c
  exact ⟨oex_ok c1, of_decide_eq_true c2, He.eqO_ok c3, He.eqO_ok c4, of_decide_eq_true c5⟩
/-- where its __init__ stands -/
structure SupI (K : PySem.W.Frag) (C : Addr) : Prop where
  it : PySem.W.findIn K (.ref C) "__init__" = some (some (.ref (He.ma K C "__init__")))
  ty : PySem.W.typeIn K (.ref (He.ma K C "__init__")) = some (.type "function")
def supIB (x : Str) : PySem.W.Frag → Bool := fun K => He.eqO (PySem.W.findIn K (.ref (He.ga K x)) "__init__") (some (some (.ref (He.ma K (He.ga K x) "__init__")))) && decide (PySem.W.typeIn K (.ref (He.ma K (He.ga K x) "__init__")) = some (.type "function"))
theorem supI_ok {x : Str} {K : PySem.W.Frag} (c : supIB x K = true) : SupI K (He.ga K x) := by
  obtain ⟨c1, c2⟩ := He.ba c
  exact ⟨He.eqO_ok c1, of_decide_eq_true c2⟩
def xfNB (x f : Str) : PySem.W.Frag → Bool := fun K => xfB K (He.ga K x) && He.eqO (PySem.W.findIn K (.ref (He.ga K x)) f) (some none)
/-- a field of its own, which the class doesn't have -/
structure XfN (K : PySem.W.Frag) (C : Addr) (f : Str) : Prop where
  c : XfC K C
  no : PySem.W.findIn K (.ref C) f = some none
theorem xfN_ok {x f : Str} {K : PySem.W.Frag} (c : xfNB x f K = true) : XfN K (He.ga K x) f := by
  obtain ⟨c1, c2⟩ := He.ba c
  exact ⟨xfB_ok c1, He.eqO_ok c2⟩
abbrev SupW : Type := Option (Str × Str × Arguments × FuncBody × Scope × Addr × List Str × Addr)
def supW (K : PySem.W.Frag) (p : Str × Option Str) : SupW := match K.lookup (He.fAd K p) with
  | some ⟨_, _, .func fd, _⟩ => some (fd.name, fd.qualname, fd.params, fd.body, fd.scope, fd.globals, fd.closure.map (·.1), fd.builtins)
  | _ => none
def supVal (d : He.DefD) : SupW := some (d.name, d.qual, d.params, .stmts d.body, d.scope, mainGlobals, ["__class__"], builtinsNs)
def supDB (x : Str) (d : He.DefD) (file : Str) : PySem.W.Frag → Bool := fun K => PySem.W.keepIn K (.ref (He.fAd K d.at_)) && (match K.lookup (He.fAd K d.at_) with
  | some ⟨_, _, .func fd, _⟩ => PySem.W.codeIn K fd.code d.qual && (He.dflB K fd.defaults (d.dvs K) && (He.kwdB K fd.kwdefaults [] && ((match fd.closure with
    | [(_, cc)] => (match K.lookup cc with
      | some ⟨_, _, .cell (some (.ref C)), _⟩ => C == He.ga K x
      | _ => false)
    | _ => false) && (match fd.code with
    | .ref cda => (match K.lookup cda with
      | some ⟨_, _, .fields vs, _⟩ => (match (vs[2]? : Option Value) with
        | some (.str fl _) => fl == file
        | _ => false)
      | _ => false)
    | _ => false))))
  | _ => false)
theorem supD_ok {x : Str} {d : He.DefD} {file : Str} {K : PySem.W.Frag} (e : supW K d.at_ = supVal d) (c : supDB x d file K = true) : ∃ fd cc cda, SupD K (He.ga K x) d.name d.qual d.params d.body d.scope (d.dvs K) (He.fAd K d.at_) cc cda file fd := by
  obtain ⟨kp, c2⟩ := He.ba c
  unfold supW at e
  cases q : K.lookup (He.fAd K d.at_) with
  | none =>
    rw [q] at c2
    cases c2
  | some o =>
    obtain ⟨oc, od, dt, osl⟩ := o
    rw [q] at c2 e
    cases dt with
    | func fd =>
      obtain ⟨n1, n2, n3, n4, n5, n6, n7, n8, n9, n10, n11, n12, n13, n14, n15⟩ := fd
      have e2 : (some (n1, n2, n3, n4, n5, n6, n7.map (·.1), n15) : SupW) = (some (d.name, d.qual, d.params, FuncBody.stmts d.body, d.scope, mainGlobals, [("__class__" : Str)], builtinsNs) : SupW) := e
      simp only [Option.some.injEq, Prod.mk.injEq] at e2
      obtain ⟨h1, h2, h3, h4, h5, h6, h7, h8⟩ := e2
      subst h1 h2 h3 h4 h5 h6 h8
      obtain ⟨k1, c3⟩ := He.ba c2
      obtain ⟨k2, c4⟩ := He.ba c3
      obtain ⟨k3, c5⟩ := He.ba c4
      obtain ⟨k4, k5⟩ := He.ba c5
      clear c2 c3 c4 c5 e
      dsimp only at k1 k2 k3 k4 k5
      split at k4
      · rename_i n0 cc
        have e7 : n0 = ("__class__" : Str) := by simpa using h7
        subst e7
        split at k4
        · rename_i c0 d0 C s0 hcc
          have eC : C = He.ga K x := beq_iff_eq.mp k4
          subst eC
          split at k5
          · rename_i cda
            split at k5
            · rename_i a0 b0 vs s1 hcd
              split at k5
              · rename_i fl tf hvs
                have ef : fl = file := beq_iff_eq.mp k5
                subst ef
                exact ⟨_, cc, cda, ⟨oc, od, n8, n9, n10, n11, n12, n14, osl, rfl, q, He.dflB_ok k2, He.kwdB_ok k3⟩, ⟨_, _, _, hcc⟩, ⟨_, _, _, _, tf, hcd, hvs⟩, k1, kp⟩
              · cases k5
            · cases k5
          · cases k5
        · cases k4
      · cases k4
    | _ => cases c2
/-! #### the head with such __init__ -/
theorem sup_at {K : PySem.W.Frag} {sp : List He.DefD} (c : sp.map (fun d => supW K d.at_) = sp.map supVal) (i : Nat) {d : He.DefD} (h : sp[i]? = some d) : supW K d.at_ = supVal d := by
  have e2 : (sp.map fun d => supW K d.at_)[i]? = (sp.map supVal)[i]? := by rw [c]
  rw [List.getElem?_map, List.getElem?_map, h] at e2
  exact Option.some.inj e2
theorem SupD.bindsA {K : PySem.W.Frag} {C : Addr} {name qual : Str} {params : Arguments} {body : List Stmt} {scope : Scope} {f cc cda : Addr} {fl : Str} {fd : FuncData} {ps : List Str} (D : SupD K C name qual params body scope [] f cc cda fl fd)
    (h : ∀ (kV doc pm : Value) (an : Option Addr) (ct : Value) (us : List Value), us.length = ps.length → bindArgs (PySem.W.fnX name qual params body scope [("__class__", cc)] .none kV doc pm an (.ref cda) ct) ⟨us, []⟩ = pure (ps.zip us)) : Binds K fd ps [] := by
  obtain ⟨oc, od, dV, kV, doc, pm, an, ct, osl, rfl, lk, hD, hK⟩ := D.ex
  rcases hD with ⟨_, rfl⟩ | ⟨e, _⟩
  · exact .all (h kV doc pm an ct)
  · exact absurd rfl e
/-! #### self.f = e -/
def tOstG (newId : String) (T : List Value) (K : PySem.W.Frag) (f : Str) (to te : TE) : TS := fun D σ H => te σ H fun y H1 => to σ H1 fun x H2 => ∃ a C : Addr, x = .ref a ∧ OexG newId T K C ∧ PySem.W.findIn K (.ref C) f = some none ∧
  ((H2 a = some (exo a C none) ∧ ∀ dx, H2 dx = none → dx ≠ a → D.nx σ (upd (upd H2 dx (exd dx [(f, y)])) a (exo a C (some dx)))) ∨
    ∃ (dx : Addr) (fs : List (Str × V)), H2 a = some (exo a C (some dx)) ∧ H2 dx = some (exd dx fs) ∧ fs.length ≤ 900 ∧ D.nx σ (upd H2 dx (exd dx ((f, y) :: fs))))
theorem ps_ostG {Bn newId initId : String} {T : List Value} (bx : BaseX Bn newId initId T) {X : Cx} {o e : Expr} {to te : TE} {f : Str} {p' pos : Pos} (ho : PE X o to) (he : PE X e te) (hs : swapsWith e (some (.Attribute o f p')) pos.line X.env = pure false := by rfl) : PS X (.Assign [.Attribute o f p'] e pos) (tOstG newId T X.K f to te) := by
  refine ⟨fun pins s σ H D I h => ?_⟩
  refine plainObj_wpAny_Assign_Attribute (thn (he.run pins s σ H _ I h) fun v s1 ⟨y, H1, I1, r1, q1⟩ => thn (ho.run pins s1 σ H1 _ I1 q1) fun u s2 ⟨x, H2, I2, r2, a, C, ex, T', hno, q⟩ => ?_) hs
  subst ex
  obtain rfl : u = Value.ref a := r2
  rcases q with ⟨ea, q⟩ | ⟨dx, fs, ea, ed, hl, q⟩
  · exact ost_newG bx T' I2 ea hno r1 fun dx s' n ne J => ⟨σ, _, J, q dx n ne⟩
  · exact ost_oldG bx T' I2 ea ed hl hno r1 fun s' J => ⟨σ, _, J, q⟩
/-! #### C(e, ..) -/
theorem pmk_oexG {Bn newId initId : String} {T : List Value} (bx : BaseX Bn newId initId T) {X : Cx} {e : Expr} {es : List Expr} {ta : TA} {p pos : Pos} {CX : CXT} {x : Str} {C fI : Addr} {k : Nat} {fd : FuncData} {ps : List Str} {sp : Sp} {ds : List Value} {dvs : List V} (T' : OexG newId T X.K C) (iC : PySem.W.findIn X.K (.ref C) "__init__" = some (some (.ref fI))) (tI : PySem.W.typeIn X.K (.ref fI) = some (.type "function"))
    (F1 : FnOk X.prog X.w X.K X.mg X.base CX k fI fd ps sp) (hr : Room (k + 1) X.A) (hb : Binds X.K fd ps ds) (hd : Vals dvs ds) (hx : Passes CX X (fun _ _ _ => False)) (hg : Gl X x) (hm : X.mg x = some (.ref C)) (ha : PA X (e :: es) ta)
    {tq : List V → Hp → XK → Prop} (himp : ∀ vs H1 Q, tq vs H1 Q → vs.length ≤ 1000 ∧ ∀ a, H1 a = none → sp (.ref a :: (vs ++ dvs)) (upd H1 a (exo a C none))
      (fun v H2 => v = .non ∧ ∃ (d : Addr) (fs : List (Str × V)), H2 a = some (exo a C (some d)) ∧ H2 d = some (exd d fs) ∧ H1 d = none ∧ Q (.ref C) (some d) (upd (del H2 a) d (.xd fs))) (fun _ _ _ => False))
    (hdb : (x == ("__debug__" : Str)) = false := by decide) (he : starEach (e :: es) X.env = (false, eval e X.env) :: starEach es X.env := by rfl) (hpl : (backTo pos (starEach es X.env)).any (·.1) = false := by rfl) :
    PMk X (.Call (.Name x p) (e :: es) [] pos) (fun σ H Q => ta σ H fun vs H1 => tq vs H1 Q) := by
  intro pins s σ H Q I h
  obtain ⟨nm, q, N, bs, bm, sn, sub, ab, col, dd, k0, k1, k2, k3, k5, hC, hbm⟩ := T'.cls
  refine wpAny_Call_Name_kw (ld_glob I hg hm ?_ hdb)
  refine PySem.W.callWith_K (h₀ := X.base) I.ok.mod.kin T'.kC (thn (ha.run pos pins s σ H _ I h) fun us s1 ⟨vs, H1, I1, r1, q0⟩ => ⟨I1.kIn, ?_⟩) he hpl
  show wpAny _ _ (call (.ref C) us) _ _ _
  obtain ⟨hp, g, dr, tk, os⟩ := s1
  obtain ⟨hz, q1⟩ := himp _ _ _ q0
  have hsz : hp.objs.size ≤ hp.objs.size + 1 := Nat.le_succ _
  have hn : H1 (hp.objs.size + 1) = none := I1.hok.fresh hsz
  have hq := q1 (hp.objs.size + 1) hn
  have kk : ∀ b o, hp.get? b = some o → ((hp.push (PySem.W.kdv_tup us)).push (PySem.HandSPX.excO C hp.objs.size)).get? b = some o := fun b o e => Heap.get?_push_of_some _ (Heap.get?_push_of_some _ e)
  have hget : ((hp.push (PySem.W.kdv_tup us)).push (PySem.HandSPX.excO C hp.objs.size)).get? (hp.objs.size + 1) = some (PySem.HandSPX.excO C hp.objs.size) := by heap_get
  have I2 : Inv X pins σ (upd H1 (hp.objs.size + 1) (exo (hp.objs.size + 1) C none)) ⟨(hp.push (PySem.W.kdv_tup us)).push (PySem.HandSPX.excO C hp.objs.size), g, dr, tk, os⟩ :=
    I1.laid (t' := tk) (a := hp.objs.size + 1) (o := exo (hp.objs.size + 1) C none) (h' := (hp.push (PySem.W.kdv_tup us)).push (PySem.HandSPX.excO C hp.objs.size)) kk hsz (exo_ok hget)
  have r2 : Vals (V.ref (hp.objs.size + 1) :: (vs ++ dvs)) (Value.ref (hp.objs.size + 1) :: (us ++ ds)) := .cons rfl (r1.append hd)
  have hl : (Value.ref (hp.objs.size + 1) :: us ++ ds).length = ps.length := by
    have e := r2.length
    rw [F1.len _ _ _ _ hq] at e
    exact e.symm
  have hus : us.length ≤ sizeLine := by
    rw [← Paired.length r1, sizeLine_eq]
    omega
  refine wpAny_call (PySem.HandSPX.call_own bx.F (fun Y => bx.contains Y bm hbm) (I1.kIn _ _ hC) (PySem.W.looks_findIn I1.kIn iC) (fun self => PySem.W.bind_fn I1.kIn self tI) hus
    (codeAny_mono (F1.run _ X.stack _ _ ⟨Value.ref (hp.objs.size + 1) :: us, []⟩ (Value.ref (hp.objs.size + 1) :: (us ++ ds)) _ _ (fun _ _ _ => False) (hr.make C us []) (I2.env0.make C us []) (hb _ (Value.ref (hp.objs.size + 1) :: us) I2.kIn hl) r2 hq) fun r s' hq' => ?_))
  cases r with
  | error er => exact hx pins σ _ _ er s' I2 hq'
  | ok fl =>
    cases fl with
    | ret u =>
      obtain ⟨v, H2, os2, bare2, un2, hok2, rv, ev, d, fs, ea, ed, hd1, q2⟩ := hq'
      subst ev
      obtain ⟨h2, g2, d2, t2, os'⟩ := s'
      exact ⟨rv, mk_end (raises_own T'.exC T'.tyC) I1 hsz kk un2 hok2 os2 bare2 ea ed hd1 q2⟩
    | next => exact False.elim hq'
    | brk => exact False.elim hq'
    | cont => exact False.elim hq'
/-- the promise of an __init__ that sets one field -/
def sp_err1 (C : Addr) (f : Str) : Sp := fun vs H Q _ => ∃ (a : Addr) (y : V), vs = [.ref a, y] ∧ H a = some (exo a C none) ∧ ∀ dx, H dx = none → dx ≠ a → Q .non (upd (upd H dx (exd dx [(f, y)])) a (exo a C (some dx)))
/-- .. that sets two -/
def sp_err2 (C : Addr) (f g : Str) : Sp := fun vs H Q _ => ∃ (a : Addr) (y z : V), vs = [.ref a, y, z] ∧ H a = some (exo a C none) ∧ ∀ dx, H dx = none → dx ≠ a → Q .non (upd (upd H dx (exd dx [(g, z), (f, y)])) a (exo a C (some dx)))
def tErr1 (C : Addr) (f : Str) (ta : TA) : L2.St → Hp → XK → Prop := fun σ H Q => ta σ H fun vs H1 => ∃ y, vs = [y] ∧ ∀ dx, H1 dx = none → Q (.ref C) (some dx) (upd H1 dx (.xd [(f, y)]))
def tErr2 (C : Addr) (f g : Str) (dvs : List V) (ta : TA) : L2.St → Hp → XK → Prop := fun σ H Q => ta σ H fun vs H1 => ∃ y z, vs ++ dvs = [y, z] ∧ ∀ dx, H1 dx = none → Q (.ref C) (some dx) (upd H1 dx (.xd [(g, z), (f, y)]))
theorem upd_err {H : Hp} {a dx C : Addr} {fs : List (Str × V)} {o : HO} (ha : H a = none) (hd : upd H a o dx = none) (hne : dx ≠ a) : H dx = none ∧ upd (del (upd (upd (upd H a o) dx (exd dx fs)) a (exo a C (some dx))) a) dx (.xd fs) = upd H dx (.xd fs) := by
  rw [upd_ne hne] at hd
  refine ⟨hd, funext fun b => ?_⟩
  by_cases h1 : b = dx
  · rw [h1, upd_same, upd_same]
  · rw [upd_ne h1, upd_ne h1]
    by_cases h2 : b = a
    · rw [h2, del_same, ha]
    · rw [del_ne h2, upd_ne h2, upd_ne h1, upd_ne h2]
section
variable {Bn newId initId : String} {T : List Value} {X : Cx} {e : Expr} {es : List Expr} {ta : TA} {p pos : Pos} {CX : CXT} {x : Str} {C fI : Addr} {k : Nat} {fd : FuncData} {ps : List Str} {ds : List Value} {dvs : List V} {f g : Str}
theorem pmk_err1 (bx : BaseX Bn newId initId T) (T' : OexG newId T X.K C) (iC : PySem.W.findIn X.K (.ref C) "__init__" = some (some (.ref fI))) (tI : PySem.W.typeIn X.K (.ref fI) = some (.type "function"))
    (F1 : FnOk X.prog X.w X.K X.mg X.base CX0 k fI fd ps (sp_err1 C f)) (hr : Room (k + 1) X.A) (hb : Binds X.K fd ps []) (hg : Gl X x) (hm : X.mg x = some (.ref C)) (ha : PA X (e :: es) ta)
    (hdb : (x == ("__debug__" : Str)) = false := by decide) (he : starEach (e :: es) X.env = (false, eval e X.env) :: starEach es X.env := by rfl) (hpl : (backTo pos (starEach es X.env)).any (·.1) = false := by rfl) :
    PMk X (.Call (.Name x p) (e :: es) [] pos) (tErr1 C f ta) := by
  refine pmk_oexG bx T' iC tI F1 hr hb .nil pass0 hg hm ha (fun vs H1 Q ⟨y, ev, q⟩ => ?_) hdb he hpl
  subst ev
  refine ⟨Nat.le_of_ble_eq_true rfl, fun a na => ⟨a, y, rfl, upd_same, fun dx hdx hne => ⟨rfl, dx, _, upd_same, (upd_ne hne).trans upd_same, (upd_err (C := C) (fs := [(f, y)]) na hdx hne).1, ?_⟩⟩⟩
  rw [(upd_err (C := C) (fs := [(f, y)]) na hdx hne).2]
  exact q dx (upd_err (C := C) (fs := [(f, y)]) na hdx hne).1
theorem pmk_err2 (bx : BaseX Bn newId initId T) (T' : OexG newId T X.K C) (iC : PySem.W.findIn X.K (.ref C) "__init__" = some (some (.ref fI))) (tI : PySem.W.typeIn X.K (.ref fI) = some (.type "function"))
    (F1 : FnOk X.prog X.w X.K X.mg X.base CX0 k fI fd ps (sp_err2 C f g)) (hr : Room (k + 1) X.A) (hb : Binds X.K fd ps ds) (hd : Vals dvs ds) (hg : Gl X x) (hm : X.mg x = some (.ref C)) (ha : PA X (e :: es) ta)
    (hdb : (x == ("__debug__" : Str)) = false := by decide) (he : starEach (e :: es) X.env = (false, eval e X.env) :: starEach es X.env := by rfl) (hpl : (backTo pos (starEach es X.env)).any (·.1) = false := by rfl) :
    PMk X (.Call (.Name x p) (e :: es) [] pos) (tErr2 C f g dvs ta) := by
  refine pmk_oexG bx T' iC tI F1 hr hb hd pass0 hg hm ha (fun vs H1 Q ⟨y, z, ev, q⟩ => ?_) hdb he hpl
  refine ⟨?_, fun a na => ?_⟩
  · have := congrArg List.length ev
    simp only [List.length_append, List.length_cons, List.length_nil] at this
    omega
  rw [ev]
  refine ⟨a, y, z, rfl, upd_same, fun dx hdx hne => ⟨rfl, dx, _, upd_same, (upd_ne hne).trans upd_same, (upd_err (C := C) (fs := [(g, z), (f, y)]) na hdx hne).1, ?_⟩⟩
  rw [(upd_err (C := C) (fs := [(g, z), (f, y)]) na hdx hne).2]
  exact q dx (upd_err (C := C) (fs := [(g, z), (f, y)]) na hdx hne).1
end
/-! #### an error that was caught and is kept -/
/-- at a: an error of the class cls, its dict d -/
def errO (cls : Value) (d : Option Addr) (a : Addr) : HO := .ext fun h => ∃ (oe : Obj) (vs : Array Value), h.get? a = some oe ∧ Zc cls d oe ∧ oe.data = .fields vs
theorem errO_ok {P : Program} {w : World} {H : Hp} {h : Heap} {a : Addr} {cls : Value} {d : Option Addr} {oe : Obj} {vs : Array Value} (e : h.get? a = some oe) (z : Zc cls d oe) (hd : oe.data = .fields vs) : ObjOk P w H h a (errO cls d a) :=
  ⟨⟨oe, vs, e, z, hd⟩, ⟨oe, e⟩, fun _ _ ⟨o, v, q, r⟩ k => ⟨o, v, k o q, r⟩⟩
theorem errO_at {P : Program} {w : World} {H : Hp} {h : Heap} {a : Addr} {cls : Value} {d : Option Addr} (hok : HOk P w H h) (he : H a = some (errO cls d a)) : ∃ (oe : Obj) (vs : Array Value), h.get? a = some oe ∧ Zc cls d oe ∧ oe.data = .fields vs := by
  obtain ⟨z, _, _⟩ := hok a _ he
  exact z
/-! #### what is asked of a kept error -/
/-- e.f, e a kept error -/
def tErrF (K : PySem.W.Frag) (f : Str) (te : TE) : TE := fun σ H Q => te σ H fun x H1 => ∃ (a C dd : Addr) (fs : List (Str × V)) (v : V), x = .ref a ∧ H1 a = some (errO (.ref C) (some dd) a) ∧ XfN K C f ∧ H1 dd = some (.xd fs) ∧ fs.lookup f = some v ∧ Q v H1
theorem pe_errf {X : Cx} {e : Expr} {te : TE} {pos : Pos} {n : Str} (he : PE X e te) (hb : attributeBase e n X.env (eval e X.env) = eval e X.env := by rfl) : PE X (.Attribute e n pos) (tErrF X.K n te) := by
  refine ⟨fun pins s σ H Q I h => ?_⟩
  refine attr_of hb (thn (he.run pins s σ H _ I h) fun u s1 hh => ?_)
  obtain ⟨x, H1, I1, rx, a, C, dd, fs, v, ex, eo, T, ea, l, q⟩ := hh
  subst ex
  obtain rfl : u = Value.ref a := rx
  obtain ⟨oe, vs, ha, hz, hd⟩ := errO_at I1.hok eo
  have hx : ObjOk X.prog X.w H1 s1.heap dd (.xd fs) := I1.hok dd _ ea
  obtain ⟨mA, hns, hr⟩ := hx
  obtain ⟨od, ho, hl⟩ := lookIn_ns hns
  obtain ⟨u, hu, ru⟩ := RelO.some_of (v := v) (o := mA n) (by rw [← l]; exact hr n)
  have J : PySem.W.InstAt s1.heap a oe C (some od) := ⟨ha, hz.1, by unfold PySem.W.notCls; rw [hd] <;> rfl, by rw [hz.2]; exact ho⟩
  exact HandSPX.exc_get I1.kIn J T.c.ga T.c.gg T.c.exC (PySem.W.findObj_own T.c.hdC T.no rfl (by rw [hl, hu])) (handed_of ru) ⟨v, H1, I1.tok _, ru, q⟩
end My
namespace PySem.W
open PySem PySem.Spec PySem.Calls PyProof.Rows
section
variable {prog : Program} {w : World} {A : Around} {E : Value → Shared → Prop} {s : Shared} {K : Frag} {x D : Addr} {ox : Obj} {od : Option Obj}
theorem findObj_dataG {C : Addr} {name : Str} {a g : Value} (hc : (clsIn K C).isSome = true) (ha : findIn K (.ref C) name = some (some a)) (hg : specialIn K a "__get__" = some (some g)) (ht : takesIn K a = some true) : findObj K C od name = some (.bind g a) := by
  obtain ⟨cd, hc⟩ := Option.isSome_iff_exists.mp hc
  unfold findObj
  rw [hc, Option.bind_some, ha, Option.bind_some]
  simp [hg, ht]
theorem kin_classG {Q : Option Value → Shared → Prop} (hga : findIn K (.ref D) "__getattribute__" = some (some (.builtin "BaseException.__getattribute__"))) (hgt : findIn K (.ref D) "__getattr__" = some none) (hsub : subIn K (.ref D) (.type "BaseException") = some true)
    (hdct : hasDictIn K D = true) (ha : findIn K (.ref D) "__class__" = some (some (.builtin "object.__class__")))
    (hn : specialIn K (.builtin "object.__class__") "__get__" = some (some (.builtin "getset_descriptor.__get__"))) (htk : takesIn K (.builtin "object.__class__") = some true) (hm : mroIn K D (.type "object") = some true)
    (X : K.In s.heap) (I : InstAt s.heap x ox D od) (h : Q (some (.ref D)) { s with toks := s.toks + 1 }) : wpAny (model prog w) A (getAttr? (.ref x) "__class__") Q E s := by
  have hf : findObj K D od "__class__" = some (.bind (.builtin "getset_descriptor.__get__") (.builtin "object.__class__")) := findObj_dataG (by obtain ⟨cd, hc, _⟩ := any_some hdct; rw [hc]; rfl) ha hn htk
  obtain ⟨hp, g, d, t, os⟩ := s
  have L0 := I.type (M := model prog w)
  have L1 := looks_findIn (M := model prog w) X hga
  have L2 := looks_findIn (M := model prog w) X hgt
  have L3 := looks_find (M := model prog w) X I hf
  have sub : Looks (model prog w) hp (isInstance (.ref x) (.type "BaseException")) true := L0.andThen (looks_subIn X hsub)
  have hx0 : (false && onTheHeap (Value.builtin "BaseException.__getattribute__")) = false := rfl
  have hx2 : (Value.builtin "BaseException.__getattribute__" == Value.builtin "object.__getattribute__") = false := by decide +kernel
  have hx1 : (onTheHeap (Value.ref D) && Value.builtin "BaseException.__getattribute__" == Value.builtin "object.__getattribute__") = false := by rw [hx2]; rfl
  unfold getAttr? getAttrBy? getAttrBy
  refine wpAny_bind (wpAny_mkText (wpAny_bind (wpAny_attempt (wpAny_holding (wpAny_bind (L0.at (wpAny_bind (L1.at ?_))))))))
  show wpAny _ _ (if (onTheHeap (Value.ref D) && Value.builtin "BaseException.__getattribute__" == Value.builtin "object.__getattribute__") = true then _ else _) _ _ _
  rw [hx1, if_neg Bool.false_ne_true]
  unfold getAttrByItsOwn hookBefore
  refine wpAny_bind ?_
  rw [if_pos (show onTheHeap (Value.ref D) = true from rfl)]
  refine L2.at ?_
  refine wpAny_bind (wpAny_attempt (wpAny_holding ?_))
  unfold callGetattribute
  rw [hx0, if_neg Bool.false_ne_true]
  unfold boundAndCalled
  rw [PySem.F.excAttr_ValueError.ga.bind (.ref x)]
  refine wpAny_bind (wpAny_pure ?_)
  show wpAny _ _ (call (.builtin "BaseException.__getattribute__") [.ref x, .str "__class__" t]) _ _ _
  refine wpAny_call (codeAny_call_builtin PySem.F.excAttr_ValueError.ga.plain PySem.F.entry_bexc_ga ?_)
  refine @check_slot (model prog w) _ _ ⟨hp, g, d, t + 1, os⟩ "BaseException.__getattribute__" "BaseException" "__getattribute__" (.ref x) [.str "__class__" t] [] _ (by decide +kernel) (by decide +kernel) sub (PySem.F.args_bexc_ga (.ref x) (.str "__class__" t)) ?_
  unfold Builtin.«object.__getattribute__»
  refine wpAny_bind (wpAny_of_eq (a := ((Value.ref x : Value), [Value.str "__class__" t])) (by first | rfl | (simp only [slotArgs]; rfl)) ?_)
  refine wpAny_bind (wpAny_pure (wpAny_bind (L0.at (wpAny_bind (L3.at ?_)))))
  show wpAny _ _ (holding [Value.builtin "object.__class__"] (call (.builtin "getset_descriptor.__get__") [.builtin "object.__class__", .ref x, .ref D]) >>= ret) _ _ _
  refine wpAny_bind (wpAny_holding (wpAny_call (class_get (s := ⟨hp, g, d, t + 1, os⟩) (ox := ox) (od := od) X I hm ?_)))
  refine wpAny_pure ?_
  show wpAny _ _ (handedOut (.ref D)) _ _ _
  rw [handedOut_of (v := .ref D) rfl]
  first
    | exact wpAny_pure (wpAny_pure h)
    | exact wpAny_pure h
    | exact wpAny_pure (wpAny_bind (wpAny_pure (wpAny_pure h)))
theorem kitx_err (hga : findIn K (.ref D) "__getattribute__" = some (some (.builtin "BaseException.__getattribute__"))) (hgt : findIn K (.ref D) "__getattr__" = some none) (hsub : subIn K (.ref D) (.type "BaseException") = some true) (hdct : hasDictIn K D = true) (ha : findIn K (.ref D) "__class__" = some (some (.builtin "object.__class__")))
    (hn : specialIn K (.builtin "object.__class__") "__get__" = some (some (.builtin "getset_descriptor.__get__"))) (htk : takesIn K (.builtin "object.__class__") = some true) (hm : mroIn K D (.type "object") = some true) :
    KitX K (.ref x) (.ref D) (fun h => InstAt h x ox D od) where
  ty := fun _ _ _ I => I.type
  it := fun _ _ X _ => by
    obtain ⟨cdD, hcD, _⟩ := any_some hdct
    unfold clsIn at hcD
    split at hcD
    · rename_i c' d' cd' sl' ho
      intro A' Q' E' s' k q
      unfold isType loadHead
      exact wpAny_bind (wpAny_loadPart (k _ _ (X _ _ ho)) (wpAny_pure q))
    · cases hcD
  ne := fun h tp dd its n sl X htp => by
    obtain ⟨cdD, hcD, _⟩ := any_some hdct
    refine Bool.eq_false_iff.mpr fun q => ?_
    have e : D = tp := Value.ref.inj (beq_iff_eq.mp q)
    subst e
    unfold clsIn at hcD
    split at hcD
    · rename_i c' d' cd' sl' ho
      have z := (X _ _ ho).symm.trans htp
      cases z
    · cases hcD
  ca := fun X I k => kin_classG hga hgt hsub hdct ha hn htk hm X I k
end
end PySem.W
namespace My
open PySem PySem.Spec PyProof.Rows L2 NdefX
/-- a kept error -/
def ErrAt (K : PySem.W.Frag) (H : Hp) (a D : Addr) : Prop := ExcC K D ∧ (H a = some (errO (.ref D) none a) ∨ ∃ dd fs, H a = some (errO (.ref D) (some dd) a) ∧ H dd = some (.xd fs))
theorem ErrAt.inst {P : Program} {w : World} {K : PySem.W.Frag} {H : Hp} {h : Heap} {a D : Addr} (hok : HOk P w H h) (e : ErrAt K H a D) : ∃ oe od, PySem.W.InstAt h a oe D od := by
  rcases e.2 with e | ⟨dd, fs, e, ed⟩
  · obtain ⟨oe, vs, ha, hz, hd⟩ := errO_at hok e
    exact ⟨oe, none, ha, hz.1, by unfold PySem.W.notCls; rw [hd] <;> rfl, by rw [hz.2]; trivial⟩
  · obtain ⟨oe, vs, ha, hz, hd⟩ := errO_at hok e
    have hx : ObjOk P w H h dd (.xd fs) := hok dd _ ed
    obtain ⟨mA, hns, hr⟩ := hx
    obtain ⟨od, ho, hl⟩ := lookIn_ns hns
    exact ⟨oe, some od, ha, hz.1, by unfold PySem.W.notCls; rw [hd] <;> rfl, by rw [hz.2]; exact ho⟩
/-- isinstance(e, c), e a kept error -/
def rIsK (K : PySem.W.Frag) : List V → Hp → VK → Prop := fun xs H Q => ∃ (a D : Addr) (c : V) (cv : Value) (b : Bool), xs = [.ref a, c] ∧ ErrAt K H a D ∧ (∀ u, L2.RelV c u → u = cv) ∧ PySem.W.kitOne K (.ref D) cv = some b ∧ Q (.bl b) H
theorem isK {X : Cx} {K : PySem.W.Frag} (hK : X.K = K := by rfl) : CallR X (.builtin "isinstance") (rIsK K) := by
  subst hK
  intro pins s σ H xs us Q I r h
  obtain ⟨a, D, c, cv, b, rfl, eA, hcv, e, q⟩ := h
  obtain ⟨u1, u2, rfl, r1, r2⟩ := vals2 r
  cases (show u1 = Value.ref a from r1)
  have ec := hcv _ r2
  subst ec
  obtain ⟨oe, od, J⟩ := eA.inst I.hok
  have C := eA.1
  exact PySem.W.kia_one (PySem.W.kitx_err C.hg C.hk C.hs C.hd C.ha C.hn C.ht C.hm) I.kIn J e (fun z => nomatch z) fun tk => ⟨.bl b, H, I.kept (t' := tk) fun _ _ z => z, rfl, q⟩
theorem callR_or {X : Cx} {f : Value} {R S : List V → Hp → VK → Prop} (a : CallR X f R) (b : CallR X f S) : CallR X f (fun xs H Q => R xs H Q ∨ S xs H Q) := fun pins s σ H xs us Q I r h => h.elim (a pins s σ H xs us Q I r) (b pins s σ H xs us Q I r)
end My
/-! ### repr of plain dicts; things of any kind -/
namespace My
open PySem PySem.Spec PyProof.Rows L2 NdefX
def encK : Key → PyData
  | .inl i => .int i
  | .inr x => .str x
/-- a plain value: none, a truth, a whole number, a text -/
inductive Plain : V → PyData → Prop
  | non : Plain .non .none
  | bl (b : Bool) : Plain (.bl b) (.bool b)
  | int (i : Int) : Plain (.int i) (.int i)
  | str (x : Str) : Plain (.str x) (.str x)
inductive Flat : List (Key × V) → List (PyData × PyData) → Prop
  | nil : Flat [] []
  | cons {k : Key} {v : V} {d : PyData} {kvs : List (Key × V)} {D : List (PyData × PyData)} : Plain v d → Flat kvs D → Flat ((k, v) :: kvs) ((encK k, d) :: D)
theorem Plain.reads {h : Heap} {v : V} {d : PyData} {u : Value} (p : Plain v d) (r : L2.RelV v u) : Reads h u d [] := by
  cases p with
  | non => cases r; exact .none
  | bl b => cases r; exact .bool b
  | int i => obtain ⟨t, rfl⟩ := r; exact .int i t
  | str x => obtain ⟨t, rfl⟩ := r; exact .str x t
theorem Flat.reads {h : Heap} : ∀ {kvs : List (Key × V)} {D : List (PyData × PyData)} {vs : List (Key × Value)}, Flat kvs D → KV kvs vs → PyProof.V.PairsRead h encK vs D []
  | _, _, _, .nil, .nil => .nil
  | _, _, _, .cons p f, .cons (b := (k', u)) r rs => by
    obtain ⟨e, r⟩ := r
    cases e
    exact PyProof.V.PairsRead.cons (p.reads r) (f.reads rs)
theorem encK_reads {h : Heap} {P : Program} {w : World} (k : Key) (key : Value) (e : (mixKind P w).is k key = true) : Reads h key (encK k) [] := by
  rcases keyIs_shape e with ⟨i, t, rfl, rfl⟩ | ⟨x, t, rfl, rfl⟩
  · exact .int i t
  · exact .str x t
/-- what repr shows of it -/
inductive Shw (K : PySem.W.Frag) (H : Hp) : V → Str → Prop
  | data {v : V} {d : PyData} : Dp K H v d → d.showable = true → d.hasDict = false → d.depth ≤ 60 → d.shown.length ≤ sizeLine → Shw K H v d.shown
  | dict {a : Addr} {kvs : List (Key × V)} {D : List (PyData × PyData)} : H a = some (.dK kvs) → Flat kvs D → (PyData.dict D).showable = true → (PyData.dict D).depth ≤ 60 → (PyData.dict D).shown.length ≤ sizeLine → Shw K H (.ref a) (PyData.dict D).shown
mutual
theorem Dp.same {K : PySem.W.Frag} {H H' : Hp} (s : Same H H') : ∀ {v : V} {d : PyData}, Dp K H v d → Dp K H' v d
  | _, _, .non => .non
  | _, _, .bl b => .bl b
  | _, _, .int i => .int i
  | _, _, .str x => .str x
  | _, _, .lst h a => .lst (s.seq h) (DpAll.same s a)
  | _, _, .tup h a => .tup (s.sqt h) (DpAll.same s a)
theorem DpAll.same {K : PySem.W.Frag} {H H' : Hp} (s : Same H H') : ∀ {vs : List V} {ds : List PyData}, DpAll K H vs ds → DpAll K H' vs ds
  | _, _, .nil => .nil
  | _, _, .cons h r => .cons (Dp.same s h) (DpAll.same s r)
end
theorem Shw.same {K : PySem.W.Frag} {H H' : Hp} {v : V} {z : Str} (h : Shw K H v z) (s : Same H H') : Shw K H' v z := by
  cases h with
  | data d a b c e => exact .data (Dp.same s d) a b c e
  | dict ha hf a b c => exact .dict (s _ _ ha) hf a b c
/-- its kind: one of the seven built-in ones -/
def Kd (H : Hp) (v : V) (kn : String) : Prop := (v = .non ∧ kn = "NoneType") ∨ (∃ b, v = .bl b ∧ kn = "bool") ∨ (∃ i, v = .int i ∧ kn = "int") ∨ (∃ z, v = .str z ∧ kn = "str") ∨ (∃ a xs, v = .ref a ∧ H a = some (.lst xs) ∧ kn = "list") ∨ (∃ a xs, v = .ref a ∧ H a = some (.tup xs) ∧ kn = "tuple") ∨ (∃ a xs, v = .ref a ∧ H a = some (.dK xs) ∧ kn = "dict")
theorem Kd.same {H H' : Hp} {v : V} {kn : String} (h : Kd H v kn) (s : Same H H') : Kd H' v kn := by
  rcases h with h | h | h | h | ⟨a, xs, e, h, n⟩ | ⟨a, xs, e, h, n⟩ | ⟨a, xs, e, h, n⟩
  · exact .inl h
  · exact .inr (.inl h)
  · exact .inr (.inr (.inl h))
  · exact .inr (.inr (.inr (.inl h)))
  · exact .inr (.inr (.inr (.inr (.inl ⟨a, xs, e, s _ _ h, n⟩))))
  · exact .inr (.inr (.inr (.inr (.inr (.inl ⟨a, xs, e, s _ _ h, n⟩)))))
  · exact .inr (.inr (.inr (.inr (.inr (.inr ⟨a, xs, e, s _ _ h, n⟩)))))
theorem Kd.ty {K : PySem.W.Frag} {H : Hp} {v : V} {kn : String} (h : Kd H v kn) : TyX K H v (.type kn) := by
  rcases h with ⟨rfl, rfl⟩ | ⟨b, rfl, rfl⟩ | ⟨i, rfl, rfl⟩ | ⟨z, rfl, rfl⟩ | ⟨a, xs, rfl, h, rfl⟩ | ⟨a, xs, rfl, h, rfl⟩ | ⟨a, xs, rfl, h, rfl⟩
  · exact .base .non
  · exact .base (.bl b)
  · exact .base (.int i)
  · exact .base (.str z)
  · exact .base (.lst h)
  · exact .base (.tup h)
  · exact .base (.dK h)
theorem Kd.names {H : Hp} {v : V} {kn : String} (h : Kd H v kn) : kn = "NoneType" ∨ kn = "bool" ∨ kn = "int" ∨ kn = "str" ∨ kn = "list" ∨ kn = "tuple" ∨ kn = "dict" := by
  rcases h with ⟨_, h⟩ | ⟨_, _, h⟩ | ⟨_, _, h⟩ | ⟨_, _, h⟩ | ⟨_, _, _, _, h⟩ | ⟨_, _, _, _, h⟩ | ⟨_, _, _, _, h⟩
  · exact .inl h
  · exact .inr (.inl h)
  · exact .inr (.inr (.inl h))
  · exact .inr (.inr (.inr (.inl h)))
  · exact .inr (.inr (.inr (.inr (.inl h))))
  · exact .inr (.inr (.inr (.inr (.inr (.inl h)))))
  · exact .inr (.inr (.inr (.inr (.inr (.inr h)))))
/-! ### o.m(e, ..) in a body from which an error may come -/
section
variable {X : Cx} {CX : CXT} {k : Nat} {f C : Addr} {fd : FuncData} {ps : List Str} {sp : Sp} {dvs : List V} {ds : List Value} {E : L2.St → XK} {x m : Str} {p pos apos : Pos} {e o : Expr} {es : List Expr} {ta : TE} {t : TA}
end
end My
namespace My
open PySem PySem.Spec PyProof.Rows L2
/-! ### comprehensions with two walks -/
/-! ### pairs of sizes, feet, rules broken -/
def PrV (H : Hp) (v : V) (p : Nat × Nat) : Prop := ∃ T, v = .ref T ∧ H T = some (.tup [.int (p.1 : Int), .int (p.2 : Int)])
theorem PrV.same {H H' : Hp} {v : V} {p : Nat × Nat} (a : PrV H v p) (s : Same H H') : PrV H' v p := by
  obtain ⟨T, e, h⟩ := a
  exact ⟨T, e, s _ _ h⟩
theorem PrV.nl {H H' : Hp} {v : V} {p : Nat × Nat} (a : PrV H v p) (s : Nl H H') : PrV H' v p := by
  obtain ⟨T, e, h⟩ := a
  exact ⟨T, e, s _ _ h rfl⟩
theorem PrV.kp {H H' : Hp} {h : Addr} {n : Nat} {v : V} {p : Nat × Nat} (a : PrV H v p) (hh : HandAt H h n) (s : Kp h H H') : PrV H' v p := by
  obtain ⟨T, e, h⟩ := a
  exact ⟨T, e, s.get hh h rfl⟩
/-- a grid, its ladders, their bits -/
structure GC (K : PySem.W.Frag) (CM CL CG : Addr) (H : Hp) (p : Addr) (j k : Nat) (L1 L2 : Addr) (zs ys : List Q2) (g : Q2) : Prop where
  ag : GrdAt K CM CL CG H p j L1 L2 g
  a1 : LadE K CM CL H L1 k zs
  a2 : LadE K CM CL H L2 k ys
  j0 : 0 < j
  j1 : j ≤ 1000
  k0 : 0 < k
  k1 : k ≤ 1000
  l0 : 0 < zs.length
  l1 : zs.length ≤ 24
  m0 : 0 < ys.length
  m1 : ys.length ≤ 24
section
variable {K : PySem.W.Frag} {CM CL CG p h L1 L2 : Addr} {H H' : Hp} {j k n : Nat} {zs ys : List Q2} {g : Q2}
theorem GC.same (a : GC K CM CL CG H p j k L1 L2 zs ys g) (s : Same H H') : GC K CM CL CG H' p j k L1 L2 zs ys g := by
  obtain ⟨r1, lo1, hi1, a1⟩ := a.a1
  obtain ⟨r2, lo2, hi2, a2⟩ := a.a2
  exact { a with ag := a.ag.same s, a1 := ⟨_, _, _, a1.same s⟩, a2 := ⟨_, _, _, a2.same s⟩ }
theorem GC.kp (a : GC K CM CL CG H p j k L1 L2 zs ys g) (hh : HandAt H h n) (s : Kp h H H') : GC K CM CL CG H' p j k L1 L2 zs ys g := by
  obtain ⟨r1, lo1, hi1, a1⟩ := a.a1
  obtain ⟨r2, lo2, hi2, a2⟩ := a.a2
  exact { a with ag := a.ag.kp hh s, a1 := ⟨_, _, _, a1.kp hh s⟩, a2 := ⟨_, _, _, a2.kp hh s⟩ }
end
/-- a foot: two Measures -/
def FtV (K : PySem.W.Frag) (CM : Addr) (H : Hp) (m : Nat) (v : V) (f : Q2 × Q2) : Prop := ∃ t f1 f2, v = .ref t ∧ SqT K H t [.ref f1, .ref f2] ∧ QAt CM H f1 m f.1 ∧ QAt CM H f2 m f.2
theorem FtV.same {K : PySem.W.Frag} {CM : Addr} {H H' : Hp} {m : Nat} {v : V} {f : Q2 × Q2} (a : FtV K CM H m v f) (s : Same H H') : FtV K CM H' m v f := by
  obtain ⟨t, f1, f2, e, h1, h2, h3⟩ := a
  exact ⟨t, f1, f2, e, s.sqt h1, h2.same s, h3.same s⟩
theorem FtV.nl {K : PySem.W.Frag} {CM : Addr} {H H' : Hp} {m : Nat} {v : V} {f : Q2 × Q2} (a : FtV K CM H m v f) (s : Nl H H') : FtV K CM H' m v f := by
  obtain ⟨t, f1, f2, e, h1, h2, h3⟩ := a
  exact ⟨t, f1, f2, e, sqt_nl h1 s, h2.nl s, h3.nl s⟩
theorem FtV.kp {K : PySem.W.Frag} {CM : Addr} {H H' : Hp} {h : Addr} {n m : Nat} {v : V} {f : Q2 × Q2} (a : FtV K CM H m v f) (hh : HandAt H h n) (s : Kp h H H') : FtV K CM H' m v f := by
  obtain ⟨t, f1, f2, e, h1, h2, h3⟩ := a
  exact ⟨t, f1, f2, e, sqt_kp h1 hh s, h2.kp hh s, h3.kp hh s⟩
/-- several feet -/
structure Fts (K : PySem.W.Frag) (CM : Addr) (H : Hp) (m : Nat) (us : List V) (fs : List (Q2 × Q2)) : Prop where
  len : us.length = fs.length
  all : ∀ (i : Nat) (v : V) (f : Q2 × Q2), us[i]? = some v → fs[i]? = some f → FtV K CM H m v f
section
variable {K : PySem.W.Frag} {CM h : Addr} {H H' : Hp} {m n : Nat} {us : List V} {fs : List (Q2 × Q2)}
theorem Fts.same (a : Fts K CM H m us fs) (s : Same H H') : Fts K CM H' m us fs := ⟨a.len, fun i v f h1 h2 => (a.all i v f h1 h2).same s⟩
theorem Fts.nl (a : Fts K CM H m us fs) (s : Nl H H') : Fts K CM H' m us fs := ⟨a.len, fun i v f h1 h2 => (a.all i v f h1 h2).nl s⟩
theorem Fts.kp (a : Fts K CM H m us fs) (hh : HandAt H h n) (s : Kp h H H') : Fts K CM H' m us fs := ⟨a.len, fun i v f h1 h2 => (a.all i v f h1 h2).kp hh s⟩
theorem Fts.of (a : Fts K CM H m us fs) {i : Nat} {v : V} (h1 : us[i]? = some v) : ∃ f, fs[i]? = some f ∧ FtV K CM H m v f := by
  have hi : i < fs.length := by rw [← a.len]; exact (List.getElem?_eq_some_iff.mp h1).1
  exact ⟨_, List.getElem?_eq_getElem hi, a.all i v _ h1 (List.getElem?_eq_getElem hi)⟩
theorem Fts.at (a : Fts K CM H m us fs) {i : Nat} {f : Q2 × Q2} (h1 : fs[i]? = some f) : ∃ v, us[i]? = some v ∧ FtV K CM H m v f := by
  have hi : i < us.length := by rw [a.len]; exact (List.getElem?_eq_some_iff.mp h1).1
  exact ⟨_, List.getElem?_eq_getElem hi, a.all i _ f (List.getElem?_eq_getElem hi) h1⟩
end
def FoV (H : Hp) (v : V) : Option (Nat × Str) → Prop
  | none => v = .non
  | some q => ∃ T, v = .ref T ∧ H T = some (.tup [.int (q.1 : Int), .str q.2])
theorem FoV.same {H H' : Hp} {v : V} (s : Same H H') : ∀ {o : Option (Nat × Str)}, FoV H v o → FoV H' v o
  | none, h => h
  | some _, ⟨T, h1, h2⟩ => ⟨T, h1, s _ _ h2⟩
/-- a paper -/
def PpV (H : Hp) (v : V) (p : Nat × Nat) (q : Nat × Str) : Prop := ∃ T, v = .ref T ∧ H T = some (.tup [.int (p.1 : Int), .int (p.2 : Int), .int (q.1 : Int), .str q.2])
theorem PpV.same {H H' : Hp} {v : V} {p : Nat × Nat} {q : Nat × Str} (a : PpV H v p q) (s : Same H H') : PpV H' v p q := by
  obtain ⟨T, e, h⟩ := a
  exact ⟨T, e, s _ _ h⟩
theorem PpV.nl {H H' : Hp} {v : V} {p : Nat × Nat} {q : Nat × Str} (a : PpV H v p q) (s : Nl H H') : PpV H' v p q := by
  obtain ⟨T, e, h⟩ := a
  exact ⟨T, e, s _ _ h rfl⟩
theorem PpV.kp {H H' : Hp} {h : Addr} {n : Nat} {v : V} {p : Nat × Nat} {q : Nat × Str} (a : PpV H v p q) (hh : HandAt H h n) (s : Kp h H H') : PpV H' v p q := by
  obtain ⟨T, e, h⟩ := a
  exact ⟨T, e, s.get hh h rfl⟩
/-- the papers of pairs each of which is broken -/
structure Pps (H : Hp) (us : List V) (ps : List (Nat × Nat)) (F : Nat × Nat → Option (Nat × Str)) : Prop where
  len : us.length = ps.length
  all : ∀ (i : Nat) (v : V) (p : Nat × Nat), us[i]? = some v → ps[i]? = some p → ∃ q, F p = some q ∧ PpV H v p q
section
variable {H H' : Hp} {h : Addr} {n : Nat} {us : List V} {ps : List (Nat × Nat)} {F : Nat × Nat → Option (Nat × Str)}
theorem Pps.same (a : Pps H us ps F) (s : Same H H') : Pps H' us ps F := ⟨a.len, fun i v p h1 h2 => by
  obtain ⟨q, e, h⟩ := a.all i v p h1 h2
  exact ⟨q, e, h.same s⟩⟩
theorem Pps.nl (a : Pps H us ps F) (s : Nl H H') : Pps H' us ps F := ⟨a.len, fun i v p h1 h2 => by
  obtain ⟨q, e, h⟩ := a.all i v p h1 h2
  exact ⟨q, e, h.nl s⟩⟩
theorem Pps.kp (a : Pps H us ps F) (hh : HandAt H h n) (s : Kp h H H') : Pps H' us ps F := ⟨a.len, fun i v p h1 h2 => by
  obtain ⟨q, e, h⟩ := a.all i v p h1 h2
  exact ⟨q, e, h.kp hh s⟩⟩
end
/-- what pair_for tells -/
def ToldV (H : Hp) (v : V) (ps : List (Nat × Nat)) (F : Nat × Nat → Option (Nat × Str)) : Option (Nat × Nat) → Prop
  | some p => ∃ T w, v = .ref T ∧ H T = some (.tup [.str "pair", w]) ∧ PrV H w p
  | none => ∃ T q us, v = .ref T ∧ H T = some (.tup [.str "none", .ref q]) ∧ H q = some (.tup us) ∧ Pps H us ps F
theorem ToldV.same {H H' : Hp} {v : V} {ps : List (Nat × Nat)} {F : Nat × Nat → Option (Nat × Str)} (s : Same H H') : ∀ {o : Option (Nat × Nat)}, ToldV H v ps F o → ToldV H' v ps F o
  | some _, ⟨T, w, h1, h2, h3⟩ => ⟨T, w, h1, s _ _ h2, h3.same s⟩
  | none, ⟨T, q, us, h1, h2, h3, h4⟩ => ⟨T, q, us, h1, s _ _ h2, s _ _ h3, h4.same s⟩
theorem ToldV.nl {H H' : Hp} {v : V} {ps : List (Nat × Nat)} {F : Nat × Nat → Option (Nat × Str)} (s : Nl H H') : ∀ {o : Option (Nat × Nat)}, ToldV H v ps F o → ToldV H' v ps F o
  | some _, ⟨T, w, h1, h2, h3⟩ => ⟨T, w, h1, s _ _ h2 rfl, h3.nl s⟩
  | none, ⟨T, q, us, h1, h2, h3, h4⟩ => ⟨T, q, us, h1, s _ _ h2 rfl, s _ _ h3 rfl, h4.nl s⟩
theorem ToldV.kp {H H' : Hp} {h : Addr} {n : Nat} {v : V} {ps : List (Nat × Nat)} {F : Nat × Nat → Option (Nat × Str)} (hh : HandAt H h n) (s : Kp h H H') : ∀ {o : Option (Nat × Nat)}, ToldV H v ps F o → ToldV H' v ps F o
  | some _, ⟨T, w, h1, h2, h3⟩ => ⟨T, w, h1, s.get hh h2 rfl, h3.kp hh s⟩
  | none, ⟨T, q, us, h1, h2, h3, h4⟩ => ⟨T, q, us, h1, s.get hh h2 rfl, s.get hh h3 rfl, h4.kp hh s⟩
end My
/-! ### zip of two walks, each over a list (false) or a tuple (true) -/
namespace My
open PySem PySem.Spec PyProof.Rows L2
def KI (b : Bool) (h : Heap) (it l : Addr) (i : Nat) : Prop := if b = true then h.IsTupleIter it l i else h.IsListIter it l i
def KS (b : Bool) (h : Heap) (l : Addr) (items : Array Value) : Prop := if b = true then h.IsTuple l items else h.IsList l items
section
variable {b : Bool} {h h' : Heap} {it l c : Addr} {i : Nat} {items : Array Value}
theorem KI.ext (a : KI b h it l i) (k : Heap.ExtBut c h h') (n : it ≠ c) : KI b h' it l i := by
  cases b with
  | false => exact Heap.IsListIter.extBut (show h.IsListIter it l i from a) k n
  | true => exact Heap.IsTupleIter.extBut (show h.IsTupleIter it l i from a) k n
theorem KS.ext (a : KS b h l items) (k : Heap.ExtBut c h h') (n : l ≠ c) : KS b h' l items := by
  cases b with
  | false => exact Heap.IsList.extBut (show h.IsList l items from a) k n
  | true => exact Heap.IsTuple.extBut (show h.IsTuple l items from a) k n
theorem KS.lt (a : KS b h l items) : l < h.objs.size := by
  cases b with
  | false =>
    obtain ⟨o, e, _⟩ := (show h.IsList l items from a)
    exact Heap.lt_size e
  | true =>
    obtain ⟨o, e, _⟩ := (show h.IsTuple l items from a)
    exact Heap.lt_size e
end
section
variable {prog : Program} {w : World} {A : Around} {E : Value → Shared → Prop} {s : Shared} {b : Bool} {it l : Addr} {i : Nat} {items : Array Value}
end

section
variable {prog : Program} {w : World} {A : Around} {E : Value → Shared → Prop} {s : Shared} {b1 b2 : Bool} {z TI TO i1 i2 l1 l2 : Addr} {k1 k2 : Nat} {xs ys : Array Value} {x y a b : Value}
end

/-! ### a > b of pairs of whole numbers -/
/-! ### t != () -/
end My
namespace My
open PySem PySem.Spec PyProof.Rows L2
end My
namespace PySem.HandSPX
open PySem PySem.Spec PyProof.Rows Builtin
section
variable {M : Model} {A : Around} {E : Value → Shared → Prop} {h : Heap} {g : Array GenState} {d : Drawn} {t : Nat} {os : OsState}
variable {nm q : Str} {C N : Addr} {bs bm bmB : List Value} {hdct : Bool} {sn : List Str} {sub : List Value} {ab : Bool} {col : Option Bool} {dd : Option Addr} {k0 k1 k2 k3 k5 : Option Value} {B newId initId : String}
theorem check_new_ownK (F : ExcBaseFacts B newId initId bmB) (hT : ∀ X : String, bm.contains (.type X) = bmB.contains (.type X)) {rest : List Value} {kw : List (Str × Value)} {Q : Unit → Shared → Prop}
    (hC : h.get? C = some (excClassObj nm q C N bs bm hdct sn sub ab col dd k0 k1 k2 k3 k5 newId)) (hq : Q () ⟨h, g, d, t, os⟩) : wpAny M A (checkBuiltinCall newId ⟨.ref C :: rest, kw⟩) Q E ⟨h, g, d, t, os⟩ := by
  have hcont : (Value.ref C :: bm).contains (.type B) = true := by rw [List.contains_cons, hT, F.hasB, Bool.or_true]
  have hstar := F.noStar
  simp only [checkBuiltinCall, F.newKind, F.newSplit, F.newRow]
  repeat (first | refine wpAny_loadPart_at hC ?_ | (refine wpAny_isSubtype_exc hC ?_; rw [hcont]) | refine wpAny_staticBase_exc hC ?_ | refine wpAny_madeBy_exc hC ?_ | simp only [bne_self_eq_false, Bool.false_eq_true, if_false] | wp_step)
  exact hq
end
section
variable {prog : Program} {w : World} {A : Around} {E : Value → Shared → Prop} {R : Result → Shared → Prop} {h : Heap} {g : Array GenState} {d : Drawn} {t : Nat} {os : OsState}
variable {nm q : Str} {C N : Addr} {bs bm bmB : List Value} {hdct : Bool} {sn : List Str} {sub : List Value} {ab : Bool} {col : Option Bool} {dd : Option Addr} {k0 k1 k2 k3 k5 : Option Value} {B newId initId : String}
theorem new_ownK (F : ExcBaseFacts B newId initId bmB) (hT : ∀ X : String, bm.contains (.type X) = bmB.contains (.type X)) {rest : List Value} {kw : List (Str × Value)}
    (hC : h.get? C = some (excClassObj nm q C N bs bm hdct sn sub ab col dd k0 k1 k2 k3 k5 newId))
    (hq : R (.ok (.ret (.ref (h.objs.size + 1)))) ⟨(h.push { cls := .type "tuple", data := .seq rest.toArray }).push
      { cls := .ref C, data := .fields #[.ref h.objs.size, .none, .none, .none, .bool false, .none] }, g, d, t, os⟩) (hrest : rest.length ≤ sizeLine) :
    codeAny (model prog w) A (.builtin newId ⟨.ref C :: rest, kw⟩) R ⟨h, g, d, t, os⟩ := by
  have hends := F.ends
  have hcB : (Value.ref C :: bm).contains (.type B) = true := by rw [List.contains_cons, hT, F.hasB, Bool.or_true]
  have hcA : (Value.ref C :: bm).contains (.type "AttributeError") = false := by rw [List.contains_cons, hT, F.noAttr]; rfl
  have hcN : (Value.ref C :: bm).contains (.type "NameError") = false := by rw [List.contains_cons, hT, F.noName]; rfl
  refine codeAny_builtinAt F.entry ?_
  unfold Builtin.«BaseException.__new__»
  refine wpAt_bind ?_
  show wpAt _ _ _ (stack >>= _) _ _ _
  refine wpAt_bind (wpAt_stack fun p below => wpAt_of_wpAny ?_)
  wp_walk
  refine wpAt_of_wpAny ?_
  rw [F.owner]
  repeat (first | with_reducible refine wpAny_madeHere_exc F.canon hC ?_ | with_reducible refine wpAny_loadPart_at hC ?_ | (with_reducible refine wpAny_isSubtype_exc hC ?_; first | rw [hcB] | rw [hcA] | rw [hcN]) | wp_step)
  show R _ _
  rw [Heap.size_push]
  exact hq
theorem type_call_ownK (F : ExcBaseFacts B newId initId bmB) (hT : ∀ X : String, bm.contains (.type X) = bmB.contains (.type X)) {rest : List Value} {kw : List (Str × Value)} {fI : Addr} {Q : Fin → Shared → Prop}
    (hC : h.get? C = some (excClassObj nm q C N bs bm hdct sn sub ab col dd k0 k1 k2 k3 k5 newId))
    (hi : W.Looks (model prog w) h (typeLookup (.ref C) "__init__") (some (.ref fI))) (hb : ∀ self, W.Looks (model prog w) h (bindSpecial (.ref fI) self) (.ref fI, [self])) (hrest : rest.length ≤ sizeLine)
    (hq : codeAny (model prog w) A (.call (.ref fI) ⟨.ref (h.objs.size + 1) :: rest, kw⟩)
      (fun r s' => match r with | .ok (.ret v) => v = .none ∧ Q (.done (.ret (.ref (h.objs.size + 1)))) s' | .ok _ => False | .error e => E e s')
      ⟨(h.push (W.kdv_tup rest)).push (excO C h.objs.size), g, d, t, os⟩) :
    wpAny (model prog w) A (Builtin.«type.__call__» ⟨.ref C :: rest, kw⟩) Q E ⟨h, g, d, t, os⟩ := by
  repeat (first | with_reducible refine wpAny_loadPart_at hC ?_ | with_reducible refine wpAny_madeBy_exc hC ?_ | wp_step)
  refine codeAny_call_builtin_code (Code.quiet_builtin _ F.quiet) (check_new_ownK F hT hC ?_)
  refine new_ownK F hT hC ?_ hrest
  show wpAny _ _ _ _ _ _
  have k : ∀ b o, h.get? b = some o → ((h.push (W.kdv_tup rest)).push (excO C h.objs.size)).get? b = some o := fun b o e => Heap.get?_push_of_some _ (Heap.get?_push_of_some _ e)
  have hC₁ := k _ _ hC
  have hget : ((h.push (W.kdv_tup rest)).push (excO C h.objs.size)).get? (h.objs.size + 1) = some (excO C h.objs.size) := by heap_get
  have hcC : (Value.ref C :: bm).contains (.ref C) = true := by simp
  have i1 := hi.keeps k
  have b1 := (hb (.ref (h.objs.size + 1))).keeps k
  unfold isInstance
  repeat (first | with_reducible refine wpAny_loadPart_at hget ?_ | (with_reducible refine wpAny_isSubtype_exc hC₁ ?_; rw [hcC]) | wp_step)
  show wpAny _ _ (typeLookup (.ref C) _) _ _ _
  refine i1.at ?_
  refine wpAny_holding (wpAny_bind (b1.at ?_))
  refine wpAny_bind (wpAny_call (codeAny_mono hq fun r s' z => ?_))
  rcases r with e | (v | _ | _ | _) <;> first | exact z | exact z.elim | skip
  obtain ⟨rfl, z⟩ := z
  first
    | exact wpAny_pure (wpAny_pure z)
    | (wp_walk; exact z)
theorem call_ownK (F : ExcBaseFacts B newId initId bmB) (hT : ∀ X : String, bm.contains (.type X) = bmB.contains (.type X)) {rest : List Value} {kw : List (Str × Value)} {fI : Addr}
    (hC : h.get? C = some (excClassObj nm q C N bs bm hdct sn sub ab col dd k0 k1 k2 k3 k5 newId))
    (hi : W.Looks (model prog w) h (typeLookup (.ref C) "__init__") (some (.ref fI))) (hb : ∀ self, W.Looks (model prog w) h (bindSpecial (.ref fI) self) (.ref fI, [self])) (hrest : rest.length ≤ sizeLine)
    (hq : codeAny (model prog w) (A.under (.builtin "type.__call__" ⟨.ref C :: rest, kw⟩)) (.call (.ref fI) ⟨.ref (h.objs.size + 1) :: rest, kw⟩) (W.InitBack (h.objs.size + 1) R)
      ⟨(h.push (W.kdv_tup rest)).push (excO C h.objs.size), g, d, t, os⟩) :
    codeAny (model prog w) A (.call (.ref C) ⟨rest, kw⟩) R ⟨h, g, d, t, os⟩ := by
  have f1 := tc_lookup
  have f2 := tc_bind (.ref C)
  have hTy : (⟨h, g, d, t, os⟩ : Shared).TypeIs (.ref C) "type" := ⟨_, hC, rfl⟩
  refine codeAny_of_tree ?_
  show wpAny _ _ (callAny (.ref C) _) _ _ _
  repeat (any_goals (first | assumption | with_reducible refine wpAny_loadPart_at hC ?_ | wp_step))
  refine ⟨rfl, ?_⟩
  refine codeAny_call_builtin_at (Code.quiet_builtin _ (by decide +kernel)) entry_typeCall (wpAny_check_type_call_sub hC (type_call_ownK F hT hC hi hb hrest ?_))
  refine codeAny_mono hq fun r s' z => ?_
  rcases r with e | (v | _ | _ | _) <;> exact z
end
end PySem.HandSPX
namespace My
open PySem PySem.Spec PyProof.Rows L2 NdefX Builtin Builtin.ObjectAttr
/-! ### errors made as values -/
def tMkE (t : L2.St → Hp → XK → Prop) : TE := fun σ H Q => t σ H fun cls d H1 => ∀ a, H1 a = none → Q (.ref a) (upd H1 a (errO cls d a))
theorem pe_ofmk {X : Cx} {e : Expr} {t : L2.St → Hp → XK → Prop} (h : PMk X e t) : PE X e (tMkE t) := by
  refine ⟨fun pins s σ H Q I hq => ?_⟩
  refine thn (h pins s σ H _ I hq) fun u s' hu => ?_
  obtain ⟨a, oe, vs, sI, H', cls, d, rfl, J, k, hne, ha, hz, hd, h1, na, os, ag, r, q⟩ := hu
  have J2 := J.laidN (t' := s'.toks) (h' := s'.heap) k hne na (errO_ok ha hz hd)
  exact ⟨.ref a, _, ⟨J2.ok, os.trans J.os, ag, J2.base, J2.loc, J2.cell, J2.free, J2.freeC, J2.pin, J2.hok, J2.len⟩, rfl, q a na⟩
theorem pe_errfK {K : PySem.W.Frag} {X : Cx} {e : Expr} {te : TE} {pos : Pos} {n : Str} (he : PE X e te) (hb : attributeBase e n X.env (eval e X.env) = eval e X.env := by rfl) (hK : X.K = K := by rfl) : PE X (.Attribute e n pos) (tErrF K n te) := by
  subst hK
  exact pe_errf he hb
/-! #### what a call of such an __init__ binds -/
section
variable {K : PySem.W.Frag} {C : Addr} {name qual : Str} {params : Arguments} {body : List Stmt} {scope : Scope} {dvs : List V} {f cc cda : Addr} {fl : Str} {fd : FuncData} {ps : List Str}
theorem SupD.binds1 (D : SupD K C name qual params body scope dvs f cc cda fl fd) (n j : Nat) (hd : dvs ≠ []) (hn : n + (dvs.length - j) = ps.length)
    (h : ∀ (T : Addr) (kV doc pm : Value) (an : Option Addr) (ct : Value) (us its : List Value), us.length = n → its.length = dvs.length →
      ∃ k, bindArgs (PySem.W.fnX name qual params body scope [("__class__", cc)] (.ref T) kV doc pm an (.ref cda) ct) ⟨us, []⟩ = seqItems? (.ref T) >>= k ∧ k (some its.toArray) = pure (ps.zip (us ++ its.drop j))) : ∃ ds, Vals (dvs.drop j) ds ∧ Binds K fd ps ds := by
  obtain ⟨oc, od, dV, kV, doc, pm, an, ct, osl, rfl, lk, hD, hK⟩ := D.ex
  rcases hD with ⟨e, _⟩ | ⟨_, T, o, its, m, rfl, lT, oT, rT⟩
  · exact absurd e hd
  · refine ⟨its.drop j, rT.drop j, fun s us X hlen => ?_⟩
    have l1 : its.length = dvs.length := rT.length.symm
    have l2 : us.length = n := by
      rw [List.length_append, List.length_drop, l1] at hlen
      omega
    obtain ⟨k, e1, e2⟩ := h T kV doc pm an ct us its l2 l1
    refine BindsTo.of_looks fun M => ?_
    rw [e1]
    exact looks_items X lT oT (.of_pure e2)
theorem SupD.kbN (D : SupD K C name qual params body scope [] f cc cda fl fd) (n : Nat) (ks : List Str) (g : {α : Type} → List α → List α → List α)
    (hrel : ∀ {vs zs : List V} {us ws : List Value}, Vals vs us → Vals zs ws → Vals (g vs zs) (g us ws))
    (h : ∀ (kV doc pm : Value) (an : Option Addr) (ct : Value) (us ws : List Value), us.length = n → ws.length = ks.length → bindArgs (PySem.W.fnX name qual params body scope [("__class__", cc)] .none kV doc pm an (.ref cda) ct) ⟨us, ks.zip ws⟩ = pure (ps.zip (g us ws))) :
    KBn K fd ps n ks (fun us ws => g us ws) (fun vs zs => g vs zs) := by
  obtain ⟨oc, od, dV, kV, doc, pm, an, ct, osl, rfl, lk, hD, hK⟩ := D.ex
  rcases hD with ⟨_, rfl⟩ | ⟨e, _⟩
  · exact ⟨fun s us ws X l1 l2 => .of_eq (h kV doc pm an ct us ws l1 l2), fun r1 r2 => hrel r1 r2⟩
  · exact absurd rfl e
theorem SupD.kbD (D : SupD K C name qual params body scope dvs f cc cda fl fd) (n : Nat) (ks : List Str) (g : {α : Type} → List α → List α → List α → List α) (hd : dvs ≠ [])
    (hrel : ∀ {vs ds zs : List V} {us its ws : List Value}, Vals vs us → Vals ds its → Vals zs ws → Vals (g vs ds zs) (g us its ws))
    (h : ∀ (T : Addr) (kV doc pm : Value) (an : Option Addr) (ct : Value) (us its ws : List Value), us.length = n → its.length = dvs.length → ws.length = ks.length →
      ∃ k, bindArgs (PySem.W.fnX name qual params body scope [("__class__", cc)] (.ref T) kV doc pm an (.ref cda) ct) ⟨us, ks.zip ws⟩ = seqItems? (.ref T) >>= k ∧ k (some its.toArray) = pure (ps.zip (g us its ws))) :
    ∃ its : List Value, KBn K fd ps n ks (fun us ws => g us its ws) (fun vs zs => g vs dvs zs) := by
  obtain ⟨oc, od, dV, kV, doc, pm, an, ct, osl, rfl, lk, hD, hK⟩ := D.ex
  rcases hD with ⟨e, _⟩ | ⟨_, T, o, its, m, rfl, lT, oT, rT⟩
  · exact absurd e hd
  · refine ⟨its, ⟨fun s us ws X l1 l2 => ?_, fun r1 r2 => hrel r1 rT r2⟩⟩
    obtain ⟨k, e1, e2⟩ := h T kV doc pm an ct us its ws l1 rT.length.symm l2
    refine BindsTo.of_looks fun M => ?_
    rw [e1]
    exact looks_items X lT oT (.of_pure e2)
end
/-! #### C(k = e, ..) -/
theorem pmk_oexK {Bn newId initId : String} {T : List Value} (bx : BaseX Bn newId initId T) {X : Cx} {kws : List Keyword} {tk : TA} {p pos : Pos} {CX : CXT} {x : Str} {C fI : Addr} {k : Nat} {fd : FuncData} {ps ks : List Str} {sp : Sp} {g : List Value → List Value → List Value} {gV : List V → List V → List V} (T' : OexG newId T X.K C) (iC : PySem.W.findIn X.K (.ref C) "__init__" = some (some (.ref fI))) (tI : PySem.W.typeIn X.K (.ref fI) = some (.type "function"))
    (F1 : FnOk X.prog X.w X.K X.mg X.base CX k fI fd ps sp) (hr : Room (k + 1) X.A) (hb : KBn X.K fd ps 1 ks g gV) (hx : Passes CX X (fun _ _ _ => False)) (hg : Gl X x) (hm : X.mg x = some (.ref C)) (hkw : PK X kws tk)
    {tq : List V → Hp → XK → Prop} (himp : ∀ zs H1 Q, tq zs H1 Q → zs.length = ks.length ∧ ∀ a, H1 a = none → sp (gV [.ref a] zs) (upd H1 a (exo a C none))
      (fun v H2 => v = .non ∧ ∃ (d : Addr) (fs : List (Str × V)), H2 a = some (exo a C (some d)) ∧ H2 d = some (exd d fs) ∧ H1 d = none ∧ Q (.ref C) (some d) (upd (del H2 a) d (.xd fs))) (fun _ _ _ => False))
    (hall : (backToKw pos (keywordEach kws X.env)).all (·.1.isSome) = true := by rfl) (hks : (backToKw pos (keywordEach kws X.env)).filterMap (·.1) = ks := by rfl)
    (hdb : (x == ("__debug__" : Str)) = false := by decide) (hpl : ((backTo pos (starEach [] X.env)).any (·.1) || (backToKw pos (keywordEach kws X.env)).any (·.1.isNone)) = false := by rfl) :
    PMk X (.Call (.Name x p) [] kws pos) (fun σ H Q => tk σ H fun zs H1 => tq zs H1 Q) := by
  intro pins s σ H Q I h
  obtain ⟨nm, q, N, bs, bm, sn, sub, ab, col, dd, k0, k1, k2, k3, k5, hC, hbm⟩ := T'.cls
  refine wpAny_Call_Name_kw (ld_glob I hg hm ?_ hdb)
  refine PySem.W.callWith_KW0 (h₀ := X.base) I.ok.mod.kin T'.kC hall ?_ hpl
  refine thn (hkw.run pos pins s σ H _ I h) fun ws s1 ⟨zs, H1, I1, rz, q0⟩ => ⟨I1.kIn, ?_⟩
  rw [hks]
  show wpAny _ _ (call (.ref C) [] (ks.zip ws)) _ _ _
  obtain ⟨hp, gg, dr, tok, os⟩ := s1
  obtain ⟨hz, q1⟩ := himp _ _ _ q0
  have hsz : hp.objs.size ≤ hp.objs.size + 1 := Nat.le_succ _
  have hn : H1 (hp.objs.size + 1) = none := I1.hok.fresh hsz
  have hq := q1 (hp.objs.size + 1) hn
  have kk : ∀ b o, hp.get? b = some o → ((hp.push (PySem.W.kdv_tup [])).push (PySem.HandSPX.excO C hp.objs.size)).get? b = some o := fun b o e => Heap.get?_push_of_some _ (Heap.get?_push_of_some _ e)
  have hget : ((hp.push (PySem.W.kdv_tup [])).push (PySem.HandSPX.excO C hp.objs.size)).get? (hp.objs.size + 1) = some (PySem.HandSPX.excO C hp.objs.size) := by heap_get
  have I2 : Inv X pins σ (upd H1 (hp.objs.size + 1) (exo (hp.objs.size + 1) C none)) ⟨(hp.push (PySem.W.kdv_tup [])).push (PySem.HandSPX.excO C hp.objs.size), gg, dr, tok, os⟩ :=
    I1.laid (t' := tok) (a := hp.objs.size + 1) (o := exo (hp.objs.size + 1) C none) (h' := (hp.push (PySem.W.kdv_tup [])).push (PySem.HandSPX.excO C hp.objs.size)) kk hsz (exo_ok hget)
  have r1 : Vals [V.ref (hp.objs.size + 1)] [Value.ref (hp.objs.size + 1)] := .cons rfl .nil
  have r2 := hb.rel r1 rz
  have e2 : ws.length = ks.length := rz.length.symm.trans hz
  refine wpAny_call (PySem.HandSPX.call_ownK bx.F (fun Y => bx.contains Y bm hbm) (I1.kIn _ _ hC) (PySem.W.looks_findIn I1.kIn iC) (fun self => PySem.W.bind_fn I1.kIn self tI) (by show 0 ≤ sizeLine; omega)
    (codeAny_mono (F1.run _ X.stack _ _ ⟨[Value.ref (hp.objs.size + 1)], ks.zip ws⟩ (g [Value.ref (hp.objs.size + 1)] ws) _ _ (fun _ _ _ => False) (hr.make C [] (ks.zip ws)) (I2.env0.make C [] (ks.zip ws)) (hb.to _ [Value.ref (hp.objs.size + 1)] ws I2.kIn rfl e2) r2 hq) fun r s' hq' => ?_))
  cases r with
  | error er => exact hx pins σ _ _ er s' I2 hq'
  | ok fl =>
    cases fl with
    | ret u =>
      obtain ⟨v, H2, os2, bare2, un2, hok2, rv, ev, d, fs, ea, ed, hd1, q2⟩ := hq'
      subst ev
      obtain ⟨h2, g2, d2, t2, os'⟩ := s'
      exact ⟨rv, mk_end (raises_own T'.exC T'.tyC) I1 hsz kk un2 hok2 os2 bare2 ea ed hd1 q2⟩
    | next => exact False.elim hq'
    | brk => exact False.elim hq'
    | cont => exact False.elim hq'
def tErr1K (C : Addr) (f : Str) (gV : List V → List V → List V) (n : Nat) (tk : TA) : L2.St → Hp → XK → Prop := fun σ H Q => tk σ H fun zs H1 => zs.length = n ∧ ∃ y, (∀ a, gV [.ref a] zs = [.ref a, y]) ∧ ∀ dx, H1 dx = none → Q (.ref C) (some dx) (upd H1 dx (.xd [(f, y)]))
def tErr2K (C : Addr) (f g : Str) (gV : List V → List V → List V) (n : Nat) (tk : TA) : L2.St → Hp → XK → Prop := fun σ H Q => tk σ H fun zs H1 => zs.length = n ∧ ∃ y z, (∀ a, gV [.ref a] zs = [.ref a, y, z]) ∧ ∀ dx, H1 dx = none → Q (.ref C) (some dx) (upd H1 dx (.xd [(g, z), (f, y)]))
section
variable {Bn newId initId : String} {T : List Value} {X : Cx} {kws : List Keyword} {tk : TA} {p pos : Pos} {CX : CXT} {x : Str} {C fI : Addr} {k : Nat} {fd : FuncData} {ps ks : List Str} {g' : List Value → List Value → List Value} {gV : List V → List V → List V} {f g : Str}
theorem pmk_err1K (bx : BaseX Bn newId initId T) (T' : OexG newId T X.K C) (iC : PySem.W.findIn X.K (.ref C) "__init__" = some (some (.ref fI))) (tI : PySem.W.typeIn X.K (.ref fI) = some (.type "function"))
    (F1 : FnOk X.prog X.w X.K X.mg X.base CX0 k fI fd ps (sp_err1 C f)) (hr : Room (k + 1) X.A) (hb : KBn X.K fd ps 1 ks g' gV) (hg : Gl X x) (hm : X.mg x = some (.ref C)) (hkw : PK X kws tk)
    (hall : (backToKw pos (keywordEach kws X.env)).all (·.1.isSome) = true := by rfl) (hks : (backToKw pos (keywordEach kws X.env)).filterMap (·.1) = ks := by rfl)
    (hdb : (x == ("__debug__" : Str)) = false := by decide) (hpl : ((backTo pos (starEach [] X.env)).any (·.1) || (backToKw pos (keywordEach kws X.env)).any (·.1.isNone)) = false := by rfl) :
    PMk X (.Call (.Name x p) [] kws pos) (tErr1K C f gV ks.length tk) := by
  refine pmk_oexK bx T' iC tI F1 hr hb pass0 hg hm hkw (fun zs H1 Q ⟨l, y, ev, q⟩ => ?_) hall hks hdb hpl
  refine ⟨l, fun a na => ?_⟩
  rw [ev]
  refine ⟨a, y, rfl, upd_same, fun dx hdx hne => ⟨rfl, dx, _, upd_same, (upd_ne hne).trans upd_same, (upd_err (C := C) (fs := [(f, y)]) na hdx hne).1, ?_⟩⟩
  rw [(upd_err (C := C) (fs := [(f, y)]) na hdx hne).2]
  exact q dx (upd_err (C := C) (fs := [(f, y)]) na hdx hne).1
theorem pmk_err2K (bx : BaseX Bn newId initId T) (T' : OexG newId T X.K C) (iC : PySem.W.findIn X.K (.ref C) "__init__" = some (some (.ref fI))) (tI : PySem.W.typeIn X.K (.ref fI) = some (.type "function"))
    (F1 : FnOk X.prog X.w X.K X.mg X.base CX0 k fI fd ps (sp_err2 C f g)) (hr : Room (k + 1) X.A) (hb : KBn X.K fd ps 1 ks g' gV) (hg : Gl X x) (hm : X.mg x = some (.ref C)) (hkw : PK X kws tk)
    (hall : (backToKw pos (keywordEach kws X.env)).all (·.1.isSome) = true := by rfl) (hks : (backToKw pos (keywordEach kws X.env)).filterMap (·.1) = ks := by rfl)
    (hdb : (x == ("__debug__" : Str)) = false := by decide) (hpl : ((backTo pos (starEach [] X.env)).any (·.1) || (backToKw pos (keywordEach kws X.env)).any (·.1.isNone)) = false := by rfl) :
    PMk X (.Call (.Name x p) [] kws pos) (tErr2K C f g gV ks.length tk) := by
  refine pmk_oexK bx T' iC tI F1 hr hb pass0 hg hm hkw (fun zs H1 Q ⟨l, y, z, ev, q⟩ => ?_) hall hks hdb hpl
  refine ⟨l, fun a na => ?_⟩
  rw [ev]
  refine ⟨a, y, z, rfl, upd_same, fun dx hdx hne => ⟨rfl, dx, _, upd_same, (upd_ne hne).trans upd_same, (upd_err (C := C) (fs := [(g, z), (f, y)]) na hdx hne).1, ?_⟩⟩
  rw [(upd_err (C := C) (fs := [(g, z), (f, y)]) na hdx hne).2]
  exact q dx (upd_err (C := C) (fs := [(g, z), (f, y)]) na hdx hne).1
end
theorem upd_sw {H : Hp} {dx a : Addr} {A B C : HO} (n : dx ≠ a) : upd (upd (upd H dx A) a B) dx C = upd (upd H dx C) a B := by
  funext b
  by_cases h1 : b = dx
  · rw [h1, upd_same, upd_ne n, upd_same]
  · rw [upd_ne h1]
    by_cases h2 : b = a
    · rw [h2, upd_same, upd_same]
    · rw [upd_ne h2, upd_ne h2, upd_ne h1, upd_ne h1]
/-! ### data with empty dicts in it -/
mutual
inductive DpE (K : PySem.W.Frag) (H : Hp) : V → PyData → Prop
  | non : DpE K H .non .none
  | bl (b : Bool) : DpE K H (.bl b) (.bool b)
  | int (i : Int) : DpE K H (.int i) (.int i)
  | str (x : Str) : DpE K H (.str x) (.str x)
  | lst {a : Addr} {xs : List V} {ds : List PyData} : SqL K H a xs → DpEAll K H xs ds → DpE K H (.ref a) (.list ds)
  | tup {a : Addr} {xs : List V} {ds : List PyData} : SqT K H a xs → DpEAll K H xs ds → DpE K H (.ref a) (.tuple ds)
  | emp {a : Addr} : H a = some (.dK []) → DpE K H (.ref a) (.dict [])
inductive DpEAll (K : PySem.W.Frag) (H : Hp) : List V → List PyData → Prop
  | nil : DpEAll K H [] []
  | cons {v : V} {vs : List V} {d : PyData} {ds : List PyData} : DpE K H v d → DpEAll K H vs ds → DpEAll K H (v :: vs) (d :: ds)
end
mutual
theorem DpE.same {K : PySem.W.Frag} {H H' : Hp} (s : Same H H') : ∀ {v : V} {d : PyData}, DpE K H v d → DpE K H' v d
  | _, _, .non => .non
  | _, _, .bl b => .bl b
  | _, _, .int i => .int i
  | _, _, .str x => .str x
  | _, _, .lst h a => .lst (s.seq h) (DpEAll.same s a)
  | _, _, .tup h a => .tup (s.sqt h) (DpEAll.same s a)
  | _, _, .emp h => .emp (s _ _ h)
theorem DpEAll.same {K : PySem.W.Frag} {H H' : Hp} (s : Same H H') : ∀ {vs : List V} {ds : List PyData}, DpEAll K H vs ds → DpEAll K H' vs ds
  | _, _, .nil => .nil
  | _, _, .cons h r => .cons (DpE.same s h) (DpEAll.same s r)
end
theorem DpEAll.len {K : PySem.W.Frag} {H : Hp} : ∀ {vs : List V} {ds : List PyData}, DpEAll K H vs ds → vs.length = ds.length
  | _, _, .nil => rfl
  | _, _, .cons _ r => congrArg Nat.succ (DpEAll.len r)
theorem DpEAll.at {K : PySem.W.Frag} {H : Hp} : ∀ {vs : List V} {ds : List PyData} {i : Nat} {v : V}, DpEAll K H vs ds → vs[i]? = some v → ∃ d, ds[i]? = some d ∧ DpE K H v d
  | _, _, _, _, .nil, e => by simp at e
  | _, _, 0, _, .cons e r, e1 => by
    simp only [List.getElem?_cons_zero, Option.some.injEq] at e1
    subst e1
    exact ⟨_, rfl, e⟩
  | _, _, i + 1, _, .cons e r, e1 => by
    obtain ⟨d, h1, h2⟩ := DpEAll.at r (i := i) (by simpa using e1)
    exact ⟨d, by simpa using h1, h2⟩
/-- the table of modules is a dict -/
def SmD (K : PySem.W.Frag) : Prop := ∃ o, K.lookup sysModules = some o ∧ o.cls = .type "dict"
def smdB : PySem.W.Frag → Bool := fun K => match K.lookup sysModules with
  | some o => o.cls == .type "dict"
  | _ => false
theorem smd_ok {K : PySem.W.Frag} (c : smdB K = true) : SmD K := by
  unfold smdB at c
  split at c
  · rename_i o h
    exact ⟨o, h, beq_iff_eq.mp c⟩
  · cases c
section
variable {X : Cx} {pins : List (Addr × Obj)} {σ : L2.St} {H : Hp} {s : Shared}
mutual
theorem DpE.reads (I : Inv X pins σ H s) (hsm : SmD X.K) : ∀ (d : PyData) (v : V) (u : Value), DpE X.K H v d → L2.RelV v u → ∃ as, Reads s.heap u d as ∧ sysModules ∉ as
  | .none, _, _, h, r => by
    cases h
    cases r
    exact ⟨_, Reads.none, by simp⟩
  | .bool b, _, _, h, r => by
    cases h
    cases r
    exact ⟨_, Reads.bool b, by simp⟩
  | .int i, _, _, h, r => by
    cases h
    obtain ⟨t, rfl⟩ := r
    exact ⟨_, Reads.int i t, by simp⟩
  | .str x, _, _, h, r => by
    cases h
    obtain ⟨t, rfl⟩ := r
    exact ⟨_, Reads.str x t, by simp⟩
  | .list ds, _, _, h, r => by
    cases h with
    | lst hs ha =>
      cases r
      obtain ⟨its, rv, ⟨o, n, ho, hc, _, hd⟩, _⟩ := I.list hs
      obtain ⟨as, hr, hn⟩ := DpE.readsAll I hsm ds _ its ha rv
      refine ⟨_, Reads.list ho hc hd hr, fun z => ?_⟩
      rcases List.mem_cons.mp z with e | z
      · obtain ⟨om, l1, l2⟩ := hsm
        have e2 := I.kIn _ _ l1
        rw [e, ho] at e2
        cases e2
        exact absurd (hc.symm.trans l2) (by simp)
      · exact hn z
  | .tuple ds, _, _, h, r => by
    cases h with
    | tup hs ha =>
      cases r
      obtain ⟨its, rv, ⟨o, ho, hc, n, hd⟩, _⟩ := I.tuple hs
      obtain ⟨as, hr, hn⟩ := DpE.readsAll I hsm ds _ its ha rv
      exact ⟨_, Reads.tuple ho hc hd hr, hn⟩
  | .dict kvs, _, _, h, r => by
    cases h with
    | emp ha =>
      cases r
      obtain ⟨_, hsys, vs, hkv, hd⟩ := (show ObjOk X.prog X.w H s.heap _ (.dK []) from I.hok _ _ ha)
      refine ⟨_, PyProof.V.reads_dictOf (encK_reads) hd (Flat.nil.reads hkv), fun z => ?_⟩
      simp only [List.mem_cons, List.not_mem_nil, or_false] at z
      rw [← z] at hsys
      simp at hsys
theorem DpE.readsAll (I : Inv X pins σ H s) (hsm : SmD X.K) : ∀ (ds : List PyData) (vs : List V) (us : List Value), DpEAll X.K H vs ds → Vals vs us → ∃ as, ReadsAll s.heap us ds as ∧ sysModules ∉ as
  | [], _, _, h, r => by
    cases h
    cases r
    exact ⟨_, ReadsAll.nil, by simp⟩
  | d :: ds, _, _, h, r => by
    cases h with
    | cons h1 h2 =>
      cases r with
      | cons r1 r2 =>
        obtain ⟨as, q1, n1⟩ := DpE.reads I hsm d _ _ h1 r1
        obtain ⟨bs, q2, n2⟩ := DpE.readsAll I hsm ds _ _ h2 r2
        exact ⟨_, ReadsAll.cons q1 q2, fun z => (List.mem_append.mp z).elim n1 n2⟩
end
end
/-- repr of such data -/
theorem call_reprE {X : Cx} {n : Nat} (hsm : SmD X.K) (gd : X.A.guards = some []) (hr : Room n X.A) : CallR X (.builtin "repr") (fun xs H Q => ∃ a d, xs = [.ref a] ∧ DpE X.K H (.ref a) d ∧ d.showable = true ∧ d.depth ≤ 60 ∧ d.shown.length ≤ sizeLine ∧ Q (.str d.shown) H) := by
  intro pins s σ H xs us Q I r h
  obtain ⟨a, d, rfl, hd, hs, hp, hz, q⟩ := h
  obtain ⟨u, rfl, rx⟩ := vals1 r
  cases (show u = Value.ref a from rx)
  obtain ⟨as, rd, hn⟩ := DpE.reads I hsm d _ _ hd rfl
  have hu := hr.un
  exact repr_of_reads' rd hs (fun _ => hn) gd (by omega) (fun _ _ e => e) (fun h' t tk hk => ⟨.str _, H, I.kept hk, ⟨t, rfl⟩, q⟩) hz
/-! ### the head with the table of modules -/
def obsE (n : Nat) (fa : List He.Fa) (fn : List He.DefD) (ex : List (PySem.W.Frag → Bool)) (sp : List He.DefD) (g : Addr → Option Obj) : (He.AlD × Bool) × List SupW :=
  let K := He.frG g (He.asD g n ++ [cStatics, sysModules])
  ((He.obsD fa fn K, ex.all fun f => f K), sp.map fun d => supW K d.at_)
def hookE (n : Nat) (fa : List He.Fa) (fn : List He.DefD) (ex : List (PySem.W.Frag → Bool)) (sp : List He.DefD) : PySem.W.Hook where
  α := (He.AlD × Bool) × List SupW
  obs := fun s => obsE n fa fn ex sp s.heap.get?
  val := fun _ => ((He.valD fn, true), sp.map supVal)
  says := fun _ h => ∃ K : PySem.W.Frag, K.In h ∧ He.SaysD fa fn K ∧ (ex.all fun f => f K) = true ∧ sp.map (fun d => supW K d.at_) = sp.map supVal
  of := fun _ _ e => ⟨_, He.frG_in, congrArg (fun z : (He.AlD × Bool) × List SupW => z.1.1) e, congrArg (fun z : (He.AlD × Bool) × List SupW => z.1.2) e, congrArg (fun z : (He.AlD × Bool) × List SupW => z.2) e⟩
  keeps := fun _ _ _ ⟨K, hK, c⟩ k => ⟨K, PySem.W.Frag.In.keeps hK k, c⟩
theorem obsE_eq {n : Nat} {fa : List He.Fa} {fn : List He.DefD} {ex : List (PySem.W.Frag → Bool)} {sp : List He.DefD} {g : Addr → Option Obj} {s : Shared} (h : ∀ a, g a = s.heap.get? a) : obsE n fa fn ex sp g = (hookE n fa fn ex sp).obs s := by
  have e : g = s.heap.get? := funext h
  rw [e] <;> rfl
end My
namespace K74
open PySem PySem.Spec PyProof.Rows L2 My
/-! ### the text by places -/
def topS (i : Nat) : Stmt := PySem.Challenge.pw_sizeladders_k74_whole_errors_by_hand.main.body.getD i (.Pass ⟨0, 0, 0, 0⟩)
abbrev s_l_hand_of : Stmt := (topS 15)
abbrev s_l_take : Stmt := (topS 16)
abbrev s_l_thing : Stmt := (topS 17)
abbrev s_l_own : Stmt := (topS 18)
abbrev s_l_families : Stmt := (topS 19)
abbrev s_l_kinds_right : Stmt := (topS 20)
abbrev s_l_values_right : Stmt := (topS 21)
abbrev s_law : Stmt := (topS 22)
abbrev N_l_hand_of : List Str := ["_law_script", "_law_k", "_law_cell", "_law_seed"]
abbrev p_l_hand_of : List Str := ["_law_script", "_law_k"]
theorem sc_l_hand_of : FnScope N_l_hand_of p_l_hand_of (defScope s_l_hand_of) := ⟨rfl, rfl, rfl, by decide +kernel, rfl, by decide +kernel, by decide +kernel⟩
abbrev N_l_take : List Str := ["_law_hand", "_law_many", "_law_digit", "_law_stirred"]
abbrev p_l_take : List Str := ["_law_hand", "_law_many"]
theorem sc_l_take : FnScope N_l_take p_l_take (defScope s_l_take) := ⟨rfl, rfl, rfl, by decide +kernel, rfl, by decide +kernel, by decide +kernel⟩
abbrev N_l_thing : List Str := ["_law_hand", "_law_some"]
abbrev p_l_thing : List Str := ["_law_hand"]
theorem sc_l_thing : FnScope N_l_thing p_l_thing (defScope s_l_thing) := ⟨rfl, rfl, rfl, by decide +kernel, rfl, by decide +kernel, by decide +kernel⟩
abbrev N_l_own : List Str := ["_law_e", "_law_found"]
abbrev p_l_own : List Str := ["_law_e"]
theorem sc_l_own : FnScope N_l_own p_l_own (defScope s_l_own) := ⟨rfl, rfl, rfl, by decide +kernel, rfl, by decide +kernel, by decide +kernel⟩
abbrev N_l_families : List Str := ["_law_e", "_law_found"]
abbrev p_l_families : List Str := ["_law_e"]
theorem sc_l_families : FnScope N_l_families p_l_families (defScope s_l_families) := ⟨rfl, rfl, rfl, by decide +kernel, rfl, by decide +kernel, by decide +kernel⟩
abbrev N_l_kinds_right : List Str := ["_law_made", "_law_at", "_law_e", "_law_due", "_law_place"]
abbrev p_l_kinds_right : List Str := ["_law_made"]
theorem sc_l_kinds_right : FnScope N_l_kinds_right p_l_kinds_right (defScope s_l_kinds_right) := ⟨rfl, rfl, rfl, by decide +kernel, rfl, by decide +kernel, by decide +kernel⟩
abbrev N_l_values_right : List Str := ["_law_hand", "_law_one", "_law_two", "_law_three", "_law_here", "_law_other", "_law_slips", "_law_texts", "_law_sizes", "_law_lands", "_law_twice", "_law_found", "_law_due", "_law_e"]
abbrev p_l_values_right : List Str := ["_law_hand"]
theorem sc_l_values_right : FnScope N_l_values_right p_l_values_right (defScope s_l_values_right) := ⟨rfl, rfl, rfl, by decide +kernel, rfl, by decide +kernel, by decide +kernel⟩
abbrev N_law : List Str := ["_law_script", "_law_k", "_law_hand", "_law_made"]
abbrev p_law : List Str := ["_law_script"]
theorem sc_law : FnScope N_law p_law (defScope s_law) := ⟨rfl, rfl, rfl, by decide +kernel, rfl, by decide +kernel, by decide +kernel⟩
abbrev s_Slip_init : Stmt := (inClass (topS 6) 0)
abbrev N_Slip_init : List Str := ["self", "row", "__class__"]
abbrev p_Slip_init : List Str := ["self", "row"]
theorem scS_Slip_init : NdefX.NScope N_Slip_init p_Slip_init ["__class__"] (defScope s_Slip_init) := NdefX.nscope_by (by decide +kernel)
def h_Slip_init : He.DefD := ⟨("Slip", some "__init__"), "__init__", "Slip.__init__", defArgs s_Slip_init, defBody s_Slip_init, defScope s_Slip_init, [], []⟩
abbrev s_NoText_init : Stmt := (inClass (topS 7) 0)
abbrev N_NoText_init : List Str := ["self", "row", "why", "__class__"]
abbrev p_NoText_init : List Str := ["self", "row", "why"]
theorem scS_NoText_init : NdefX.NScope N_NoText_init p_NoText_init ["__class__"] (defScope s_NoText_init) := NdefX.nscope_by (by decide +kernel)
def h_NoText_init : He.DefD := ⟨("NoText", some "__init__"), "__init__", "NoText.__init__", defArgs s_NoText_init, defBody s_NoText_init, defScope s_NoText_init, [.str "form"], []⟩
abbrev s_NoSize_init : Stmt := (inClass (topS 9) 0)
abbrev N_NoSize_init : List Str := ["self", "number", "__class__"]
abbrev p_NoSize_init : List Str := ["self", "number"]
theorem scS_NoSize_init : NdefX.NScope N_NoSize_init p_NoSize_init ["__class__"] (defScope s_NoSize_init) := NdefX.nscope_by (by decide +kernel)
def h_NoSize_init : He.DefD := ⟨("NoSize", some "__init__"), "__init__", "NoSize.__init__", defArgs s_NoSize_init, defBody s_NoSize_init, defScope s_NoSize_init, [], []⟩
abbrev s_NoLand_init : Stmt := (inClass (topS 10) 0)
abbrev N_NoLand_init : List Str := ["self", "name", "__class__"]
abbrev p_NoLand_init : List Str := ["self", "name"]
theorem scS_NoLand_init : NdefX.NScope N_NoLand_init p_NoLand_init ["__class__"] (defScope s_NoLand_init) := NdefX.nscope_by (by decide +kernel)
def h_NoLand_init : He.DefD := ⟨("NoLand", some "__init__"), "__init__", "NoLand.__init__", defArgs s_NoLand_init, defBody s_NoLand_init, defScope s_NoLand_init, [], []⟩
abbrev s_LandTwice_init : Stmt := (inClass (topS 11) 0)
abbrev N_LandTwice_init : List Str := ["self", "name", "__class__"]
abbrev p_LandTwice_init : List Str := ["self", "name"]
theorem scS_LandTwice_init : NdefX.NScope N_LandTwice_init p_LandTwice_init ["__class__"] (defScope s_LandTwice_init) := NdefX.nscope_by (by decide +kernel)
def h_LandTwice_init : He.DefD := ⟨("LandTwice", some "__init__"), "__init__", "LandTwice.__init__", defArgs s_LandTwice_init, defBody s_LandTwice_init, defScope s_LandTwice_init, [], []⟩
/-! ### what the top has written -/
structure Fds where
  l_hand_of : FuncData
  l_take : FuncData
  l_thing : FuncData
  l_own : FuncData
  l_families : FuncData
  l_kinds_right : FuncData
  l_values_right : FuncData
  law : FuncData
  Slip_init : FuncData
  Slip_init_cc : Addr
  Slip_init_cda : Addr
  NoText_init : FuncData
  NoText_init_cc : Addr
  NoText_init_cda : Addr
  NoSize_init : FuncData
  NoSize_init_cc : Addr
  NoSize_init_cda : Addr
  NoLand_init : FuncData
  NoLand_init_cc : Addr
  NoLand_init_cda : Addr
  LandTwice_init : FuncData
  LandTwice_init_cc : Addr
  LandTwice_init_cda : Addr
structure Txt (P : Program) (K : PySem.W.Frag) (mg : Str → Option Value) (φ : Fds) : Prop where
  pfile : (P.main.file == ("/claim/cut.py" : Str)) = true
  ptop : (P.main.scope.names.lookup ("super" : Str)).isSome = false
  g_l_hand_of : mg "_law_hand_of" = some (.ref (He.ga K "_law_hand_of"))
  g_l_take : mg "_law_take" = some (.ref (He.ga K "_law_take"))
  g_l_thing : mg "_law_thing" = some (.ref (He.ga K "_law_thing"))
  g_l_own : mg "_law_own" = some (.ref (He.ga K "_law_own"))
  g_l_families : mg "_law_families" = some (.ref (He.ga K "_law_families"))
  g_l_kinds_right : mg "_law_kinds_right" = some (.ref (He.ga K "_law_kinds_right"))
  g_l_values_right : mg "_law_values_right" = some (.ref (He.ga K "_law_values_right"))
  g_law : mg "law" = some (.ref (He.ga K "law"))
  g_Slip : mg "Slip" = some (.ref (He.ga K "Slip"))
  g_NoText : mg "NoText" = some (.ref (He.ga K "NoText"))
  g_NoSize : mg "NoSize" = some (.ref (He.ga K "NoSize"))
  g_NoLand : mg "NoLand" = some (.ref (He.ga K "NoLand"))
  g_LandTwice : mg "LandTwice" = some (.ref (He.ga K "LandTwice"))
  z_super : mg "super" = none
  g_NoMeasure : mg "NoMeasure" = some (.ref (He.ga K "NoMeasure"))
  g_NoStretch : mg "NoStretch" = some (.ref (He.ga K "NoStretch"))
  g_NoLadder : mg "NoLadder" = some (.ref (He.ga K "NoLadder"))
  g_NoLine : mg "NoLine" = some (.ref (He.ga K "NoLine"))
  g_LadderError : mg "LadderError" = some (.ref (He.ga K "LadderError"))
  g_LandError : mg "LandError" = some (.ref (He.ga K "LandError"))
  g_NoBottom : mg "NoBottom" = some (.ref (He.ga K "NoBottom"))
  g_NothingBack : mg "NothingBack" = some (.ref (He.ga K "NothingBack"))
  z_IndexError : mg "IndexError" = none
  z_LookupError : mg "LookupError" = none
  z_ValueError : mg "ValueError" = none
  z_ZeroDivisionError : mg "ZeroDivisionError" = none
  z_enumerate : mg "enumerate" = none
  z_int : mg "int" = none
  z_isinstance : mg "isinstance" = none
  z_len : mg "len" = none
  z_min : mg "min" = none
  z_range : mg "range" = none
  z_repr : mg "repr" = none
  sc_Slip : SupC "ValueError" "ValueError.__new__" "ValueError.__init__" PySem.HandSPX.veTail K (He.ga K "Slip")
  si_Slip : SupI K (He.ga K "Slip")
  xn_Slip_row : XfN K (He.ga K "Slip") "row"
  sc_NoText : SupC "ValueError" "ValueError.__new__" "ValueError.__init__" PySem.HandSPX.veTail K (He.ga K "NoText")
  si_NoText : SupI K (He.ga K "NoText")
  xn_NoText_row : XfN K (He.ga K "NoText") "row"
  xn_NoText_why : XfN K (He.ga K "NoText") "why"
  sc_NoSize : SupC "LookupError" "LookupError.__new__" "LookupError.__init__" leTail K (He.ga K "NoSize")
  si_NoSize : SupI K (He.ga K "NoSize")
  xn_NoSize_number : XfN K (He.ga K "NoSize") "number"
  sc_NoLand : SupC "LookupError" "LookupError.__new__" "LookupError.__init__" leTail K (He.ga K "NoLand")
  si_NoLand : SupI K (He.ga K "NoLand")
  xn_NoLand_name : XfN K (He.ga K "NoLand") "name"
  sc_LandTwice : SupC "LookupError" "LookupError.__new__" "LookupError.__init__" leTail K (He.ga K "LandTwice")
  si_LandTwice : SupI K (He.ga K "LandTwice")
  xn_LandTwice_name : XfN K (He.ga K "LandTwice") "name"
  smd : SmD K
  xc_NoMeasure : ExcC K (He.ga K "NoMeasure")
  xc_NoStretch : ExcC K (He.ga K "NoStretch")
  xc_NoLadder : ExcC K (He.ga K "NoLadder")
  xc_NoLine : ExcC K (He.ga K "NoLine")
  xc_Slip : ExcC K (He.ga K "Slip")
  xc_NoText : ExcC K (He.ga K "NoText")
  xc_NoSize : ExcC K (He.ga K "NoSize")
  xc_NoLand : ExcC K (He.ga K "NoLand")
  xc_LandTwice : ExcC K (He.ga K "LandTwice")
  xc_NoBottom : ExcC K (He.ga K "NoBottom")
  xc_NothingBack : ExcC K (He.ga K "NothingBack")
  xc_LadderError : ExcC K (He.ga K "LadderError")
  xc_LandError : ExcC K (He.ga K "LandError")
  xf_NoMeasure : ExcF K (He.ga K "NoMeasure") [.type "ValueError", .type "Exception", .type "BaseException", .type "object"] "ValueError.__new__"
  xf_NoStretch : ExcF K (He.ga K "NoStretch") [.type "ValueError", .type "Exception", .type "BaseException", .type "object"] "ValueError.__new__"
  xf_NoLadder : ExcF K (He.ga K "NoLadder") [.type "ValueError", .type "Exception", .type "BaseException", .type "object"] "ValueError.__new__"
  xf_NoLine : ExcF K (He.ga K "NoLine") [.type "ValueError", .type "Exception", .type "BaseException", .type "object"] "ValueError.__new__"
  xf_LadderError : ExcF K (He.ga K "LadderError") [.type "ValueError", .type "Exception", .type "BaseException", .type "object"] "ValueError.__new__"
  xf_LandError : ExcF K (He.ga K "LandError") [.type "LookupError", .type "Exception", .type "BaseException", .type "object"] "LookupError.__new__"
  xf_NoBottom : ExcF K (He.ga K "NoBottom") [.type "ZeroDivisionError", .type "ArithmeticError", .type "Exception", .type "BaseException", .type "object"] "ZeroDivisionError.__new__"
  xf_NothingBack : ExcF K (He.ga K "NothingBack") [.type "IndexError", .type "LookupError", .type "Exception", .type "BaseException", .type "object"] "IndexError.__new__"
  k_NoMeasure_NoMeasure : PySem.W.kitOne K (.ref (He.ga K "NoMeasure")) (.ref (He.ga K "NoMeasure")) = some true
  k_NoMeasure_NoStretch : PySem.W.kitOne K (.ref (He.ga K "NoMeasure")) (.ref (He.ga K "NoStretch")) = some false
  k_NoMeasure_NoLadder : PySem.W.kitOne K (.ref (He.ga K "NoMeasure")) (.ref (He.ga K "NoLadder")) = some false
  k_NoMeasure_NoLine : PySem.W.kitOne K (.ref (He.ga K "NoMeasure")) (.ref (He.ga K "NoLine")) = some false
  k_NoMeasure_Slip : PySem.W.kitOne K (.ref (He.ga K "NoMeasure")) (.ref (He.ga K "Slip")) = some false
  k_NoMeasure_NoText : PySem.W.kitOne K (.ref (He.ga K "NoMeasure")) (.ref (He.ga K "NoText")) = some false
  k_NoMeasure_NoSize : PySem.W.kitOne K (.ref (He.ga K "NoMeasure")) (.ref (He.ga K "NoSize")) = some false
  k_NoMeasure_NoLand : PySem.W.kitOne K (.ref (He.ga K "NoMeasure")) (.ref (He.ga K "NoLand")) = some false
  k_NoMeasure_LandTwice : PySem.W.kitOne K (.ref (He.ga K "NoMeasure")) (.ref (He.ga K "LandTwice")) = some false
  k_NoMeasure_NoBottom : PySem.W.kitOne K (.ref (He.ga K "NoMeasure")) (.ref (He.ga K "NoBottom")) = some false
  k_NoMeasure_NothingBack : PySem.W.kitOne K (.ref (He.ga K "NoMeasure")) (.ref (He.ga K "NothingBack")) = some false
  k_NoMeasure_LadderError : PySem.W.kitOne K (.ref (He.ga K "NoMeasure")) (.ref (He.ga K "LadderError")) = some true
  k_NoMeasure_ValueError : PySem.W.kitOne K (.ref (He.ga K "NoMeasure")) (.type "ValueError") = some true
  k_NoMeasure_LandError : PySem.W.kitOne K (.ref (He.ga K "NoMeasure")) (.ref (He.ga K "LandError")) = some false
  k_NoMeasure_LookupError : PySem.W.kitOne K (.ref (He.ga K "NoMeasure")) (.type "LookupError") = some false
  k_NoMeasure_ZeroDivisionError : PySem.W.kitOne K (.ref (He.ga K "NoMeasure")) (.type "ZeroDivisionError") = some false
  k_NoMeasure_IndexError : PySem.W.kitOne K (.ref (He.ga K "NoMeasure")) (.type "IndexError") = some false
  k_NoStretch_NoMeasure : PySem.W.kitOne K (.ref (He.ga K "NoStretch")) (.ref (He.ga K "NoMeasure")) = some false
  k_NoStretch_NoStretch : PySem.W.kitOne K (.ref (He.ga K "NoStretch")) (.ref (He.ga K "NoStretch")) = some true
  k_NoStretch_NoLadder : PySem.W.kitOne K (.ref (He.ga K "NoStretch")) (.ref (He.ga K "NoLadder")) = some false
  k_NoStretch_NoLine : PySem.W.kitOne K (.ref (He.ga K "NoStretch")) (.ref (He.ga K "NoLine")) = some false
  k_NoStretch_Slip : PySem.W.kitOne K (.ref (He.ga K "NoStretch")) (.ref (He.ga K "Slip")) = some false
  k_NoStretch_NoText : PySem.W.kitOne K (.ref (He.ga K "NoStretch")) (.ref (He.ga K "NoText")) = some false
  k_NoStretch_NoSize : PySem.W.kitOne K (.ref (He.ga K "NoStretch")) (.ref (He.ga K "NoSize")) = some false
  k_NoStretch_NoLand : PySem.W.kitOne K (.ref (He.ga K "NoStretch")) (.ref (He.ga K "NoLand")) = some false
  k_NoStretch_LandTwice : PySem.W.kitOne K (.ref (He.ga K "NoStretch")) (.ref (He.ga K "LandTwice")) = some false
  k_NoStretch_NoBottom : PySem.W.kitOne K (.ref (He.ga K "NoStretch")) (.ref (He.ga K "NoBottom")) = some false
  k_NoStretch_NothingBack : PySem.W.kitOne K (.ref (He.ga K "NoStretch")) (.ref (He.ga K "NothingBack")) = some false
  k_NoStretch_LadderError : PySem.W.kitOne K (.ref (He.ga K "NoStretch")) (.ref (He.ga K "LadderError")) = some true
  k_NoStretch_ValueError : PySem.W.kitOne K (.ref (He.ga K "NoStretch")) (.type "ValueError") = some true
  k_NoStretch_LandError : PySem.W.kitOne K (.ref (He.ga K "NoStretch")) (.ref (He.ga K "LandError")) = some false
  k_NoStretch_LookupError : PySem.W.kitOne K (.ref (He.ga K "NoStretch")) (.type "LookupError") = some false
  k_NoStretch_ZeroDivisionError : PySem.W.kitOne K (.ref (He.ga K "NoStretch")) (.type "ZeroDivisionError") = some false
  k_NoStretch_IndexError : PySem.W.kitOne K (.ref (He.ga K "NoStretch")) (.type "IndexError") = some false
  k_NoLadder_NoMeasure : PySem.W.kitOne K (.ref (He.ga K "NoLadder")) (.ref (He.ga K "NoMeasure")) = some false
  k_NoLadder_NoStretch : PySem.W.kitOne K (.ref (He.ga K "NoLadder")) (.ref (He.ga K "NoStretch")) = some false
  k_NoLadder_NoLadder : PySem.W.kitOne K (.ref (He.ga K "NoLadder")) (.ref (He.ga K "NoLadder")) = some true
  k_NoLadder_NoLine : PySem.W.kitOne K (.ref (He.ga K "NoLadder")) (.ref (He.ga K "NoLine")) = some false
  k_NoLadder_Slip : PySem.W.kitOne K (.ref (He.ga K "NoLadder")) (.ref (He.ga K "Slip")) = some false
  k_NoLadder_NoText : PySem.W.kitOne K (.ref (He.ga K "NoLadder")) (.ref (He.ga K "NoText")) = some false
  k_NoLadder_NoSize : PySem.W.kitOne K (.ref (He.ga K "NoLadder")) (.ref (He.ga K "NoSize")) = some false
  k_NoLadder_NoLand : PySem.W.kitOne K (.ref (He.ga K "NoLadder")) (.ref (He.ga K "NoLand")) = some false
  k_NoLadder_LandTwice : PySem.W.kitOne K (.ref (He.ga K "NoLadder")) (.ref (He.ga K "LandTwice")) = some false
  k_NoLadder_NoBottom : PySem.W.kitOne K (.ref (He.ga K "NoLadder")) (.ref (He.ga K "NoBottom")) = some false
  k_NoLadder_NothingBack : PySem.W.kitOne K (.ref (He.ga K "NoLadder")) (.ref (He.ga K "NothingBack")) = some false
  k_NoLadder_LadderError : PySem.W.kitOne K (.ref (He.ga K "NoLadder")) (.ref (He.ga K "LadderError")) = some true
  k_NoLadder_ValueError : PySem.W.kitOne K (.ref (He.ga K "NoLadder")) (.type "ValueError") = some true
  k_NoLadder_LandError : PySem.W.kitOne K (.ref (He.ga K "NoLadder")) (.ref (He.ga K "LandError")) = some false
  k_NoLadder_LookupError : PySem.W.kitOne K (.ref (He.ga K "NoLadder")) (.type "LookupError") = some false
  k_NoLadder_ZeroDivisionError : PySem.W.kitOne K (.ref (He.ga K "NoLadder")) (.type "ZeroDivisionError") = some false
  k_NoLadder_IndexError : PySem.W.kitOne K (.ref (He.ga K "NoLadder")) (.type "IndexError") = some false
  k_NoLine_NoMeasure : PySem.W.kitOne K (.ref (He.ga K "NoLine")) (.ref (He.ga K "NoMeasure")) = some false
  k_NoLine_NoStretch : PySem.W.kitOne K (.ref (He.ga K "NoLine")) (.ref (He.ga K "NoStretch")) = some false
  k_NoLine_NoLadder : PySem.W.kitOne K (.ref (He.ga K "NoLine")) (.ref (He.ga K "NoLadder")) = some false
  k_NoLine_NoLine : PySem.W.kitOne K (.ref (He.ga K "NoLine")) (.ref (He.ga K "NoLine")) = some true
  k_NoLine_Slip : PySem.W.kitOne K (.ref (He.ga K "NoLine")) (.ref (He.ga K "Slip")) = some false
  k_NoLine_NoText : PySem.W.kitOne K (.ref (He.ga K "NoLine")) (.ref (He.ga K "NoText")) = some false
  k_NoLine_NoSize : PySem.W.kitOne K (.ref (He.ga K "NoLine")) (.ref (He.ga K "NoSize")) = some false
  k_NoLine_NoLand : PySem.W.kitOne K (.ref (He.ga K "NoLine")) (.ref (He.ga K "NoLand")) = some false
  k_NoLine_LandTwice : PySem.W.kitOne K (.ref (He.ga K "NoLine")) (.ref (He.ga K "LandTwice")) = some false
  k_NoLine_NoBottom : PySem.W.kitOne K (.ref (He.ga K "NoLine")) (.ref (He.ga K "NoBottom")) = some false
  k_NoLine_NothingBack : PySem.W.kitOne K (.ref (He.ga K "NoLine")) (.ref (He.ga K "NothingBack")) = some false
  k_NoLine_LadderError : PySem.W.kitOne K (.ref (He.ga K "NoLine")) (.ref (He.ga K "LadderError")) = some true
  k_NoLine_ValueError : PySem.W.kitOne K (.ref (He.ga K "NoLine")) (.type "ValueError") = some true
  k_NoLine_LandError : PySem.W.kitOne K (.ref (He.ga K "NoLine")) (.ref (He.ga K "LandError")) = some false
  k_NoLine_LookupError : PySem.W.kitOne K (.ref (He.ga K "NoLine")) (.type "LookupError") = some false
  k_NoLine_ZeroDivisionError : PySem.W.kitOne K (.ref (He.ga K "NoLine")) (.type "ZeroDivisionError") = some false
  k_NoLine_IndexError : PySem.W.kitOne K (.ref (He.ga K "NoLine")) (.type "IndexError") = some false
  k_Slip_NoMeasure : PySem.W.kitOne K (.ref (He.ga K "Slip")) (.ref (He.ga K "NoMeasure")) = some false
  k_Slip_NoStretch : PySem.W.kitOne K (.ref (He.ga K "Slip")) (.ref (He.ga K "NoStretch")) = some false
  k_Slip_NoLadder : PySem.W.kitOne K (.ref (He.ga K "Slip")) (.ref (He.ga K "NoLadder")) = some false
  k_Slip_NoLine : PySem.W.kitOne K (.ref (He.ga K "Slip")) (.ref (He.ga K "NoLine")) = some false
  k_Slip_Slip : PySem.W.kitOne K (.ref (He.ga K "Slip")) (.ref (He.ga K "Slip")) = some true
  k_Slip_NoText : PySem.W.kitOne K (.ref (He.ga K "Slip")) (.ref (He.ga K "NoText")) = some false
  k_Slip_NoSize : PySem.W.kitOne K (.ref (He.ga K "Slip")) (.ref (He.ga K "NoSize")) = some false
  k_Slip_NoLand : PySem.W.kitOne K (.ref (He.ga K "Slip")) (.ref (He.ga K "NoLand")) = some false
  k_Slip_LandTwice : PySem.W.kitOne K (.ref (He.ga K "Slip")) (.ref (He.ga K "LandTwice")) = some false
  k_Slip_NoBottom : PySem.W.kitOne K (.ref (He.ga K "Slip")) (.ref (He.ga K "NoBottom")) = some false
  k_Slip_NothingBack : PySem.W.kitOne K (.ref (He.ga K "Slip")) (.ref (He.ga K "NothingBack")) = some false
  k_Slip_LadderError : PySem.W.kitOne K (.ref (He.ga K "Slip")) (.ref (He.ga K "LadderError")) = some true
  k_Slip_ValueError : PySem.W.kitOne K (.ref (He.ga K "Slip")) (.type "ValueError") = some true
  k_Slip_LandError : PySem.W.kitOne K (.ref (He.ga K "Slip")) (.ref (He.ga K "LandError")) = some false
  k_Slip_LookupError : PySem.W.kitOne K (.ref (He.ga K "Slip")) (.type "LookupError") = some false
  k_Slip_ZeroDivisionError : PySem.W.kitOne K (.ref (He.ga K "Slip")) (.type "ZeroDivisionError") = some false
  k_Slip_IndexError : PySem.W.kitOne K (.ref (He.ga K "Slip")) (.type "IndexError") = some false
  k_NoText_NoMeasure : PySem.W.kitOne K (.ref (He.ga K "NoText")) (.ref (He.ga K "NoMeasure")) = some false
  k_NoText_NoStretch : PySem.W.kitOne K (.ref (He.ga K "NoText")) (.ref (He.ga K "NoStretch")) = some false
  k_NoText_NoLadder : PySem.W.kitOne K (.ref (He.ga K "NoText")) (.ref (He.ga K "NoLadder")) = some false
  k_NoText_NoLine : PySem.W.kitOne K (.ref (He.ga K "NoText")) (.ref (He.ga K "NoLine")) = some false
  k_NoText_Slip : PySem.W.kitOne K (.ref (He.ga K "NoText")) (.ref (He.ga K "Slip")) = some false
  k_NoText_NoText : PySem.W.kitOne K (.ref (He.ga K "NoText")) (.ref (He.ga K "NoText")) = some true
  k_NoText_NoSize : PySem.W.kitOne K (.ref (He.ga K "NoText")) (.ref (He.ga K "NoSize")) = some false
  k_NoText_NoLand : PySem.W.kitOne K (.ref (He.ga K "NoText")) (.ref (He.ga K "NoLand")) = some false
  k_NoText_LandTwice : PySem.W.kitOne K (.ref (He.ga K "NoText")) (.ref (He.ga K "LandTwice")) = some false
  k_NoText_NoBottom : PySem.W.kitOne K (.ref (He.ga K "NoText")) (.ref (He.ga K "NoBottom")) = some false
  k_NoText_NothingBack : PySem.W.kitOne K (.ref (He.ga K "NoText")) (.ref (He.ga K "NothingBack")) = some false
  k_NoText_LadderError : PySem.W.kitOne K (.ref (He.ga K "NoText")) (.ref (He.ga K "LadderError")) = some true
  k_NoText_ValueError : PySem.W.kitOne K (.ref (He.ga K "NoText")) (.type "ValueError") = some true
  k_NoText_LandError : PySem.W.kitOne K (.ref (He.ga K "NoText")) (.ref (He.ga K "LandError")) = some false
  k_NoText_LookupError : PySem.W.kitOne K (.ref (He.ga K "NoText")) (.type "LookupError") = some false
  k_NoText_ZeroDivisionError : PySem.W.kitOne K (.ref (He.ga K "NoText")) (.type "ZeroDivisionError") = some false
  k_NoText_IndexError : PySem.W.kitOne K (.ref (He.ga K "NoText")) (.type "IndexError") = some false
  k_NoSize_NoMeasure : PySem.W.kitOne K (.ref (He.ga K "NoSize")) (.ref (He.ga K "NoMeasure")) = some false
  k_NoSize_NoStretch : PySem.W.kitOne K (.ref (He.ga K "NoSize")) (.ref (He.ga K "NoStretch")) = some false
  k_NoSize_NoLadder : PySem.W.kitOne K (.ref (He.ga K "NoSize")) (.ref (He.ga K "NoLadder")) = some false
  k_NoSize_NoLine : PySem.W.kitOne K (.ref (He.ga K "NoSize")) (.ref (He.ga K "NoLine")) = some false
  k_NoSize_Slip : PySem.W.kitOne K (.ref (He.ga K "NoSize")) (.ref (He.ga K "Slip")) = some false
  k_NoSize_NoText : PySem.W.kitOne K (.ref (He.ga K "NoSize")) (.ref (He.ga K "NoText")) = some false
  k_NoSize_NoSize : PySem.W.kitOne K (.ref (He.ga K "NoSize")) (.ref (He.ga K "NoSize")) = some true
  k_NoSize_NoLand : PySem.W.kitOne K (.ref (He.ga K "NoSize")) (.ref (He.ga K "NoLand")) = some false
  k_NoSize_LandTwice : PySem.W.kitOne K (.ref (He.ga K "NoSize")) (.ref (He.ga K "LandTwice")) = some false
  k_NoSize_NoBottom : PySem.W.kitOne K (.ref (He.ga K "NoSize")) (.ref (He.ga K "NoBottom")) = some false
  k_NoSize_NothingBack : PySem.W.kitOne K (.ref (He.ga K "NoSize")) (.ref (He.ga K "NothingBack")) = some false
  k_NoSize_LadderError : PySem.W.kitOne K (.ref (He.ga K "NoSize")) (.ref (He.ga K "LadderError")) = some false
  k_NoSize_ValueError : PySem.W.kitOne K (.ref (He.ga K "NoSize")) (.type "ValueError") = some false
  k_NoSize_LandError : PySem.W.kitOne K (.ref (He.ga K "NoSize")) (.ref (He.ga K "LandError")) = some true
  k_NoSize_LookupError : PySem.W.kitOne K (.ref (He.ga K "NoSize")) (.type "LookupError") = some true
  k_NoSize_ZeroDivisionError : PySem.W.kitOne K (.ref (He.ga K "NoSize")) (.type "ZeroDivisionError") = some false
  k_NoSize_IndexError : PySem.W.kitOne K (.ref (He.ga K "NoSize")) (.type "IndexError") = some false
  k_NoLand_NoMeasure : PySem.W.kitOne K (.ref (He.ga K "NoLand")) (.ref (He.ga K "NoMeasure")) = some false
  k_NoLand_NoStretch : PySem.W.kitOne K (.ref (He.ga K "NoLand")) (.ref (He.ga K "NoStretch")) = some false
  k_NoLand_NoLadder : PySem.W.kitOne K (.ref (He.ga K "NoLand")) (.ref (He.ga K "NoLadder")) = some false
  k_NoLand_NoLine : PySem.W.kitOne K (.ref (He.ga K "NoLand")) (.ref (He.ga K "NoLine")) = some false
  k_NoLand_Slip : PySem.W.kitOne K (.ref (He.ga K "NoLand")) (.ref (He.ga K "Slip")) = some false
  k_NoLand_NoText : PySem.W.kitOne K (.ref (He.ga K "NoLand")) (.ref (He.ga K "NoText")) = some false
  k_NoLand_NoSize : PySem.W.kitOne K (.ref (He.ga K "NoLand")) (.ref (He.ga K "NoSize")) = some false
  k_NoLand_NoLand : PySem.W.kitOne K (.ref (He.ga K "NoLand")) (.ref (He.ga K "NoLand")) = some true
  k_NoLand_LandTwice : PySem.W.kitOne K (.ref (He.ga K "NoLand")) (.ref (He.ga K "LandTwice")) = some false
  k_NoLand_NoBottom : PySem.W.kitOne K (.ref (He.ga K "NoLand")) (.ref (He.ga K "NoBottom")) = some false
  k_NoLand_NothingBack : PySem.W.kitOne K (.ref (He.ga K "NoLand")) (.ref (He.ga K "NothingBack")) = some false
  k_NoLand_LadderError : PySem.W.kitOne K (.ref (He.ga K "NoLand")) (.ref (He.ga K "LadderError")) = some false
  k_NoLand_ValueError : PySem.W.kitOne K (.ref (He.ga K "NoLand")) (.type "ValueError") = some false
  k_NoLand_LandError : PySem.W.kitOne K (.ref (He.ga K "NoLand")) (.ref (He.ga K "LandError")) = some true
  k_NoLand_LookupError : PySem.W.kitOne K (.ref (He.ga K "NoLand")) (.type "LookupError") = some true
  k_NoLand_ZeroDivisionError : PySem.W.kitOne K (.ref (He.ga K "NoLand")) (.type "ZeroDivisionError") = some false
  k_NoLand_IndexError : PySem.W.kitOne K (.ref (He.ga K "NoLand")) (.type "IndexError") = some false
  k_LandTwice_NoMeasure : PySem.W.kitOne K (.ref (He.ga K "LandTwice")) (.ref (He.ga K "NoMeasure")) = some false
  k_LandTwice_NoStretch : PySem.W.kitOne K (.ref (He.ga K "LandTwice")) (.ref (He.ga K "NoStretch")) = some false
  k_LandTwice_NoLadder : PySem.W.kitOne K (.ref (He.ga K "LandTwice")) (.ref (He.ga K "NoLadder")) = some false
  k_LandTwice_NoLine : PySem.W.kitOne K (.ref (He.ga K "LandTwice")) (.ref (He.ga K "NoLine")) = some false
  k_LandTwice_Slip : PySem.W.kitOne K (.ref (He.ga K "LandTwice")) (.ref (He.ga K "Slip")) = some false
  k_LandTwice_NoText : PySem.W.kitOne K (.ref (He.ga K "LandTwice")) (.ref (He.ga K "NoText")) = some false
  k_LandTwice_NoSize : PySem.W.kitOne K (.ref (He.ga K "LandTwice")) (.ref (He.ga K "NoSize")) = some false
  k_LandTwice_NoLand : PySem.W.kitOne K (.ref (He.ga K "LandTwice")) (.ref (He.ga K "NoLand")) = some false
  k_LandTwice_LandTwice : PySem.W.kitOne K (.ref (He.ga K "LandTwice")) (.ref (He.ga K "LandTwice")) = some true
  k_LandTwice_NoBottom : PySem.W.kitOne K (.ref (He.ga K "LandTwice")) (.ref (He.ga K "NoBottom")) = some false
  k_LandTwice_NothingBack : PySem.W.kitOne K (.ref (He.ga K "LandTwice")) (.ref (He.ga K "NothingBack")) = some false
  k_LandTwice_LadderError : PySem.W.kitOne K (.ref (He.ga K "LandTwice")) (.ref (He.ga K "LadderError")) = some false
  k_LandTwice_ValueError : PySem.W.kitOne K (.ref (He.ga K "LandTwice")) (.type "ValueError") = some false
  k_LandTwice_LandError : PySem.W.kitOne K (.ref (He.ga K "LandTwice")) (.ref (He.ga K "LandError")) = some true
  k_LandTwice_LookupError : PySem.W.kitOne K (.ref (He.ga K "LandTwice")) (.type "LookupError") = some true
  k_LandTwice_ZeroDivisionError : PySem.W.kitOne K (.ref (He.ga K "LandTwice")) (.type "ZeroDivisionError") = some false
  k_LandTwice_IndexError : PySem.W.kitOne K (.ref (He.ga K "LandTwice")) (.type "IndexError") = some false
  k_NoBottom_NoMeasure : PySem.W.kitOne K (.ref (He.ga K "NoBottom")) (.ref (He.ga K "NoMeasure")) = some false
  k_NoBottom_NoStretch : PySem.W.kitOne K (.ref (He.ga K "NoBottom")) (.ref (He.ga K "NoStretch")) = some false
  k_NoBottom_NoLadder : PySem.W.kitOne K (.ref (He.ga K "NoBottom")) (.ref (He.ga K "NoLadder")) = some false
  k_NoBottom_NoLine : PySem.W.kitOne K (.ref (He.ga K "NoBottom")) (.ref (He.ga K "NoLine")) = some false
  k_NoBottom_Slip : PySem.W.kitOne K (.ref (He.ga K "NoBottom")) (.ref (He.ga K "Slip")) = some false
  k_NoBottom_NoText : PySem.W.kitOne K (.ref (He.ga K "NoBottom")) (.ref (He.ga K "NoText")) = some false
  k_NoBottom_NoSize : PySem.W.kitOne K (.ref (He.ga K "NoBottom")) (.ref (He.ga K "NoSize")) = some false
  k_NoBottom_NoLand : PySem.W.kitOne K (.ref (He.ga K "NoBottom")) (.ref (He.ga K "NoLand")) = some false
  k_NoBottom_LandTwice : PySem.W.kitOne K (.ref (He.ga K "NoBottom")) (.ref (He.ga K "LandTwice")) = some false
  k_NoBottom_NoBottom : PySem.W.kitOne K (.ref (He.ga K "NoBottom")) (.ref (He.ga K "NoBottom")) = some true
  k_NoBottom_NothingBack : PySem.W.kitOne K (.ref (He.ga K "NoBottom")) (.ref (He.ga K "NothingBack")) = some false
  k_NoBottom_LadderError : PySem.W.kitOne K (.ref (He.ga K "NoBottom")) (.ref (He.ga K "LadderError")) = some false
  k_NoBottom_ValueError : PySem.W.kitOne K (.ref (He.ga K "NoBottom")) (.type "ValueError") = some false
  k_NoBottom_LandError : PySem.W.kitOne K (.ref (He.ga K "NoBottom")) (.ref (He.ga K "LandError")) = some false
  k_NoBottom_LookupError : PySem.W.kitOne K (.ref (He.ga K "NoBottom")) (.type "LookupError") = some false
  k_NoBottom_ZeroDivisionError : PySem.W.kitOne K (.ref (He.ga K "NoBottom")) (.type "ZeroDivisionError") = some true
  k_NoBottom_IndexError : PySem.W.kitOne K (.ref (He.ga K "NoBottom")) (.type "IndexError") = some false
  k_NothingBack_NoMeasure : PySem.W.kitOne K (.ref (He.ga K "NothingBack")) (.ref (He.ga K "NoMeasure")) = some false
  k_NothingBack_NoStretch : PySem.W.kitOne K (.ref (He.ga K "NothingBack")) (.ref (He.ga K "NoStretch")) = some false
  k_NothingBack_NoLadder : PySem.W.kitOne K (.ref (He.ga K "NothingBack")) (.ref (He.ga K "NoLadder")) = some false
  k_NothingBack_NoLine : PySem.W.kitOne K (.ref (He.ga K "NothingBack")) (.ref (He.ga K "NoLine")) = some false
  k_NothingBack_Slip : PySem.W.kitOne K (.ref (He.ga K "NothingBack")) (.ref (He.ga K "Slip")) = some false
  k_NothingBack_NoText : PySem.W.kitOne K (.ref (He.ga K "NothingBack")) (.ref (He.ga K "NoText")) = some false
  k_NothingBack_NoSize : PySem.W.kitOne K (.ref (He.ga K "NothingBack")) (.ref (He.ga K "NoSize")) = some false
  k_NothingBack_NoLand : PySem.W.kitOne K (.ref (He.ga K "NothingBack")) (.ref (He.ga K "NoLand")) = some false
  k_NothingBack_LandTwice : PySem.W.kitOne K (.ref (He.ga K "NothingBack")) (.ref (He.ga K "LandTwice")) = some false
  k_NothingBack_NoBottom : PySem.W.kitOne K (.ref (He.ga K "NothingBack")) (.ref (He.ga K "NoBottom")) = some false
  k_NothingBack_NothingBack : PySem.W.kitOne K (.ref (He.ga K "NothingBack")) (.ref (He.ga K "NothingBack")) = some true
  k_NothingBack_LadderError : PySem.W.kitOne K (.ref (He.ga K "NothingBack")) (.ref (He.ga K "LadderError")) = some false
  k_NothingBack_ValueError : PySem.W.kitOne K (.ref (He.ga K "NothingBack")) (.type "ValueError") = some false
  k_NothingBack_LandError : PySem.W.kitOne K (.ref (He.ga K "NothingBack")) (.ref (He.ga K "LandError")) = some false
  k_NothingBack_LookupError : PySem.W.kitOne K (.ref (He.ga K "NothingBack")) (.type "LookupError") = some true
  k_NothingBack_ZeroDivisionError : PySem.W.kitOne K (.ref (He.ga K "NothingBack")) (.type "ZeroDivisionError") = some false
  k_NothingBack_IndexError : PySem.W.kitOne K (.ref (He.ga K "NothingBack")) (.type "IndexError") = some true
  k_LadderError_LadderError : PySem.W.kitOne K (.ref (He.ga K "LadderError")) (.ref (He.ga K "LadderError")) = some true
  k_LadderError_ValueError : PySem.W.kitOne K (.ref (He.ga K "LadderError")) (.type "ValueError") = some true
  k_LadderError_LandError : PySem.W.kitOne K (.ref (He.ga K "LadderError")) (.ref (He.ga K "LandError")) = some false
  k_LadderError_LookupError : PySem.W.kitOne K (.ref (He.ga K "LadderError")) (.type "LookupError") = some false
  k_LadderError_ZeroDivisionError : PySem.W.kitOne K (.ref (He.ga K "LadderError")) (.type "ZeroDivisionError") = some false
  k_LadderError_IndexError : PySem.W.kitOne K (.ref (He.ga K "LadderError")) (.type "IndexError") = some false
  k_LandError_LadderError : PySem.W.kitOne K (.ref (He.ga K "LandError")) (.ref (He.ga K "LadderError")) = some false
  k_LandError_ValueError : PySem.W.kitOne K (.ref (He.ga K "LandError")) (.type "ValueError") = some false
  k_LandError_LandError : PySem.W.kitOne K (.ref (He.ga K "LandError")) (.ref (He.ga K "LandError")) = some true
  k_LandError_LookupError : PySem.W.kitOne K (.ref (He.ga K "LandError")) (.type "LookupError") = some true
  k_LandError_ZeroDivisionError : PySem.W.kitOne K (.ref (He.ga K "LandError")) (.type "ZeroDivisionError") = some false
  k_LandError_IndexError : PySem.W.kitOne K (.ref (He.ga K "LandError")) (.type "IndexError") = some false
  su_Slip_init : SupD K (He.ga K "Slip") "__init__" "Slip.__init__" (defArgs s_Slip_init) (defBody s_Slip_init) (defScope s_Slip_init) [] (He.fAd K ("Slip", some "__init__")) φ.Slip_init_cc φ.Slip_init_cda "/claim/cut.py" φ.Slip_init
  su_NoText_init : SupD K (He.ga K "NoText") "__init__" "NoText.__init__" (defArgs s_NoText_init) (defBody s_NoText_init) (defScope s_NoText_init) [V.str "form"] (He.fAd K ("NoText", some "__init__")) φ.NoText_init_cc φ.NoText_init_cda "/claim/cut.py" φ.NoText_init
  su_NoSize_init : SupD K (He.ga K "NoSize") "__init__" "NoSize.__init__" (defArgs s_NoSize_init) (defBody s_NoSize_init) (defScope s_NoSize_init) [] (He.fAd K ("NoSize", some "__init__")) φ.NoSize_init_cc φ.NoSize_init_cda "/claim/cut.py" φ.NoSize_init
  su_NoLand_init : SupD K (He.ga K "NoLand") "__init__" "NoLand.__init__" (defArgs s_NoLand_init) (defBody s_NoLand_init) (defScope s_NoLand_init) [] (He.fAd K ("NoLand", some "__init__")) φ.NoLand_init_cc φ.NoLand_init_cda "/claim/cut.py" φ.NoLand_init
  su_LandTwice_init : SupD K (He.ga K "LandTwice") "__init__" "LandTwice.__init__" (defArgs s_LandTwice_init) (defBody s_LandTwice_init) (defScope s_LandTwice_init) [] (He.fAd K ("LandTwice", some "__init__")) φ.LandTwice_init_cc φ.LandTwice_init_cda "/claim/cut.py" φ.LandTwice_init
  f_l_hand_of : FunD K "_law_hand_of" "_law_hand_of" (defArgs s_l_hand_of) (defBody s_l_hand_of) (defScope s_l_hand_of) [] [] (He.fAd K ("_law_hand_of", none)) φ.l_hand_of
  f_l_take : FunD K "_law_take" "_law_take" (defArgs s_l_take) (defBody s_l_take) (defScope s_l_take) [] [] (He.fAd K ("_law_take", none)) φ.l_take
  f_l_thing : FunD K "_law_thing" "_law_thing" (defArgs s_l_thing) (defBody s_l_thing) (defScope s_l_thing) [] [] (He.fAd K ("_law_thing", none)) φ.l_thing
  f_l_own : FunD K "_law_own" "_law_own" (defArgs s_l_own) (defBody s_l_own) (defScope s_l_own) [] [] (He.fAd K ("_law_own", none)) φ.l_own
  f_l_families : FunD K "_law_families" "_law_families" (defArgs s_l_families) (defBody s_l_families) (defScope s_l_families) [] [] (He.fAd K ("_law_families", none)) φ.l_families
  f_l_kinds_right : FunD K "_law_kinds_right" "_law_kinds_right" (defArgs s_l_kinds_right) (defBody s_l_kinds_right) (defScope s_l_kinds_right) [] [] (He.fAd K ("_law_kinds_right", none)) φ.l_kinds_right
  f_l_values_right : FunD K "_law_values_right" "_law_values_right" (defArgs s_l_values_right) (defBody s_l_values_right) (defScope s_l_values_right) [] [] (He.fAd K ("_law_values_right", none)) φ.l_values_right
  f_law : FunD K "law" "law" (defArgs s_law) (defBody s_law) (defScope s_law) [] [] (He.fAd K ("law", none)) φ.law
/-! ### the head -/
def h_l_hand_of : He.DefD := ⟨("_law_hand_of", none), "_law_hand_of", "_law_hand_of", defArgs s_l_hand_of, defBody s_l_hand_of, defScope s_l_hand_of, [], []⟩
def h_l_take : He.DefD := ⟨("_law_take", none), "_law_take", "_law_take", defArgs s_l_take, defBody s_l_take, defScope s_l_take, [], []⟩
def h_l_thing : He.DefD := ⟨("_law_thing", none), "_law_thing", "_law_thing", defArgs s_l_thing, defBody s_l_thing, defScope s_l_thing, [], []⟩
def h_l_own : He.DefD := ⟨("_law_own", none), "_law_own", "_law_own", defArgs s_l_own, defBody s_l_own, defScope s_l_own, [], []⟩
def h_l_families : He.DefD := ⟨("_law_families", none), "_law_families", "_law_families", defArgs s_l_families, defBody s_l_families, defScope s_l_families, [], []⟩
def h_l_kinds_right : He.DefD := ⟨("_law_kinds_right", none), "_law_kinds_right", "_law_kinds_right", defArgs s_l_kinds_right, defBody s_l_kinds_right, defScope s_l_kinds_right, [], []⟩
def h_l_values_right : He.DefD := ⟨("_law_values_right", none), "_law_values_right", "_law_values_right", defArgs s_l_values_right, defBody s_l_values_right, defScope s_l_values_right, [], []⟩
def h_law : He.DefD := ⟨("law", none), "law", "law", defArgs s_law, defBody s_law, defScope s_law, [], []⟩
def fn : List He.DefD := [h_l_hand_of, h_l_take, h_l_thing, h_l_own, h_l_families, h_l_kinds_right, h_l_values_right, h_law]
def fa : List He.Fa := [.glo "_law_hand_of", .glo "_law_take", .glo "_law_thing", .glo "_law_own", .glo "_law_families", .glo "_law_kinds_right", .glo "_law_values_right", .glo "law", .glo "Slip", .glo "NoText", .glo "NoSize", .glo "NoLand", .glo "LandTwice", .free "super", .glo "NoMeasure", .glo "NoStretch", .glo "NoLadder", .glo "NoLine", .glo "LadderError", .glo "LandError", .glo "NoBottom", .glo "NothingBack", .free "IndexError", .free "LookupError", .free "ValueError", .free "ZeroDivisionError", .free "enumerate", .free "int", .free "isinstance", .free "len", .free "min", .free "range", .free "repr"]
abbrev R : PySem.W.OpenRow := PySem.W.OpenLaw.row PySem.Challenge.rw_sizeladders_k74_whole_errors_by_hand
def ex : List (PySem.W.Frag → Bool) := [supCB "Slip" "ValueError" "ValueError.__new__" "ValueError.__init__" PySem.HandSPX.veTail, supIB "Slip", xfNB "Slip" "row", supCB "NoText" "ValueError" "ValueError.__new__" "ValueError.__init__" PySem.HandSPX.veTail, supIB "NoText", xfNB "NoText" "row", xfNB "NoText" "why", supCB "NoSize" "LookupError" "LookupError.__new__" "LookupError.__init__" leTail, supIB "NoSize", xfNB "NoSize" "number", supCB "NoLand" "LookupError" "LookupError.__new__" "LookupError.__init__" leTail, supIB "NoLand", xfNB "NoLand" "name", supCB "LandTwice" "LookupError" "LookupError.__new__" "LookupError.__init__" leTail, supIB "LandTwice", xfNB "LandTwice" "name", smdB, excCB "NoMeasure", excCB "NoStretch", excCB "NoLadder", excCB "NoLine", excCB "Slip", excCB "NoText", excCB "NoSize", excCB "NoLand", excCB "LandTwice", excCB "NoBottom", excCB "NothingBack", excCB "LadderError", excCB "LandError", excFB "NoMeasure" [.type "ValueError", .type "Exception", .type "BaseException", .type "object"] "ValueError.__new__", excFB "NoStretch" [.type "ValueError", .type "Exception", .type "BaseException", .type "object"] "ValueError.__new__", excFB "NoLadder" [.type "ValueError", .type "Exception", .type "BaseException", .type "object"] "ValueError.__new__", excFB "NoLine" [.type "ValueError", .type "Exception", .type "BaseException", .type "object"] "ValueError.__new__", excFB "LadderError" [.type "ValueError", .type "Exception", .type "BaseException", .type "object"] "ValueError.__new__", excFB "LandError" [.type "LookupError", .type "Exception", .type "BaseException", .type "object"] "LookupError.__new__", excFB "NoBottom" [.type "ZeroDivisionError", .type "ArithmeticError", .type "Exception", .type "BaseException", .type "object"] "ZeroDivisionError.__new__", excFB "NothingBack" [.type "IndexError", .type "LookupError", .type "Exception", .type "BaseException", .type "object"] "IndexError.__new__", kitF (.inl "NoMeasure") (.inl "NoMeasure") true, kitF (.inl "NoMeasure") (.inl "NoStretch") false, kitF (.inl "NoMeasure") (.inl "NoLadder") false, kitF (.inl "NoMeasure") (.inl "NoLine") false, kitF (.inl "NoMeasure") (.inl "Slip") false, kitF (.inl "NoMeasure") (.inl "NoText") false, kitF (.inl "NoMeasure") (.inl "NoSize") false, kitF (.inl "NoMeasure") (.inl "NoLand") false, kitF (.inl "NoMeasure") (.inl "LandTwice") false, kitF (.inl "NoMeasure") (.inl "NoBottom") false, kitF (.inl "NoMeasure") (.inl "NothingBack") false, kitF (.inl "NoMeasure") (.inl "LadderError") true, kitF (.inl "NoMeasure") (.inr "ValueError") true, kitF (.inl "NoMeasure") (.inl "LandError") false, kitF (.inl "NoMeasure") (.inr "LookupError") false, kitF (.inl "NoMeasure") (.inr "ZeroDivisionError") false, kitF (.inl "NoMeasure") (.inr "IndexError") false, kitF (.inl "NoStretch") (.inl "NoMeasure") false, kitF (.inl "NoStretch") (.inl "NoStretch") true, kitF (.inl "NoStretch") (.inl "NoLadder") false, kitF (.inl "NoStretch") (.inl "NoLine") false, kitF (.inl "NoStretch") (.inl "Slip") false, kitF (.inl "NoStretch") (.inl "NoText") false, kitF (.inl "NoStretch") (.inl "NoSize") false, kitF (.inl "NoStretch") (.inl "NoLand") false, kitF (.inl "NoStretch") (.inl "LandTwice") false, kitF (.inl "NoStretch") (.inl "NoBottom") false, kitF (.inl "NoStretch") (.inl "NothingBack") false, kitF (.inl "NoStretch") (.inl "LadderError") true, kitF (.inl "NoStretch") (.inr "ValueError") true, kitF (.inl "NoStretch") (.inl "LandError") false, kitF (.inl "NoStretch") (.inr "LookupError") false, kitF (.inl "NoStretch") (.inr "ZeroDivisionError") false, kitF (.inl "NoStretch") (.inr "IndexError") false, kitF (.inl "NoLadder") (.inl "NoMeasure") false, kitF (.inl "NoLadder") (.inl "NoStretch") false, kitF (.inl "NoLadder") (.inl "NoLadder") true, kitF (.inl "NoLadder") (.inl "NoLine") false, kitF (.inl "NoLadder") (.inl "Slip") false, kitF (.inl "NoLadder") (.inl "NoText") false, kitF (.inl "NoLadder") (.inl "NoSize") false, kitF (.inl "NoLadder") (.inl "NoLand") false, kitF (.inl "NoLadder") (.inl "LandTwice") false, kitF (.inl "NoLadder") (.inl "NoBottom") false, kitF (.inl "NoLadder") (.inl "NothingBack") false, kitF (.inl "NoLadder") (.inl "LadderError") true, kitF (.inl "NoLadder") (.inr "ValueError") true, kitF (.inl "NoLadder") (.inl "LandError") false, kitF (.inl "NoLadder") (.inr "LookupError") false, kitF (.inl "NoLadder") (.inr "ZeroDivisionError") false, kitF (.inl "NoLadder") (.inr "IndexError") false, kitF (.inl "NoLine") (.inl "NoMeasure") false, kitF (.inl "NoLine") (.inl "NoStretch") false, kitF (.inl "NoLine") (.inl "NoLadder") false, kitF (.inl "NoLine") (.inl "NoLine") true, kitF (.inl "NoLine") (.inl "Slip") false, kitF (.inl "NoLine") (.inl "NoText") false, kitF (.inl "NoLine") (.inl "NoSize") false, kitF (.inl "NoLine") (.inl "NoLand") false, kitF (.inl "NoLine") (.inl "LandTwice") false, kitF (.inl "NoLine") (.inl "NoBottom") false, kitF (.inl "NoLine") (.inl "NothingBack") false, kitF (.inl "NoLine") (.inl "LadderError") true, kitF (.inl "NoLine") (.inr "ValueError") true, kitF (.inl "NoLine") (.inl "LandError") false, kitF (.inl "NoLine") (.inr "LookupError") false, kitF (.inl "NoLine") (.inr "ZeroDivisionError") false, kitF (.inl "NoLine") (.inr "IndexError") false, kitF (.inl "Slip") (.inl "NoMeasure") false, kitF (.inl "Slip") (.inl "NoStretch") false, kitF (.inl "Slip") (.inl "NoLadder") false, kitF (.inl "Slip") (.inl "NoLine") false, kitF (.inl "Slip") (.inl "Slip") true, kitF (.inl "Slip") (.inl "NoText") false, kitF (.inl "Slip") (.inl "NoSize") false, kitF (.inl "Slip") (.inl "NoLand") false, kitF (.inl "Slip") (.inl "LandTwice") false, kitF (.inl "Slip") (.inl "NoBottom") false, kitF (.inl "Slip") (.inl "NothingBack") false, kitF (.inl "Slip") (.inl "LadderError") true, kitF (.inl "Slip") (.inr "ValueError") true, kitF (.inl "Slip") (.inl "LandError") false, kitF (.inl "Slip") (.inr "LookupError") false, kitF (.inl "Slip") (.inr "ZeroDivisionError") false, kitF (.inl "Slip") (.inr "IndexError") false, kitF (.inl "NoText") (.inl "NoMeasure") false, kitF (.inl "NoText") (.inl "NoStretch") false, kitF (.inl "NoText") (.inl "NoLadder") false, kitF (.inl "NoText") (.inl "NoLine") false, kitF (.inl "NoText") (.inl "Slip") false, kitF (.inl "NoText") (.inl "NoText") true, kitF (.inl "NoText") (.inl "NoSize") false, kitF (.inl "NoText") (.inl "NoLand") false, kitF (.inl "NoText") (.inl "LandTwice") false, kitF (.inl "NoText") (.inl "NoBottom") false, kitF (.inl "NoText") (.inl "NothingBack") false, kitF (.inl "NoText") (.inl "LadderError") true, kitF (.inl "NoText") (.inr "ValueError") true, kitF (.inl "NoText") (.inl "LandError") false, kitF (.inl "NoText") (.inr "LookupError") false, kitF (.inl "NoText") (.inr "ZeroDivisionError") false, kitF (.inl "NoText") (.inr "IndexError") false, kitF (.inl "NoSize") (.inl "NoMeasure") false, kitF (.inl "NoSize") (.inl "NoStretch") false, kitF (.inl "NoSize") (.inl "NoLadder") false, kitF (.inl "NoSize") (.inl "NoLine") false, kitF (.inl "NoSize") (.inl "Slip") false, kitF (.inl "NoSize") (.inl "NoText") false, kitF (.inl "NoSize") (.inl "NoSize") true, kitF (.inl "NoSize") (.inl "NoLand") false, kitF (.inl "NoSize") (.inl "LandTwice") false, kitF (.inl "NoSize") (.inl "NoBottom") false, kitF (.inl "NoSize") (.inl "NothingBack") false, kitF (.inl "NoSize") (.inl "LadderError") false, kitF (.inl "NoSize") (.inr "ValueError") false, kitF (.inl "NoSize") (.inl "LandError") true, kitF (.inl "NoSize") (.inr "LookupError") true, kitF (.inl "NoSize") (.inr "ZeroDivisionError") false, kitF (.inl "NoSize") (.inr "IndexError") false, kitF (.inl "NoLand") (.inl "NoMeasure") false, kitF (.inl "NoLand") (.inl "NoStretch") false, kitF (.inl "NoLand") (.inl "NoLadder") false, kitF (.inl "NoLand") (.inl "NoLine") false, kitF (.inl "NoLand") (.inl "Slip") false, kitF (.inl "NoLand") (.inl "NoText") false, kitF (.inl "NoLand") (.inl "NoSize") false, kitF (.inl "NoLand") (.inl "NoLand") true, kitF (.inl "NoLand") (.inl "LandTwice") false, kitF (.inl "NoLand") (.inl "NoBottom") false, kitF (.inl "NoLand") (.inl "NothingBack") false, kitF (.inl "NoLand") (.inl "LadderError") false, kitF (.inl "NoLand") (.inr "ValueError") false, kitF (.inl "NoLand") (.inl "LandError") true, kitF (.inl "NoLand") (.inr "LookupError") true, kitF (.inl "NoLand") (.inr "ZeroDivisionError") false, kitF (.inl "NoLand") (.inr "IndexError") false, kitF (.inl "LandTwice") (.inl "NoMeasure") false, kitF (.inl "LandTwice") (.inl "NoStretch") false, kitF (.inl "LandTwice") (.inl "NoLadder") false, kitF (.inl "LandTwice") (.inl "NoLine") false, kitF (.inl "LandTwice") (.inl "Slip") false, kitF (.inl "LandTwice") (.inl "NoText") false, kitF (.inl "LandTwice") (.inl "NoSize") false, kitF (.inl "LandTwice") (.inl "NoLand") false, kitF (.inl "LandTwice") (.inl "LandTwice") true, kitF (.inl "LandTwice") (.inl "NoBottom") false, kitF (.inl "LandTwice") (.inl "NothingBack") false, kitF (.inl "LandTwice") (.inl "LadderError") false, kitF (.inl "LandTwice") (.inr "ValueError") false, kitF (.inl "LandTwice") (.inl "LandError") true, kitF (.inl "LandTwice") (.inr "LookupError") true, kitF (.inl "LandTwice") (.inr "ZeroDivisionError") false, kitF (.inl "LandTwice") (.inr "IndexError") false, kitF (.inl "NoBottom") (.inl "NoMeasure") false, kitF (.inl "NoBottom") (.inl "NoStretch") false, kitF (.inl "NoBottom") (.inl "NoLadder") false, kitF (.inl "NoBottom") (.inl "NoLine") false, kitF (.inl "NoBottom") (.inl "Slip") false, kitF (.inl "NoBottom") (.inl "NoText") false, kitF (.inl "NoBottom") (.inl "NoSize") false, kitF (.inl "NoBottom") (.inl "NoLand") false, kitF (.inl "NoBottom") (.inl "LandTwice") false, kitF (.inl "NoBottom") (.inl "NoBottom") true, kitF (.inl "NoBottom") (.inl "NothingBack") false, kitF (.inl "NoBottom") (.inl "LadderError") false, kitF (.inl "NoBottom") (.inr "ValueError") false, kitF (.inl "NoBottom") (.inl "LandError") false, kitF (.inl "NoBottom") (.inr "LookupError") false, kitF (.inl "NoBottom") (.inr "ZeroDivisionError") true, kitF (.inl "NoBottom") (.inr "IndexError") false, kitF (.inl "NothingBack") (.inl "NoMeasure") false, kitF (.inl "NothingBack") (.inl "NoStretch") false, kitF (.inl "NothingBack") (.inl "NoLadder") false, kitF (.inl "NothingBack") (.inl "NoLine") false, kitF (.inl "NothingBack") (.inl "Slip") false, kitF (.inl "NothingBack") (.inl "NoText") false, kitF (.inl "NothingBack") (.inl "NoSize") false, kitF (.inl "NothingBack") (.inl "NoLand") false, kitF (.inl "NothingBack") (.inl "LandTwice") false, kitF (.inl "NothingBack") (.inl "NoBottom") false, kitF (.inl "NothingBack") (.inl "NothingBack") true, kitF (.inl "NothingBack") (.inl "LadderError") false, kitF (.inl "NothingBack") (.inr "ValueError") false, kitF (.inl "NothingBack") (.inl "LandError") false, kitF (.inl "NothingBack") (.inr "LookupError") true, kitF (.inl "NothingBack") (.inr "ZeroDivisionError") false, kitF (.inl "NothingBack") (.inr "IndexError") true, kitF (.inl "LadderError") (.inl "LadderError") true, kitF (.inl "LadderError") (.inr "ValueError") true, kitF (.inl "LadderError") (.inl "LandError") false, kitF (.inl "LadderError") (.inr "LookupError") false, kitF (.inl "LadderError") (.inr "ZeroDivisionError") false, kitF (.inl "LadderError") (.inr "IndexError") false, kitF (.inl "LandError") (.inl "LadderError") false, kitF (.inl "LandError") (.inr "ValueError") false, kitF (.inl "LandError") (.inl "LandError") true, kitF (.inl "LandError") (.inr "LookupError") true, kitF (.inl "LandError") (.inr "ZeroDivisionError") false, kitF (.inl "LandError") (.inr "IndexError") false, supDB "Slip" h_Slip_init "/claim/cut.py", supDB "NoText" h_NoText_init "/claim/cut.py", supDB "NoSize" h_NoSize_init "/claim/cut.py", supDB "NoLand" h_NoLand_init "/claim/cut.py", supDB "LandTwice" h_LandTwice_init "/claim/cut.py"]
def sps : List He.DefD := [h_Slip_init, h_NoText_init, h_NoSize_init, h_NoLand_init, h_LandTwice_init]
abbrev hk : PySem.W.Hook := hookE 5 fa fn ex sps
def ob (s : PySem.W.SharedT) : (He.AlD × Bool) × List SupW := obsE 5 fa fn ex sps (HandSHeadRun.getT s)
theorem ob_eq (s : PySem.W.SharedT) : ob s = hk.obs s.abs := obsE_eq (HandSHeadRun.getT_eq s)
theorem run (w : World) : HandSHeadRun.RunEq R (PySem.W.view R.prog [22]) hk ob 20000 [("LadderError" : PySem.Str), ("NoMeasure" : PySem.Str), ("NoStretch" : PySem.Str), ("NoLadder" : PySem.Str), ("NoLine" : PySem.Str), ("Slip" : PySem.Str), ("NoText" : PySem.Str), ("LandError" : PySem.Str), ("NoSize" : PySem.Str), ("NoLand" : PySem.Str), ("LandTwice" : PySem.Str), ("NoBottom" : PySem.Str), ("NothingBack" : PySem.Str), ("_law_hand_of" : PySem.Str), ("_law_take" : PySem.Str), ("_law_thing" : PySem.Str), ("_law_own" : PySem.Str), ("_law_families" : PySem.Str), ("_law_kinds_right" : PySem.Str), ("_law_values_right" : PySem.Str)] w := by
  intro os
  kernel_rfl

theorem facts {K : PySem.W.Frag} {h : Heap} {mg : Str → Option Value} (X : K.In h) (G : h.Ns mainGlobals mg) (c : He.SaysD fa fn K) (cx : (ex.all fun f => f K) = true) (csp : sps.map (fun d => supW K d.at_) = sps.map supVal) : ∃ φ : Fds, Txt R.prog K mg φ := by
  obtain ⟨d0, F0⟩ := c.def_ 0 (d := h_l_hand_of) rfl
  obtain ⟨d1, F1⟩ := c.def_ 1 (d := h_l_take) rfl
  obtain ⟨d2, F2⟩ := c.def_ 2 (d := h_l_thing) rfl
  obtain ⟨d3, F3⟩ := c.def_ 3 (d := h_l_own) rfl
  obtain ⟨d4, F4⟩ := c.def_ 4 (d := h_l_families) rfl
  obtain ⟨d5, F5⟩ := c.def_ 5 (d := h_l_kinds_right) rfl
  obtain ⟨d6, F6⟩ := c.def_ 6 (d := h_l_values_right) rfl
  obtain ⟨d7, F7⟩ := c.def_ 7 (d := h_law) rfl
  obtain ⟨e0, e0c, e0a, G0⟩ := supD_ok (sup_at csp 0 (d := h_Slip_init) rfl) (ex_at cx 237 (f := supDB "Slip" h_Slip_init "/claim/cut.py") rfl)
  obtain ⟨e1, e1c, e1a, G1⟩ := supD_ok (sup_at csp 1 (d := h_NoText_init) rfl) (ex_at cx 238 (f := supDB "NoText" h_NoText_init "/claim/cut.py") rfl)
  obtain ⟨e2, e2c, e2a, G2⟩ := supD_ok (sup_at csp 2 (d := h_NoSize_init) rfl) (ex_at cx 239 (f := supDB "NoSize" h_NoSize_init "/claim/cut.py") rfl)
  obtain ⟨e3, e3c, e3a, G3⟩ := supD_ok (sup_at csp 3 (d := h_NoLand_init) rfl) (ex_at cx 240 (f := supDB "NoLand" h_NoLand_init "/claim/cut.py") rfl)
  obtain ⟨e4, e4c, e4a, G4⟩ := supD_ok (sup_at csp 4 (d := h_LandTwice_init) rfl) (ex_at cx 241 (f := supDB "LandTwice" h_LandTwice_init "/claim/cut.py") rfl)
  refine ⟨⟨d0, d1, d2, d3, d4, d5, d6, d7, e0, e0c, e0a, e1, e1c, e1a, e2, e2c, e2a, e3, e3c, e3a, e4, e4c, e4a⟩, ?_⟩
  exact {
    g_l_hand_of := He.glo_ok X G (c.fact 0 (f := .glo "_law_hand_of") rfl),
    g_l_take := He.glo_ok X G (c.fact 1 (f := .glo "_law_take") rfl),
    g_l_thing := He.glo_ok X G (c.fact 2 (f := .glo "_law_thing") rfl),
    g_l_own := He.glo_ok X G (c.fact 3 (f := .glo "_law_own") rfl),
    g_l_families := He.glo_ok X G (c.fact 4 (f := .glo "_law_families") rfl),
    g_l_kinds_right := He.glo_ok X G (c.fact 5 (f := .glo "_law_kinds_right") rfl),
    g_l_values_right := He.glo_ok X G (c.fact 6 (f := .glo "_law_values_right") rfl),
    g_law := He.glo_ok X G (c.fact 7 (f := .glo "law") rfl),
    g_Slip := He.glo_ok X G (c.fact 8 (f := .glo "Slip") rfl),
    g_NoText := He.glo_ok X G (c.fact 9 (f := .glo "NoText") rfl),
    g_NoSize := He.glo_ok X G (c.fact 10 (f := .glo "NoSize") rfl),
    g_NoLand := He.glo_ok X G (c.fact 11 (f := .glo "NoLand") rfl),
    g_LandTwice := He.glo_ok X G (c.fact 12 (f := .glo "LandTwice") rfl),
    z_super := He.free_ok X G (c.fact 13 (f := .free "super") rfl),
    g_NoMeasure := He.glo_ok X G (c.fact 14 (f := .glo "NoMeasure") rfl),
    g_NoStretch := He.glo_ok X G (c.fact 15 (f := .glo "NoStretch") rfl),
    g_NoLadder := He.glo_ok X G (c.fact 16 (f := .glo "NoLadder") rfl),
    g_NoLine := He.glo_ok X G (c.fact 17 (f := .glo "NoLine") rfl),
    g_LadderError := He.glo_ok X G (c.fact 18 (f := .glo "LadderError") rfl),
    g_LandError := He.glo_ok X G (c.fact 19 (f := .glo "LandError") rfl),
    g_NoBottom := He.glo_ok X G (c.fact 20 (f := .glo "NoBottom") rfl),
    g_NothingBack := He.glo_ok X G (c.fact 21 (f := .glo "NothingBack") rfl),
    z_IndexError := He.free_ok X G (c.fact 22 (f := .free "IndexError") rfl),
    z_LookupError := He.free_ok X G (c.fact 23 (f := .free "LookupError") rfl),
    z_ValueError := He.free_ok X G (c.fact 24 (f := .free "ValueError") rfl),
    z_ZeroDivisionError := He.free_ok X G (c.fact 25 (f := .free "ZeroDivisionError") rfl),
    z_enumerate := He.free_ok X G (c.fact 26 (f := .free "enumerate") rfl),
    z_int := He.free_ok X G (c.fact 27 (f := .free "int") rfl),
    z_isinstance := He.free_ok X G (c.fact 28 (f := .free "isinstance") rfl),
    z_len := He.free_ok X G (c.fact 29 (f := .free "len") rfl),
    z_min := He.free_ok X G (c.fact 30 (f := .free "min") rfl),
    z_range := He.free_ok X G (c.fact 31 (f := .free "range") rfl),
    z_repr := He.free_ok X G (c.fact 32 (f := .free "repr") rfl),
    sc_Slip := supC_ok (ex_at cx 0 (f := supCB "Slip" "ValueError" "ValueError.__new__" "ValueError.__init__" PySem.HandSPX.veTail) rfl),
    si_Slip := supI_ok (ex_at cx 1 (f := supIB "Slip") rfl),
    xn_Slip_row := xfN_ok (ex_at cx 2 (f := xfNB "Slip" "row") rfl),
    sc_NoText := supC_ok (ex_at cx 3 (f := supCB "NoText" "ValueError" "ValueError.__new__" "ValueError.__init__" PySem.HandSPX.veTail) rfl),
    si_NoText := supI_ok (ex_at cx 4 (f := supIB "NoText") rfl),
    xn_NoText_row := xfN_ok (ex_at cx 5 (f := xfNB "NoText" "row") rfl),
    xn_NoText_why := xfN_ok (ex_at cx 6 (f := xfNB "NoText" "why") rfl),
    sc_NoSize := supC_ok (ex_at cx 7 (f := supCB "NoSize" "LookupError" "LookupError.__new__" "LookupError.__init__" leTail) rfl),
    si_NoSize := supI_ok (ex_at cx 8 (f := supIB "NoSize") rfl),
    xn_NoSize_number := xfN_ok (ex_at cx 9 (f := xfNB "NoSize" "number") rfl),
    sc_NoLand := supC_ok (ex_at cx 10 (f := supCB "NoLand" "LookupError" "LookupError.__new__" "LookupError.__init__" leTail) rfl),
    si_NoLand := supI_ok (ex_at cx 11 (f := supIB "NoLand") rfl),
    xn_NoLand_name := xfN_ok (ex_at cx 12 (f := xfNB "NoLand" "name") rfl),
    sc_LandTwice := supC_ok (ex_at cx 13 (f := supCB "LandTwice" "LookupError" "LookupError.__new__" "LookupError.__init__" leTail) rfl),
    si_LandTwice := supI_ok (ex_at cx 14 (f := supIB "LandTwice") rfl),
    xn_LandTwice_name := xfN_ok (ex_at cx 15 (f := xfNB "LandTwice" "name") rfl),
    smd := smd_ok (ex_at cx 16 (f := smdB) rfl),
    xc_NoMeasure := excC_ok (ex_at cx 17 (f := excCB "NoMeasure") rfl),
    xc_NoStretch := excC_ok (ex_at cx 18 (f := excCB "NoStretch") rfl),
    xc_NoLadder := excC_ok (ex_at cx 19 (f := excCB "NoLadder") rfl),
    xc_NoLine := excC_ok (ex_at cx 20 (f := excCB "NoLine") rfl),
    xc_Slip := excC_ok (ex_at cx 21 (f := excCB "Slip") rfl),
    xc_NoText := excC_ok (ex_at cx 22 (f := excCB "NoText") rfl),
    xc_NoSize := excC_ok (ex_at cx 23 (f := excCB "NoSize") rfl),
    xc_NoLand := excC_ok (ex_at cx 24 (f := excCB "NoLand") rfl),
    xc_LandTwice := excC_ok (ex_at cx 25 (f := excCB "LandTwice") rfl),
    xc_NoBottom := excC_ok (ex_at cx 26 (f := excCB "NoBottom") rfl),
    xc_NothingBack := excC_ok (ex_at cx 27 (f := excCB "NothingBack") rfl),
    xc_LadderError := excC_ok (ex_at cx 28 (f := excCB "LadderError") rfl),
    xc_LandError := excC_ok (ex_at cx 29 (f := excCB "LandError") rfl),
    xf_NoMeasure := excF_ok (ex_at cx 30 (f := excFB "NoMeasure" [.type "ValueError", .type "Exception", .type "BaseException", .type "object"] "ValueError.__new__") rfl),
    xf_NoStretch := excF_ok (ex_at cx 31 (f := excFB "NoStretch" [.type "ValueError", .type "Exception", .type "BaseException", .type "object"] "ValueError.__new__") rfl),
    xf_NoLadder := excF_ok (ex_at cx 32 (f := excFB "NoLadder" [.type "ValueError", .type "Exception", .type "BaseException", .type "object"] "ValueError.__new__") rfl),
    xf_NoLine := excF_ok (ex_at cx 33 (f := excFB "NoLine" [.type "ValueError", .type "Exception", .type "BaseException", .type "object"] "ValueError.__new__") rfl),
    xf_LadderError := excF_ok (ex_at cx 34 (f := excFB "LadderError" [.type "ValueError", .type "Exception", .type "BaseException", .type "object"] "ValueError.__new__") rfl),
    xf_LandError := excF_ok (ex_at cx 35 (f := excFB "LandError" [.type "LookupError", .type "Exception", .type "BaseException", .type "object"] "LookupError.__new__") rfl),
    xf_NoBottom := excF_ok (ex_at cx 36 (f := excFB "NoBottom" [.type "ZeroDivisionError", .type "ArithmeticError", .type "Exception", .type "BaseException", .type "object"] "ZeroDivisionError.__new__") rfl),
    xf_NothingBack := excF_ok (ex_at cx 37 (f := excFB "NothingBack" [.type "IndexError", .type "LookupError", .type "Exception", .type "BaseException", .type "object"] "IndexError.__new__") rfl),
    k_NoMeasure_NoMeasure := kitF_ok (ex_at cx 38 (f := kitF (.inl "NoMeasure") (.inl "NoMeasure") true) rfl),
    k_NoMeasure_NoStretch := kitF_ok (ex_at cx 39 (f := kitF (.inl "NoMeasure") (.inl "NoStretch") false) rfl),
    k_NoMeasure_NoLadder := kitF_ok (ex_at cx 40 (f := kitF (.inl "NoMeasure") (.inl "NoLadder") false) rfl),
    k_NoMeasure_NoLine := kitF_ok (ex_at cx 41 (f := kitF (.inl "NoMeasure") (.inl "NoLine") false) rfl),
    k_NoMeasure_Slip := kitF_ok (ex_at cx 42 (f := kitF (.inl "NoMeasure") (.inl "Slip") false) rfl),
    k_NoMeasure_NoText := kitF_ok (ex_at cx 43 (f := kitF (.inl "NoMeasure") (.inl "NoText") false) rfl),
    k_NoMeasure_NoSize := kitF_ok (ex_at cx 44 (f := kitF (.inl "NoMeasure") (.inl "NoSize") false) rfl),
    k_NoMeasure_NoLand := kitF_ok (ex_at cx 45 (f := kitF (.inl "NoMeasure") (.inl "NoLand") false) rfl),
    k_NoMeasure_LandTwice := kitF_ok (ex_at cx 46 (f := kitF (.inl "NoMeasure") (.inl "LandTwice") false) rfl),
    k_NoMeasure_NoBottom := kitF_ok (ex_at cx 47 (f := kitF (.inl "NoMeasure") (.inl "NoBottom") false) rfl),
    k_NoMeasure_NothingBack := kitF_ok (ex_at cx 48 (f := kitF (.inl "NoMeasure") (.inl "NothingBack") false) rfl),
    k_NoMeasure_LadderError := kitF_ok (ex_at cx 49 (f := kitF (.inl "NoMeasure") (.inl "LadderError") true) rfl),
    k_NoMeasure_ValueError := kitF_ok (ex_at cx 50 (f := kitF (.inl "NoMeasure") (.inr "ValueError") true) rfl),
    k_NoMeasure_LandError := kitF_ok (ex_at cx 51 (f := kitF (.inl "NoMeasure") (.inl "LandError") false) rfl),
    k_NoMeasure_LookupError := kitF_ok (ex_at cx 52 (f := kitF (.inl "NoMeasure") (.inr "LookupError") false) rfl),
    k_NoMeasure_ZeroDivisionError := kitF_ok (ex_at cx 53 (f := kitF (.inl "NoMeasure") (.inr "ZeroDivisionError") false) rfl),
    k_NoMeasure_IndexError := kitF_ok (ex_at cx 54 (f := kitF (.inl "NoMeasure") (.inr "IndexError") false) rfl),
    k_NoStretch_NoMeasure := kitF_ok (ex_at cx 55 (f := kitF (.inl "NoStretch") (.inl "NoMeasure") false) rfl),
    k_NoStretch_NoStretch := kitF_ok (ex_at cx 56 (f := kitF (.inl "NoStretch") (.inl "NoStretch") true) rfl),
    k_NoStretch_NoLadder := kitF_ok (ex_at cx 57 (f := kitF (.inl "NoStretch") (.inl "NoLadder") false) rfl),
    k_NoStretch_NoLine := kitF_ok (ex_at cx 58 (f := kitF (.inl "NoStretch") (.inl "NoLine") false) rfl),
    k_NoStretch_Slip := kitF_ok (ex_at cx 59 (f := kitF (.inl "NoStretch") (.inl "Slip") false) rfl),
    k_NoStretch_NoText := kitF_ok (ex_at cx 60 (f := kitF (.inl "NoStretch") (.inl "NoText") false) rfl),
    k_NoStretch_NoSize := kitF_ok (ex_at cx 61 (f := kitF (.inl "NoStretch") (.inl "NoSize") false) rfl),
    k_NoStretch_NoLand := kitF_ok (ex_at cx 62 (f := kitF (.inl "NoStretch") (.inl "NoLand") false) rfl),
    k_NoStretch_LandTwice := kitF_ok (ex_at cx 63 (f := kitF (.inl "NoStretch") (.inl "LandTwice") false) rfl),
    k_NoStretch_NoBottom := kitF_ok (ex_at cx 64 (f := kitF (.inl "NoStretch") (.inl "NoBottom") false) rfl),
    k_NoStretch_NothingBack := kitF_ok (ex_at cx 65 (f := kitF (.inl "NoStretch") (.inl "NothingBack") false) rfl),
    k_NoStretch_LadderError := kitF_ok (ex_at cx 66 (f := kitF (.inl "NoStretch") (.inl "LadderError") true) rfl),
    k_NoStretch_ValueError := kitF_ok (ex_at cx 67 (f := kitF (.inl "NoStretch") (.inr "ValueError") true) rfl),
    k_NoStretch_LandError := kitF_ok (ex_at cx 68 (f := kitF (.inl "NoStretch") (.inl "LandError") false) rfl),
    k_NoStretch_LookupError := kitF_ok (ex_at cx 69 (f := kitF (.inl "NoStretch") (.inr "LookupError") false) rfl),
    k_NoStretch_ZeroDivisionError := kitF_ok (ex_at cx 70 (f := kitF (.inl "NoStretch") (.inr "ZeroDivisionError") false) rfl),
    k_NoStretch_IndexError := kitF_ok (ex_at cx 71 (f := kitF (.inl "NoStretch") (.inr "IndexError") false) rfl),
    k_NoLadder_NoMeasure := kitF_ok (ex_at cx 72 (f := kitF (.inl "NoLadder") (.inl "NoMeasure") false) rfl),
    k_NoLadder_NoStretch := kitF_ok (ex_at cx 73 (f := kitF (.inl "NoLadder") (.inl "NoStretch") false) rfl),
    k_NoLadder_NoLadder := kitF_ok (ex_at cx 74 (f := kitF (.inl "NoLadder") (.inl "NoLadder") true) rfl),
    k_NoLadder_NoLine := kitF_ok (ex_at cx 75 (f := kitF (.inl "NoLadder") (.inl "NoLine") false) rfl),
    k_NoLadder_Slip := kitF_ok (ex_at cx 76 (f := kitF (.inl "NoLadder") (.inl "Slip") false) rfl),
    k_NoLadder_NoText := kitF_ok (ex_at cx 77 (f := kitF (.inl "NoLadder") (.inl "NoText") false) rfl),
    k_NoLadder_NoSize := kitF_ok (ex_at cx 78 (f := kitF (.inl "NoLadder") (.inl "NoSize") false) rfl),
    k_NoLadder_NoLand := kitF_ok (ex_at cx 79 (f := kitF (.inl "NoLadder") (.inl "NoLand") false) rfl),
    k_NoLadder_LandTwice := kitF_ok (ex_at cx 80 (f := kitF (.inl "NoLadder") (.inl "LandTwice") false) rfl),
    k_NoLadder_NoBottom := kitF_ok (ex_at cx 81 (f := kitF (.inl "NoLadder") (.inl "NoBottom") false) rfl),
    k_NoLadder_NothingBack := kitF_ok (ex_at cx 82 (f := kitF (.inl "NoLadder") (.inl "NothingBack") false) rfl),
    k_NoLadder_LadderError := kitF_ok (ex_at cx 83 (f := kitF (.inl "NoLadder") (.inl "LadderError") true) rfl),
    k_NoLadder_ValueError := kitF_ok (ex_at cx 84 (f := kitF (.inl "NoLadder") (.inr "ValueError") true) rfl),
    k_NoLadder_LandError := kitF_ok (ex_at cx 85 (f := kitF (.inl "NoLadder") (.inl "LandError") false) rfl),
    k_NoLadder_LookupError := kitF_ok (ex_at cx 86 (f := kitF (.inl "NoLadder") (.inr "LookupError") false) rfl),
    k_NoLadder_ZeroDivisionError := kitF_ok (ex_at cx 87 (f := kitF (.inl "NoLadder") (.inr "ZeroDivisionError") false) rfl),
    k_NoLadder_IndexError := kitF_ok (ex_at cx 88 (f := kitF (.inl "NoLadder") (.inr "IndexError") false) rfl),
    k_NoLine_NoMeasure := kitF_ok (ex_at cx 89 (f := kitF (.inl "NoLine") (.inl "NoMeasure") false) rfl),
    k_NoLine_NoStretch := kitF_ok (ex_at cx 90 (f := kitF (.inl "NoLine") (.inl "NoStretch") false) rfl),
    k_NoLine_NoLadder := kitF_ok (ex_at cx 91 (f := kitF (.inl "NoLine") (.inl "NoLadder") false) rfl),
    k_NoLine_NoLine := kitF_ok (ex_at cx 92 (f := kitF (.inl "NoLine") (.inl "NoLine") true) rfl),
    k_NoLine_Slip := kitF_ok (ex_at cx 93 (f := kitF (.inl "NoLine") (.inl "Slip") false) rfl),
    k_NoLine_NoText := kitF_ok (ex_at cx 94 (f := kitF (.inl "NoLine") (.inl "NoText") false) rfl),
    k_NoLine_NoSize := kitF_ok (ex_at cx 95 (f := kitF (.inl "NoLine") (.inl "NoSize") false) rfl),
    k_NoLine_NoLand := kitF_ok (ex_at cx 96 (f := kitF (.inl "NoLine") (.inl "NoLand") false) rfl),
    k_NoLine_LandTwice := kitF_ok (ex_at cx 97 (f := kitF (.inl "NoLine") (.inl "LandTwice") false) rfl),
    k_NoLine_NoBottom := kitF_ok (ex_at cx 98 (f := kitF (.inl "NoLine") (.inl "NoBottom") false) rfl),
    k_NoLine_NothingBack := kitF_ok (ex_at cx 99 (f := kitF (.inl "NoLine") (.inl "NothingBack") false) rfl),
    k_NoLine_LadderError := kitF_ok (ex_at cx 100 (f := kitF (.inl "NoLine") (.inl "LadderError") true) rfl),
    k_NoLine_ValueError := kitF_ok (ex_at cx 101 (f := kitF (.inl "NoLine") (.inr "ValueError") true) rfl),
    k_NoLine_LandError := kitF_ok (ex_at cx 102 (f := kitF (.inl "NoLine") (.inl "LandError") false) rfl),
    k_NoLine_LookupError := kitF_ok (ex_at cx 103 (f := kitF (.inl "NoLine") (.inr "LookupError") false) rfl),
    k_NoLine_ZeroDivisionError := kitF_ok (ex_at cx 104 (f := kitF (.inl "NoLine") (.inr "ZeroDivisionError") false) rfl),
    k_NoLine_IndexError := kitF_ok (ex_at cx 105 (f := kitF (.inl "NoLine") (.inr "IndexError") false) rfl),
    k_Slip_NoMeasure := kitF_ok (ex_at cx 106 (f := kitF (.inl "Slip") (.inl "NoMeasure") false) rfl),
    k_Slip_NoStretch := kitF_ok (ex_at cx 107 (f := kitF (.inl "Slip") (.inl "NoStretch") false) rfl),
    k_Slip_NoLadder := kitF_ok (ex_at cx 108 (f := kitF (.inl "Slip") (.inl "NoLadder") false) rfl),
    k_Slip_NoLine := kitF_ok (ex_at cx 109 (f := kitF (.inl "Slip") (.inl "NoLine") false) rfl),
    k_Slip_Slip := kitF_ok (ex_at cx 110 (f := kitF (.inl "Slip") (.inl "Slip") true) rfl),
    k_Slip_NoText := kitF_ok (ex_at cx 111 (f := kitF (.inl "Slip") (.inl "NoText") false) rfl),
    k_Slip_NoSize := kitF_ok (ex_at cx 112 (f := kitF (.inl "Slip") (.inl "NoSize") false) rfl),
    k_Slip_NoLand := kitF_ok (ex_at cx 113 (f := kitF (.inl "Slip") (.inl "NoLand") false) rfl),
    k_Slip_LandTwice := kitF_ok (ex_at cx 114 (f := kitF (.inl "Slip") (.inl "LandTwice") false) rfl),
    k_Slip_NoBottom := kitF_ok (ex_at cx 115 (f := kitF (.inl "Slip") (.inl "NoBottom") false) rfl),
    k_Slip_NothingBack := kitF_ok (ex_at cx 116 (f := kitF (.inl "Slip") (.inl "NothingBack") false) rfl),
    k_Slip_LadderError := kitF_ok (ex_at cx 117 (f := kitF (.inl "Slip") (.inl "LadderError") true) rfl),
    k_Slip_ValueError := kitF_ok (ex_at cx 118 (f := kitF (.inl "Slip") (.inr "ValueError") true) rfl),
    k_Slip_LandError := kitF_ok (ex_at cx 119 (f := kitF (.inl "Slip") (.inl "LandError") false) rfl),
    k_Slip_LookupError := kitF_ok (ex_at cx 120 (f := kitF (.inl "Slip") (.inr "LookupError") false) rfl),
    k_Slip_ZeroDivisionError := kitF_ok (ex_at cx 121 (f := kitF (.inl "Slip") (.inr "ZeroDivisionError") false) rfl),
    k_Slip_IndexError := kitF_ok (ex_at cx 122 (f := kitF (.inl "Slip") (.inr "IndexError") false) rfl),
    k_NoText_NoMeasure := kitF_ok (ex_at cx 123 (f := kitF (.inl "NoText") (.inl "NoMeasure") false) rfl),
    k_NoText_NoStretch := kitF_ok (ex_at cx 124 (f := kitF (.inl "NoText") (.inl "NoStretch") false) rfl),
    k_NoText_NoLadder := kitF_ok (ex_at cx 125 (f := kitF (.inl "NoText") (.inl "NoLadder") false) rfl),
    k_NoText_NoLine := kitF_ok (ex_at cx 126 (f := kitF (.inl "NoText") (.inl "NoLine") false) rfl),
    k_NoText_Slip := kitF_ok (ex_at cx 127 (f := kitF (.inl "NoText") (.inl "Slip") false) rfl),
    k_NoText_NoText := kitF_ok (ex_at cx 128 (f := kitF (.inl "NoText") (.inl "NoText") true) rfl),
    k_NoText_NoSize := kitF_ok (ex_at cx 129 (f := kitF (.inl "NoText") (.inl "NoSize") false) rfl),
    k_NoText_NoLand := kitF_ok (ex_at cx 130 (f := kitF (.inl "NoText") (.inl "NoLand") false) rfl),
    k_NoText_LandTwice := kitF_ok (ex_at cx 131 (f := kitF (.inl "NoText") (.inl "LandTwice") false) rfl),
    k_NoText_NoBottom := kitF_ok (ex_at cx 132 (f := kitF (.inl "NoText") (.inl "NoBottom") false) rfl),
    k_NoText_NothingBack := kitF_ok (ex_at cx 133 (f := kitF (.inl "NoText") (.inl "NothingBack") false) rfl),
    k_NoText_LadderError := kitF_ok (ex_at cx 134 (f := kitF (.inl "NoText") (.inl "LadderError") true) rfl),
    k_NoText_ValueError := kitF_ok (ex_at cx 135 (f := kitF (.inl "NoText") (.inr "ValueError") true) rfl),
    k_NoText_LandError := kitF_ok (ex_at cx 136 (f := kitF (.inl "NoText") (.inl "LandError") false) rfl),
    k_NoText_LookupError := kitF_ok (ex_at cx 137 (f := kitF (.inl "NoText") (.inr "LookupError") false) rfl),
    k_NoText_ZeroDivisionError := kitF_ok (ex_at cx 138 (f := kitF (.inl "NoText") (.inr "ZeroDivisionError") false) rfl),
    k_NoText_IndexError := kitF_ok (ex_at cx 139 (f := kitF (.inl "NoText") (.inr "IndexError") false) rfl),
    k_NoSize_NoMeasure := kitF_ok (ex_at cx 140 (f := kitF (.inl "NoSize") (.inl "NoMeasure") false) rfl),
    k_NoSize_NoStretch := kitF_ok (ex_at cx 141 (f := kitF (.inl "NoSize") (.inl "NoStretch") false) rfl),
    k_NoSize_NoLadder := kitF_ok (ex_at cx 142 (f := kitF (.inl "NoSize") (.inl "NoLadder") false) rfl),
    k_NoSize_NoLine := kitF_ok (ex_at cx 143 (f := kitF (.inl "NoSize") (.inl "NoLine") false) rfl),
    k_NoSize_Slip := kitF_ok (ex_at cx 144 (f := kitF (.inl "NoSize") (.inl "Slip") false) rfl),
    k_NoSize_NoText := kitF_ok (ex_at cx 145 (f := kitF (.inl "NoSize") (.inl "NoText") false) rfl),
    k_NoSize_NoSize := kitF_ok (ex_at cx 146 (f := kitF (.inl "NoSize") (.inl "NoSize") true) rfl),
    k_NoSize_NoLand := kitF_ok (ex_at cx 147 (f := kitF (.inl "NoSize") (.inl "NoLand") false) rfl),
    k_NoSize_LandTwice := kitF_ok (ex_at cx 148 (f := kitF (.inl "NoSize") (.inl "LandTwice") false) rfl),
    k_NoSize_NoBottom := kitF_ok (ex_at cx 149 (f := kitF (.inl "NoSize") (.inl "NoBottom") false) rfl),
    k_NoSize_NothingBack := kitF_ok (ex_at cx 150 (f := kitF (.inl "NoSize") (.inl "NothingBack") false) rfl),
    k_NoSize_LadderError := kitF_ok (ex_at cx 151 (f := kitF (.inl "NoSize") (.inl "LadderError") false) rfl),
    k_NoSize_ValueError := kitF_ok (ex_at cx 152 (f := kitF (.inl "NoSize") (.inr "ValueError") false) rfl),
    k_NoSize_LandError := kitF_ok (ex_at cx 153 (f := kitF (.inl "NoSize") (.inl "LandError") true) rfl),
    k_NoSize_LookupError := kitF_ok (ex_at cx 154 (f := kitF (.inl "NoSize") (.inr "LookupError") true) rfl),
    k_NoSize_ZeroDivisionError := kitF_ok (ex_at cx 155 (f := kitF (.inl "NoSize") (.inr "ZeroDivisionError") false) rfl),
    k_NoSize_IndexError := kitF_ok (ex_at cx 156 (f := kitF (.inl "NoSize") (.inr "IndexError") false) rfl),
    k_NoLand_NoMeasure := kitF_ok (ex_at cx 157 (f := kitF (.inl "NoLand") (.inl "NoMeasure") false) rfl),
    k_NoLand_NoStretch := kitF_ok (ex_at cx 158 (f := kitF (.inl "NoLand") (.inl "NoStretch") false) rfl),
    k_NoLand_NoLadder := kitF_ok (ex_at cx 159 (f := kitF (.inl "NoLand") (.inl "NoLadder") false) rfl),
    k_NoLand_NoLine := kitF_ok (ex_at cx 160 (f := kitF (.inl "NoLand") (.inl "NoLine") false) rfl),
    k_NoLand_Slip := kitF_ok (ex_at cx 161 (f := kitF (.inl "NoLand") (.inl "Slip") false) rfl),
    k_NoLand_NoText := kitF_ok (ex_at cx 162 (f := kitF (.inl "NoLand") (.inl "NoText") false) rfl),
    k_NoLand_NoSize := kitF_ok (ex_at cx 163 (f := kitF (.inl "NoLand") (.inl "NoSize") false) rfl),
    k_NoLand_NoLand := kitF_ok (ex_at cx 164 (f := kitF (.inl "NoLand") (.inl "NoLand") true) rfl),
    k_NoLand_LandTwice := kitF_ok (ex_at cx 165 (f := kitF (.inl "NoLand") (.inl "LandTwice") false) rfl),
    k_NoLand_NoBottom := kitF_ok (ex_at cx 166 (f := kitF (.inl "NoLand") (.inl "NoBottom") false) rfl),
    k_NoLand_NothingBack := kitF_ok (ex_at cx 167 (f := kitF (.inl "NoLand") (.inl "NothingBack") false) rfl),
    k_NoLand_LadderError := kitF_ok (ex_at cx 168 (f := kitF (.inl "NoLand") (.inl "LadderError") false) rfl),
    k_NoLand_ValueError := kitF_ok (ex_at cx 169 (f := kitF (.inl "NoLand") (.inr "ValueError") false) rfl),
    k_NoLand_LandError := kitF_ok (ex_at cx 170 (f := kitF (.inl "NoLand") (.inl "LandError") true) rfl),
    k_NoLand_LookupError := kitF_ok (ex_at cx 171 (f := kitF (.inl "NoLand") (.inr "LookupError") true) rfl),
    k_NoLand_ZeroDivisionError := kitF_ok (ex_at cx 172 (f := kitF (.inl "NoLand") (.inr "ZeroDivisionError") false) rfl),
    k_NoLand_IndexError := kitF_ok (ex_at cx 173 (f := kitF (.inl "NoLand") (.inr "IndexError") false) rfl),
    k_LandTwice_NoMeasure := kitF_ok (ex_at cx 174 (f := kitF (.inl "LandTwice") (.inl "NoMeasure") false) rfl),
    k_LandTwice_NoStretch := kitF_ok (ex_at cx 175 (f := kitF (.inl "LandTwice") (.inl "NoStretch") false) rfl),
    k_LandTwice_NoLadder := kitF_ok (ex_at cx 176 (f := kitF (.inl "LandTwice") (.inl "NoLadder") false) rfl),
    k_LandTwice_NoLine := kitF_ok (ex_at cx 177 (f := kitF (.inl "LandTwice") (.inl "NoLine") false) rfl),
    k_LandTwice_Slip := kitF_ok (ex_at cx 178 (f := kitF (.inl "LandTwice") (.inl "Slip") false) rfl),
    k_LandTwice_NoText := kitF_ok (ex_at cx 179 (f := kitF (.inl "LandTwice") (.inl "NoText") false) rfl),
    k_LandTwice_NoSize := kitF_ok (ex_at cx 180 (f := kitF (.inl "LandTwice") (.inl "NoSize") false) rfl),
    k_LandTwice_NoLand := kitF_ok (ex_at cx 181 (f := kitF (.inl "LandTwice") (.inl "NoLand") false) rfl),
    k_LandTwice_LandTwice := kitF_ok (ex_at cx 182 (f := kitF (.inl "LandTwice") (.inl "LandTwice") true) rfl),
    k_LandTwice_NoBottom := kitF_ok (ex_at cx 183 (f := kitF (.inl "LandTwice") (.inl "NoBottom") false) rfl),
    k_LandTwice_NothingBack := kitF_ok (ex_at cx 184 (f := kitF (.inl "LandTwice") (.inl "NothingBack") false) rfl),
    k_LandTwice_LadderError := kitF_ok (ex_at cx 185 (f := kitF (.inl "LandTwice") (.inl "LadderError") false) rfl),
    k_LandTwice_ValueError := kitF_ok (ex_at cx 186 (f := kitF (.inl "LandTwice") (.inr "ValueError") false) rfl),
    k_LandTwice_LandError := kitF_ok (ex_at cx 187 (f := kitF (.inl "LandTwice") (.inl "LandError") true) rfl),
    k_LandTwice_LookupError := kitF_ok (ex_at cx 188 (f := kitF (.inl "LandTwice") (.inr "LookupError") true) rfl),
    k_LandTwice_ZeroDivisionError := kitF_ok (ex_at cx 189 (f := kitF (.inl "LandTwice") (.inr "ZeroDivisionError") false) rfl),
    k_LandTwice_IndexError := kitF_ok (ex_at cx 190 (f := kitF (.inl "LandTwice") (.inr "IndexError") false) rfl),
    k_NoBottom_NoMeasure := kitF_ok (ex_at cx 191 (f := kitF (.inl "NoBottom") (.inl "NoMeasure") false) rfl),
    k_NoBottom_NoStretch := kitF_ok (ex_at cx 192 (f := kitF (.inl "NoBottom") (.inl "NoStretch") false) rfl),
    k_NoBottom_NoLadder := kitF_ok (ex_at cx 193 (f := kitF (.inl "NoBottom") (.inl "NoLadder") false) rfl),
    k_NoBottom_NoLine := kitF_ok (ex_at cx 194 (f := kitF (.inl "NoBottom") (.inl "NoLine") false) rfl),
    k_NoBottom_Slip := kitF_ok (ex_at cx 195 (f := kitF (.inl "NoBottom") (.inl "Slip") false) rfl),
    k_NoBottom_NoText := kitF_ok (ex_at cx 196 (f := kitF (.inl "NoBottom") (.inl "NoText") false) rfl),
    k_NoBottom_NoSize := kitF_ok (ex_at cx 197 (f := kitF (.inl "NoBottom") (.inl "NoSize") false) rfl),
    k_NoBottom_NoLand := kitF_ok (ex_at cx 198 (f := kitF (.inl "NoBottom") (.inl "NoLand") false) rfl),
    k_NoBottom_LandTwice := kitF_ok (ex_at cx 199 (f := kitF (.inl "NoBottom") (.inl "LandTwice") false) rfl),
    k_NoBottom_NoBottom := kitF_ok (ex_at cx 200 (f := kitF (.inl "NoBottom") (.inl "NoBottom") true) rfl),
    k_NoBottom_NothingBack := kitF_ok (ex_at cx 201 (f := kitF (.inl "NoBottom") (.inl "NothingBack") false) rfl),
    k_NoBottom_LadderError := kitF_ok (ex_at cx 202 (f := kitF (.inl "NoBottom") (.inl "LadderError") false) rfl),
    k_NoBottom_ValueError := kitF_ok (ex_at cx 203 (f := kitF (.inl "NoBottom") (.inr "ValueError") false) rfl),
    k_NoBottom_LandError := kitF_ok (ex_at cx 204 (f := kitF (.inl "NoBottom") (.inl "LandError") false) rfl),
    k_NoBottom_LookupError := kitF_ok (ex_at cx 205 (f := kitF (.inl "NoBottom") (.inr "LookupError") false) rfl),
    k_NoBottom_ZeroDivisionError := kitF_ok (ex_at cx 206 (f := kitF (.inl "NoBottom") (.inr "ZeroDivisionError") true) rfl),
    k_NoBottom_IndexError := kitF_ok (ex_at cx 207 (f := kitF (.inl "NoBottom") (.inr "IndexError") false) rfl),
    k_NothingBack_NoMeasure := kitF_ok (ex_at cx 208 (f := kitF (.inl "NothingBack") (.inl "NoMeasure") false) rfl),
    k_NothingBack_NoStretch := kitF_ok (ex_at cx 209 (f := kitF (.inl "NothingBack") (.inl "NoStretch") false) rfl),
    k_NothingBack_NoLadder := kitF_ok (ex_at cx 210 (f := kitF (.inl "NothingBack") (.inl "NoLadder") false) rfl),
    k_NothingBack_NoLine := kitF_ok (ex_at cx 211 (f := kitF (.inl "NothingBack") (.inl "NoLine") false) rfl),
    k_NothingBack_Slip := kitF_ok (ex_at cx 212 (f := kitF (.inl "NothingBack") (.inl "Slip") false) rfl),
    k_NothingBack_NoText := kitF_ok (ex_at cx 213 (f := kitF (.inl "NothingBack") (.inl "NoText") false) rfl),
    k_NothingBack_NoSize := kitF_ok (ex_at cx 214 (f := kitF (.inl "NothingBack") (.inl "NoSize") false) rfl),
    k_NothingBack_NoLand := kitF_ok (ex_at cx 215 (f := kitF (.inl "NothingBack") (.inl "NoLand") false) rfl),
    k_NothingBack_LandTwice := kitF_ok (ex_at cx 216 (f := kitF (.inl "NothingBack") (.inl "LandTwice") false) rfl),
    k_NothingBack_NoBottom := kitF_ok (ex_at cx 217 (f := kitF (.inl "NothingBack") (.inl "NoBottom") false) rfl),
    k_NothingBack_NothingBack := kitF_ok (ex_at cx 218 (f := kitF (.inl "NothingBack") (.inl "NothingBack") true) rfl),
    k_NothingBack_LadderError := kitF_ok (ex_at cx 219 (f := kitF (.inl "NothingBack") (.inl "LadderError") false) rfl),
    k_NothingBack_ValueError := kitF_ok (ex_at cx 220 (f := kitF (.inl "NothingBack") (.inr "ValueError") false) rfl),
    k_NothingBack_LandError := kitF_ok (ex_at cx 221 (f := kitF (.inl "NothingBack") (.inl "LandError") false) rfl),
    k_NothingBack_LookupError := kitF_ok (ex_at cx 222 (f := kitF (.inl "NothingBack") (.inr "LookupError") true) rfl),
    k_NothingBack_ZeroDivisionError := kitF_ok (ex_at cx 223 (f := kitF (.inl "NothingBack") (.inr "ZeroDivisionError") false) rfl),
    k_NothingBack_IndexError := kitF_ok (ex_at cx 224 (f := kitF (.inl "NothingBack") (.inr "IndexError") true) rfl),
    k_LadderError_LadderError := kitF_ok (ex_at cx 225 (f := kitF (.inl "LadderError") (.inl "LadderError") true) rfl),
    k_LadderError_ValueError := kitF_ok (ex_at cx 226 (f := kitF (.inl "LadderError") (.inr "ValueError") true) rfl),
    k_LadderError_LandError := kitF_ok (ex_at cx 227 (f := kitF (.inl "LadderError") (.inl "LandError") false) rfl),
    k_LadderError_LookupError := kitF_ok (ex_at cx 228 (f := kitF (.inl "LadderError") (.inr "LookupError") false) rfl),
    k_LadderError_ZeroDivisionError := kitF_ok (ex_at cx 229 (f := kitF (.inl "LadderError") (.inr "ZeroDivisionError") false) rfl),
    k_LadderError_IndexError := kitF_ok (ex_at cx 230 (f := kitF (.inl "LadderError") (.inr "IndexError") false) rfl),
    k_LandError_LadderError := kitF_ok (ex_at cx 231 (f := kitF (.inl "LandError") (.inl "LadderError") false) rfl),
    k_LandError_ValueError := kitF_ok (ex_at cx 232 (f := kitF (.inl "LandError") (.inr "ValueError") false) rfl),
    k_LandError_LandError := kitF_ok (ex_at cx 233 (f := kitF (.inl "LandError") (.inl "LandError") true) rfl),
    k_LandError_LookupError := kitF_ok (ex_at cx 234 (f := kitF (.inl "LandError") (.inr "LookupError") true) rfl),
    k_LandError_ZeroDivisionError := kitF_ok (ex_at cx 235 (f := kitF (.inl "LandError") (.inr "ZeroDivisionError") false) rfl),
    k_LandError_IndexError := kitF_ok (ex_at cx 236 (f := kitF (.inl "LandError") (.inr "IndexError") false) rfl),
    f_l_hand_of := F0,
    f_l_take := F1,
    f_l_thing := F2,
    f_l_own := F3,
    f_l_families := F4,
    f_l_kinds_right := F5,
    f_l_values_right := F6,
    f_law := F7,
    su_Slip_init := G0,
    su_NoText_init := G1,
    su_NoSize_init := G2,
    su_NoLand_init := G3,
    su_LandTwice_init := G4,
    pfile := by kernel_rfl,
    ptop := by kernel_rfl }
def sp_law (K : PySem.W.Frag) : Sp := fun vs H Q _ => ∃ (a : Addr) (ns : List Int), vs = [.ref a] ∧ SqL K H a (ns.map V.int) ∧ ns.length ≤ 63 ∧ ∀ H', Q (.bl true) H'

end K74
open PySem PySem.W PySem.Calls PyProof.Rows in
set_option maxRecDepth 100000 in
set_option maxHeartbeats 0 in
theorem K74.pre (hl : ∀ {P : Program} {w : World} {K : PySem.W.Frag} {mg : Str → Option Value} {base : Heap} {φ : K74.Fds} (T : K74.Txt P K mg φ), My.FnG P w K mg base L2.CX0 4 (He.fAd K ("law", none)) φ.law K74.p_law (K74.sp_law K)) : PySem.Challenge.rw_sizeladders_k74_whole_errors_by_hand.Holds := by
  w_on; o_law
  refine HandSHeadRun.head_any (r := OpenLaw.row PySem.Challenge.rw_sizeladders_k74_whole_errors_by_hand) (q := view (OpenLaw.row PySem.Challenge.rw_sizeladders_k74_whole_errors_by_hand).prog [22]) (H := K74.hk) (ob := K74.ob) (M := 20000) (loose := [("LadderError" : PySem.Str), ("NoMeasure" : PySem.Str), ("NoStretch" : PySem.Str), ("NoLadder" : PySem.Str), ("NoLine" : PySem.Str), ("Slip" : PySem.Str), ("NoText" : PySem.Str), ("LandError" : PySem.Str), ("NoSize" : PySem.Str), ("NoLand" : PySem.Str), ("LandTwice" : PySem.Str), ("NoBottom" : PySem.Str), ("NothingBack" : PySem.Str), ("_law_hand_of" : PySem.Str), ("_law_take" : PySem.Str), ("_law_thing" : PySem.Str), ("_law_own" : PySem.Str), ("_law_families" : PySem.Str), ("_law_kinds_right" : PySem.Str), ("_law_values_right" : PySem.Str)]) (d := HandSHeadRun.topDef (OpenLaw.row PySem.Challenge.rw_sizeladders_k74_whole_errors_by_hand).prog 22) (kwd := []) K74.ob_eq
    (by kernel_rfl) (fun s => by kernel_rfl) K74.run (by kernel_rfl) (by kernel_rfl) (by kernel_rfl) (by rfl) (by first | assumption | decide +kernel) (by decide +kernel) ⟨rfl, rfl, rfl, rfl, rfl, by decide +kernel⟩ ?hw ?hc
  case hw => w_witness2
  case hc =>
    refine My.walk_G (l := PySem.Challenge.rw_sizeladders_k74_whole_errors_by_hand) (n := 63) (k := 4) (x := "_law_script") (CX := L2.CX0) rfl (by decide) (by kernel_rfl) ⟨rfl, by decide, by decide⟩ ?F (fun _ _ _ _ z => z)
    intro w mg fa h Y G hmg0
    obtain ⟨K, KX, c, cx, csp⟩ := Y
    have hmg : mg ("law" : PySem.Str) = some (.ref fa) := by
      have e : (HandSHeadRun.topDef (OpenLaw.row PySem.Challenge.rw_sizeladders_k74_whole_errors_by_hand).prog 22).name = ("law" : PySem.Str) := by kernel_rfl
      rw [← e]
      exact hmg0
    obtain ⟨φ, T⟩ := K74.facts KX G c cx csp
    have e := hmg.symm.trans T.g_law
    cases e
    have b := L2.FunD.bindsA (ps := K74.p_law) T.f_law fun _ _ _ _ _ _ us hl => match us, hl with | [_], _ => rfl
    exact ⟨K, φ.law, K74.sp_law K, KX, fun s v => b s [v] rfl, fun H a ns hl _ hS => ⟨a, ns, rfl, hS, hl, fun _ => rfl⟩, fun base _ _ => hl T⟩

namespace K74
open PySem PySem.Spec PyProof.Rows L2 My
local macro_rules | `(tactic| walk_at "c") => `(tactic| first | (with_reducible apply eq_id; apply Eq.refl) | (with_reducible apply ile_id; omega) | (with_reducible apply ilt_id; omega) | (with_reducible apply nle_id; omega) | (with_reducible apply nlt_id; omega) | assumption | (apply Eq.refl; done) | with_reducible exact lf_marks _ _ _ _ | with_reducible exact lf_rule _ _ _ _ | with_reducible exact lf_least _ _ _ _ | with_reducible exact lf_most _ _ _ _ | with_reducible exact mf_top _ _ | with_reducible exact mf_bottom _ _ | with_reducible exact sf_low _ _ _ _ | with_reducible exact sf_high _ _ _ _ | with_reducible exact sf_low_in _ _ _ _ | with_reducible exact sf_high_in _ _ _ _ | exact SqL.of (by assumption) | exact SqT.of (by assumption) | exact Or.inl (SqL.of (by assumption)) | exact Or.inr (SqT.of (by assumption)) | exact Or.inr (by assumption) | exact Or.inl (by assumption) | omega | exact atI_nat (by assumption) | exact atI_of (n := 0) rfl (by assumption) | exact logS (by omega) | exact Or.inl (Or.inl ⟨by omega, by omega⟩) | exact Or.inl (Or.inr ⟨by omega, by omega⟩) | exact szb rfl | exact szs (by omega) | exact szl (by omega) | exact Or.inl ⟨Eq.refl _, _, SqL.of (by assumption)⟩ | exact ⟨_, SqT.of (by assumption)⟩ | exact ⟨_, SqL.of (by assumption)⟩ | exact ⟨by omega, by omega, by omega, by omega⟩)
local macro_rules | `(tactic| walk_at "e") => `(tactic| first | rfl | exact ⟨rfl, rfl⟩ | exact ⟨rfl, rfl, rfl⟩ | assumption | exact trivial)
local macro_rules | `(tactic| walk_at "w1") => `(tactic| first
  | refine q_belowT (by assumption) (by assumption) (by omega) (by omega) ?_ | refine q_belowA (by assumption) (by assumption) (by omega) (by omega) ?_ | refine q_subT (by assumption) (by assumption) (by omega) (by omega) (by omega) ?_
  | refine meth_q (by assumption) (by decide +kernel) (by decide +kernel) ?_ | refine meth_l (by assumption) (by decide +kernel) (by decide +kernel) (by decide +kernel) (by decide +kernel) ?_ | refine meth_s (by assumption) (by decide +kernel) (by decide +kernel) (by decide +kernel) (by decide +kernel) ?_
  | apply @Exists.intro V | apply @Exists.intro Int | apply @Exists.intro Addr | apply @Exists.intro Bool | apply @Exists.intro (List V) | apply @Exists.intro Str | apply @Exists.intro Nat | apply @Exists.intro (List (Str × V))
  | (apply And.intro; (focus (walk_at "c"))) | (with_reducible apply iteT) | (with_reducible apply iteF) | refine iteDT (by omega) ?_ | refine iteDF (by omega) ?_ | refine iteNS (by omega) ?_ | refine iteNT (by omega) ?_)
local macro_rules | `(tactic| walk_at "w") => `(tactic| repeat (walk_at "w1"))
local macro_rules | `(tactic| walk_at "wa1") => `(tactic| first | refine q_addT (by assumption) (by assumption) (by omega) (by omega) (by omega) ?_ | refine q_mulT (by assumption) (by assumption) (by omega) (by omega) (by omega) ?_ | walk_at "w1")
local macro_rules | `(tactic| walk_at "wa") => `(tactic| repeat (walk_at "wa1"))
local macro_rules | `(tactic| walk_at "hand") => `(tactic| first | assumption | exact HandAt.up (by walk_at "hand") (by assumption))
local macro_rules | `(tactic| walk_at "hp") => `(tactic| first | assumption | exact upd_same | exact up1 (by assumption) (by walk_at "hp") | exact Kp.get (by assumption) (by walk_at "hand") (by walk_at "hp") (by rfl) | exact L2.Same.get (by assumption) (by walk_at "hp") | exact up2 (by assumption) (by walk_at "hp") (by rfl))
local macro_rules | `(tactic| walk_at "n") => `(tactic| skip)


def KO (K : PySem.W.Frag) (D : Addr) (b : Nat → Bool) : Prop := PySem.W.kitOne K (.ref D) (.ref (He.ga K "NoMeasure")) = some (b 0) ∧ PySem.W.kitOne K (.ref D) (.ref (He.ga K "NoStretch")) = some (b 1) ∧ PySem.W.kitOne K (.ref D) (.ref (He.ga K "NoLadder")) = some (b 2) ∧ PySem.W.kitOne K (.ref D) (.ref (He.ga K "NoLine")) = some (b 3) ∧ PySem.W.kitOne K (.ref D) (.ref (He.ga K "Slip")) = some (b 4) ∧ PySem.W.kitOne K (.ref D) (.ref (He.ga K "NoText")) = some (b 5) ∧ PySem.W.kitOne K (.ref D) (.ref (He.ga K "NoSize")) = some (b 6) ∧ PySem.W.kitOne K (.ref D) (.ref (He.ga K "NoLand")) = some (b 7) ∧ PySem.W.kitOne K (.ref D) (.ref (He.ga K "LandTwice")) = some (b 8) ∧ PySem.W.kitOne K (.ref D) (.ref (He.ga K "NoBottom")) = some (b 9) ∧ PySem.W.kitOne K (.ref D) (.ref (He.ga K "NothingBack")) = some (b 10)
def KF (K : PySem.W.Frag) (D : Addr) (b : Nat → Bool) : Prop := PySem.W.kitOne K (.ref D) (.ref (He.ga K "LadderError")) = some (b 0) ∧ PySem.W.kitOne K (.ref D) (.type "ValueError") = some (b 1) ∧ PySem.W.kitOne K (.ref D) (.ref (He.ga K "LandError")) = some (b 2) ∧ PySem.W.kitOne K (.ref D) (.type "LookupError") = some (b 3) ∧ PySem.W.kitOne K (.ref D) (.type "ZeroDivisionError") = some (b 4) ∧ PySem.W.kitOne K (.ref D) (.type "IndexError") = some (b 5)
def nm74 : Nat → Str
  | 0 => "NoMeasure"
  | 1 => "NoStretch"
  | 2 => "NoLadder"
  | 3 => "NoLine"
  | 4 => "Slip"
  | 5 => "NoText"
  | 6 => "NoSize"
  | 7 => "NoLand"
  | 8 => "LandTwice"
  | 9 => "NoBottom"
  | 10 => "NothingBack"
  | _ => ""
abbrev C74 (K : PySem.W.Frag) (i : Nat) : Addr := He.ga K (nm74 i)
def fm74 (i j : Nat) : Bool := match j with
  | 0 => decide (i < 6)
  | 1 => decide (i < 6)
  | 2 => decide (6 ≤ i) && decide (i < 9)
  | 3 => (decide (6 ≤ i) && decide (i < 9)) || decide (i = 10)
  | 4 => decide (i = 9)
  | _ => decide (i = 10)
def fmL (j : Nat) : Bool := decide (j < 2)
def fmN (j : Nat) : Bool := decide (2 ≤ j) && decide (j < 4)
def sp_own (K : PySem.W.Frag) : Sp := fun vs H Q _ => ∃ (a D : Addr) (b : Nat → Bool), vs = [.ref a] ∧ ErrAt K H a D ∧ KO K D b ∧ ∀ p H', Same H H' → H' p = some (.lst [.bl (b 0), .bl (b 1), .bl (b 2), .bl (b 3), .bl (b 4), .bl (b 5), .bl (b 6), .bl (b 7), .bl (b 8), .bl (b 9), .bl (b 10)]) → Q (.ref p) H'
def sp_fams (K : PySem.W.Frag) : Sp := fun vs H Q _ => ∃ (a D : Addr) (b : Nat → Bool), vs = [.ref a] ∧ ErrAt K H a D ∧ KF K D b ∧ ∀ p H', Same H H' → H' p = some (.lst [.bl (b 0), .bl (b 1), .bl (b 2), .bl (b 3), .bl (b 4), .bl (b 5)]) → Q (.ref p) H'
theorem _root_.My.ErrAt.s {K : PySem.W.Frag} {H H' : Hp} {a D : Addr} (e : ErrAt K H a D) (s : Same H H') : ErrAt K H' a D := ⟨e.1, e.2.elim (fun z => .inl (s _ _ z)) fun ⟨dd, fs, z1, z2⟩ => .inr ⟨dd, fs, s _ _ z1, s _ _ z2⟩⟩
def sp_kinds (K : PySem.W.Frag) : Sp := fun vs H Q _ => ∃ (p : Addr) (xs : List Addr), vs = [.ref p] ∧ H p = some (.lst (xs.map V.ref)) ∧ xs.length = 11 ∧ (∀ i a, xs[i]? = some a → ErrAt K H a (C74 K i)) ∧ ∀ H', Same H H' → Q (.bl true) H'
theorem dpB {K : PySem.W.Frag} {H : Hp} : ∀ bs : List Bool, DpAll K H (bs.map V.bl) (bs.map PyData.bool)
  | [] => .nil
  | b :: bs => .cons (.bl b) (dpB bs)
theorem bl_lay : ∀ bs : List Bool, PyData.canLayAll0 (bs.map PyData.bool) = true
  | [] => by simp [PyData.canLayAll0]
  | b :: bs => by simp [PyData.canLayAll0, PyData.canLay0, bl_lay bs]
theorem bl_depth : ∀ bs : List Bool, PyData.depthAll (bs.map PyData.bool) ≤ 1
  | [] => by simp [PyData.depthAll]
  | b :: bs => by
    have := bl_depth bs
    simp only [List.map_cons, PyData.depthAll, PyData.depth]
    omega
theorem shB (bs : List Bool) : SeqAt.shaped (.list (bs.map PyData.bool)) = true := by
  have h := bl_depth bs
  have e1 : (PyData.list (bs.map PyData.bool)).depth ≤ 64 := by
    show PyData.depthAll (bs.map PyData.bool) + 1 ≤ 64
    omega
  have e2 : (PyData.list (bs.map PyData.bool)).canLay0 = true := by
    show PyData.canLayAll0 (bs.map PyData.bool) = true
    exact bl_lay bs
  unfold SeqAt.shaped
  rw [e2, decide_eq_true e1]
  rfl
theorem eqvBs : ∀ bs : List Bool, PyData.eqvAll (bs.map PyData.bool) (bs.map PyData.bool) = true
  | [] => by simp [PyData.eqvAll]
  | b :: bs => by simp [PyData.eqvAll, PyData.eqv, eqvBs bs]
theorem eqvB (bs : List Bool) : PyData.eqv (.list (bs.map PyData.bool)) (.list (bs.map PyData.bool)) = true := by
  show PyData.eqvAll _ _ = true
  exact eqvBs bs
theorem c69a {i : Nat} (e : decide ((6 : Int) ≤ (i : Int)) = true) : V.bl (decide ((i : Int) < 9)) = V.bl (fm74 i 2) := by
  have e : (6 : Int) ≤ (i : Int) := of_decide_eq_true e
  show _ = V.bl (decide (6 ≤ i) && decide (i < 9))
  rw [decide_eq_true (show 6 ≤ i by omega), Bool.true_and]
  exact congrArg V.bl (decide_eq_decide.mpr ⟨fun h => by omega, fun h => by omega⟩)
theorem c69b {i : Nat} (e : ¬ decide ((6 : Int) ≤ (i : Int)) = true) : V.bl false = V.bl (fm74 i 2) := by
  have e2 : ¬ (6 : Int) ≤ (i : Int) := fun z => e (decide_eq_true z)
  show _ = V.bl (decide (6 ≤ i) && decide (i < 9))
  rw [decide_eq_false (show ¬ 6 ≤ i by omega)]
  rfl
theorem vI (i : Nat) (c : Nat) : decide (V.int (i : Int) = V.int (c : Int)) = decide (i = c) := decide_eq_decide.mpr ⟨fun e => by injection e with e; omega, fun e => by rw [e]⟩
theorem c6a {i : Nat} : V.bl (decide ((i : Int) < 6)) = V.bl (decide (i < 6)) := congrArg V.bl (decide_eq_decide.mpr ⟨fun h => by omega, fun h => by omega⟩)
theorem due74 (i : Nat) : [V.bl (decide ((i : Int) < 6)), V.bl (decide ((i : Int) < 6)), V.bl (fm74 i 2), V.bl (fm74 i 3), V.bl (decide (V.int (i : Int) = V.int 9)), V.bl (decide (V.int (i : Int) = V.int 10))] = ((List.range 6).map (fm74 i)).map V.bl := by
  rw [c6a, show V.int 9 = V.int ((9 : Nat) : Int) from rfl, show V.int 10 = V.int ((10 : Nat) : Int) from rfl, vI, vI]
  rfl
theorem neB {K : PySem.W.Frag} {H : Hp} {a c : Addr} {Q : V → Hp → Prop} (bs : List Bool) (h1 : H a = some (.lst (bs.map V.bl))) (h2 : H c = some (.lst (bs.map V.bl))) (q : Q (.bl false) H) : rNeD K (.ref a) (.ref c) H Q :=
  ⟨_, _, .lst (SqL.of h1) (dpB bs), .lst (SqL.of h2) (dpB bs), shB bs, shB bs, by rw [eqvB]; exact q⟩

theorem kp_d {h : Addr} {H H' : Hp} (k : Kp h H H') : Same (delH H h) (delH H' h) := fun b o e => by
  by_cases z : b = h
  · rw [z, delH_same] at e
    cases e
  · rw [delH_ne z] at e
    rw [delH_ne z]
    exact k b o e z
theorem d_same {h : Addr} {H : Hp} : Same (delH H h) H := fun b o e => by
  by_cases z : b = h
  · rw [z, delH_same] at e
    cases e
  · rwa [delH_ne z] at e
def th74 : List PyData := [.none, .bool true, .int 0, .int 7, .int (-1), .int (10 ^ 30), .str "", .str "land", .str "a b", .tuple [.int 1, .int 2], .tuple [], .list [.int 1], .dict [], .tuple [.none, .str "x"]]
def sp_thing74 (K : PySem.W.Frag) : Sp := fun vs H Q _ => ∃ (h : Addr) (n : Nat), vs = [.ref h] ∧ HandAt H h n ∧ n < 10000 ∧ ∀ v d H', DpE K (delH H' h) v d → d ∈ th74 → HandAt H' h (n + 1) → Kp h H H' → Q v H'
def ErV (H : Hp) (C : Addr) (fs : List (Str × V)) (v : V) : Prop := ∃ a dd, v = .ref a ∧ H a = some (errO (.ref C) (some dd) a) ∧ H dd = some (.xd fs)
theorem ErV.s {H H' : Hp} {C : Addr} {fs : List (Str × V)} {v : V} (e : ErV H C fs v) (s : Same H H') : ErV H' C fs v := by
  obtain ⟨a, dd, e, h1, h2⟩ := e
  exact ⟨a, dd, e, s _ _ h1, s _ _ h2⟩
inductive Ers (H : Hp) (C : Addr) : List V → List (List (Str × V)) → Prop
  | nil : Ers H C [] []
  | cons {v : V} {vs : List V} {fs : List (Str × V)} {fss : List (List (Str × V))} : ErV H C fs v → Ers H C vs fss → Ers H C (v :: vs) (fs :: fss)
theorem Ers.s {H H' : Hp} {C : Addr} (s : Same H H') : ∀ {vs : List V} {fss : List (List (Str × V))}, Ers H C vs fss → Ers H' C vs fss
  | _, _, .nil => .nil
  | _, _, .cons e r => .cons (e.s s) (r.s s)
theorem Ers.len {H : Hp} {C : Addr} : ∀ {vs : List V} {fss : List (List (Str × V))}, Ers H C vs fss → vs.length = fss.length
  | _, _, .nil => rfl
  | _, _, .cons _ r => congrArg Nat.succ r.len
theorem Ers.at {H : Hp} {C : Addr} : ∀ {vs : List V} {fss : List (List (Str × V))} {i : Nat} {v : V} {fs : List (Str × V)}, Ers H C vs fss → vs[i]? = some v → fss[i]? = some fs → ErV H C fs v
  | _, _, _, _, _, .nil, e, _ => by simp at e
  | _, _, 0, _, _, .cons e r, e1, e2 => by
    simp only [List.getElem?_cons_zero, Option.some.injEq] at e1 e2
    subst e1 e2
    exact e
  | _, _, i + 1, _, _, .cons e r, e1, e2 => r.at (by simpa using e1) (by simpa using e2)
theorem Ers.snoc {H : Hp} {C : Addr} {v : V} {fs : List (Str × V)} (e : ErV H C fs v) : ∀ {vs : List V} {fss : List (List (Str × V))}, Ers H C vs fss → Ers H C (vs ++ [v]) (fss ++ [fs])
  | _, _, .nil => .cons e .nil
  | _, _, .cons a r => .cons a (r.snoc e)
def ErL (H : Hp) (C : Addr) (l : Addr) (fss : List (List (Str × V))) : Prop := ∃ xs, H l = some (.lst xs) ∧ Ers H C xs fss
theorem ErL.s {H H' : Hp} {C l : Addr} {fss : List (List (Str × V))} (e : ErL H C l fss) (s : Same H H') : ErL H' C l fss := by
  obtain ⟨xs, h1, h2⟩ := e
  exact ⟨xs, s _ _ h1, h2.s s⟩
theorem ErV.set {G : Hp} {C p : Addr} {fs : List (Str × V)} {v : V} {xs ys : List V} (e : ErV G C fs v) (hp : G p = some (.lst xs)) : ErV (upd G p (.lst ys)) C fs v := by
  obtain ⟨a, dd, e, h1, h2⟩ := e
  refine ⟨a, dd, e, ?_, ?_⟩
  · rw [upd_ne (fun z => by rw [z, hp] at h1; cases h1)]
    exact h1
  · rw [upd_ne (fun z => by rw [z, hp] at h2; cases h2)]
    exact h2
theorem Ers.set {G : Hp} {C p : Addr} {xs ys : List V} (hp : G p = some (.lst xs)) : ∀ {vs : List V} {fss : List (List (Str × V))}, Ers G C vs fss → Ers (upd G p (.lst ys)) C vs fss
  | _, _, .nil => .nil
  | _, _, .cons e r => .cons (e.set hp) (r.set hp)
theorem ErL.set {G : Hp} {C l p : Addr} {fss : List (List (Str × V))} {xs ys : List V} (e : ErL G C l fss) (hp : G p = some (.lst xs)) (n : l ≠ p) : ErL (upd G p (.lst ys)) C l fss := by
  obtain ⟨zs, h1, h2⟩ := e
  exact ⟨zs, by rw [upd_ne n]; exact h1, h2.set hp⟩
theorem mkE {G : Hp} {dx q C : Addr} {fs : List (Str × V)} (nd : G dx = none) (nq : upd G dx (.xd fs) q = none) : Same G (upd (upd G dx (.xd fs)) q (errO (.ref C) (some dx) q)) ∧ ErV (upd (upd G dx (.xd fs)) q (errO (.ref C) (some dx) q)) C fs (.ref q) :=
  ⟨(same1 nd : Same G _).up nq, q, dx, rfl, upd_same, up1 nq upd_same⟩
theorem sNone {G H : Hp} {p : Addr} (s : Same G H) (h : H p = none) : G p = none := by
  cases e : G p with
  | none => rfl
  | some o =>
    rw [s _ _ e] at h
    cases h
theorem neS {H : Hp} {a b : Addr} {o : HO} (e : H a = some o) (n : H b = none) : a ≠ b := fun z => by
  rw [z, n] at e
  cases e
theorem sSet {G H : Hp} {p : Addr} {o : HO} (s : Same G H) (n : G p = none) : Same G (upd H p o) := fun b u e => by
  rw [upd_ne (ne_of_none e n)]
  exact s b u e
def LD (K : PySem.W.Frag) (G : Hp) (p : Addr) (ds : List PyData) : Prop := ∃ xs, G p = some (.lst xs) ∧ DpEAll K G xs ds
theorem LD.s {K : PySem.W.Frag} {G G' : Hp} {p : Addr} {ds : List PyData} (l : LD K G p ds) (s : Same G G') : LD K G' p ds := by
  obtain ⟨xs, h1, h2⟩ := l
  exact ⟨xs, s _ _ h1, h2.same s⟩
theorem LD.dp {K : PySem.W.Frag} {G : Hp} {p : Addr} {ds : List PyData} (l : LD K G p ds) : DpE K G (.ref p) (.list ds) := by
  obtain ⟨xs, h1, h2⟩ := l
  exact .lst (SqL.of h1) h2
theorem apE {K : PySem.W.Frag} {G : Hp} : ∀ {xs ys : List V} {ds es : List PyData}, DpEAll K G xs ds → DpEAll K G ys es → DpEAll K G (xs ++ ys) (ds ++ es)
  | _, _, _, _, .nil, b => b
  | _, _, _, _, .cons a r, b => .cons a (apE r b)
def ss74 (h : Addr) (v1 v2 v3 : V) (a b : Int) (p1 p2 : Addr) (l : List (Option V)) : L2.St := [some (.ref h), some v1, some v2, some v3, some (.int a), some (.int b), some (.ref p1), some (.ref p2)] ++ l
def SZ (v1 v2 : V) : List (List (Str × V)) := [[("number", v1)], [("number", v2)]]
def LN (v2 v3 : V) : List (List (Str × V)) := [[("name", v2)], [("name", v3)]]
def TW (v3 : V) : List (List (Str × V)) := [[("name", v3)]]
def Je (K : PySem.W.Frag) (G1 : Hp) (h : Addr) (v1 v2 v3 : V) (a b : Int) (p1 p2 : Addr) (σ : L2.St) (G : Hp) : Prop := ∃ p3 p4 p5, σ = [some (.ref h), some v1, some v2, some v3, some (.int a), some (.int b), some (.ref p1), some (.ref p2), some (.ref p3), some (.ref p4), some (.ref p5), none, none, none] ∧ Same G1 G ∧ G1 p5 = none ∧ p3 ≠ p5 ∧ p4 ≠ p5 ∧ ErL G (He.ga K "NoSize") p3 (SZ v1 v2) ∧ ErL G (He.ga K "NoLand") p4 (LN v2 v3) ∧ ErL G (He.ga K "LandTwice") p5 (TW v3)
def Jf (K : PySem.W.Frag) (G1 : Hp) (h : Addr) (v1 v2 v3 : V) (a b : Int) (p1 p2 : Addr) (σ : L2.St) (G : Hp) : Prop := ∃ p3 p4 p5, σ = [some (.ref h), some v1, some v2, some v3, some (.int a), some (.int b), some (.ref p1), some (.ref p2), some (.ref p3), some (.ref p4), some (.ref p5), none, none, none] ∧ Same G1 G ∧ ErL G (He.ga K "NoSize") p3 (SZ v1 v2) ∧ ErL G (He.ga K "NoLand") p4 (LN v2 v3) ∧ ErL G (He.ga K "LandTwice") p5 (LN v3 v1)
def ds4 (a b : Int) (d1 d2 : PyData) : List PyData := [.list [.int a, .int b], .list [.int a, .int b, .int a, .int b], .list [.str "form", .str "slip", .str "span", .str "form"], .list [d1, d2]]
def Jg (K : PySem.W.Frag) (G2 : Hp) (h : Addr) (v1 v2 v3 : V) (a b : Int) (p1 p2 p3 p4 p5 : Addr) (ds : List PyData) (σ : L2.St) (G : Hp) : Prop := ∃ p6, σ = [some (.ref h), some v1, some v2, some v3, some (.int a), some (.int b), some (.ref p1), some (.ref p2), some (.ref p3), some (.ref p4), some (.ref p5), some (.ref p6), none, none] ∧ Same G2 G ∧ LD K G p6 ds
def Ji (K : PySem.W.Frag) (G2 : Hp) (h : Addr) (v1 v2 v3 : V) (a b : Int) (p1 p2 p3 p4 p5 p6 : Addr) (ds : List PyData) (σ : L2.St) (G : Hp) : Prop := ∃ p7, σ = [some (.ref h), some v1, some v2, some v3, some (.int a), some (.int b), some (.ref p1), some (.ref p2), some (.ref p3), some (.ref p4), some (.ref p5), some (.ref p6), some (.ref p7), none] ∧ Same G2 G ∧ LD K G p7 ds
theorem lt_len : ∀ ts : List Str, (listText ts).length ≤ piled ts + 2
  | [] => by decide
  | t :: r => by
    have h := textFrom_length_pos r 1 (("[" : Str) ++ (if (0 : Nat) > 0 then ", " else "" : String) ++ t) (Nat.succ_pos 0)
    have e : ((("[" : Str) ++ (if (0 : Nat) > 0 then ", " else "" : String) ++ t)).length = 1 + t.length := by
      rw [strLen_append, strLen_append]
      rfl
    show (textFrom 1 (("[" : Str) ++ (if (0 : Nat) > 0 then ", " else "" : String) ++ t) r ++ ("]" : Str)).length ≤ _
    rw [strLen_append, h, e, piled_cons, show ("]" : Str).length = 1 from rfl]
    omega
theorem th_ok : ∀ d ∈ th74, d.showable = true ∧ d.depth ≤ 2 ∧ d.shown.length ≤ 40 := by decide +kernel
theorem L2len {x y : PyData} (hx : x.shown.length ≤ 40) (hy : y.shown.length ≤ 40) : (PyData.list [x, y]).shown.length ≤ 200 := by
  have h := lt_len [x.shown, y.shown]
  rw [piled_cons, piled_cons, piled_nil] at h
  show (listText [x.shown, y.shown]).length ≤ 200
  omega
theorem L4len {x y : PyData} (hx : x.shown.length ≤ 40) (hy : y.shown.length ≤ 40) : (PyData.list [x, y, x, y]).shown.length ≤ 200 := by
  have h := lt_len [x.shown, y.shown, x.shown, y.shown]
  rw [piled_cons, piled_cons, piled_cons, piled_cons, piled_nil] at h
  show (listText [x.shown, y.shown, x.shown, y.shown]).length ≤ 200
  omega
theorem int_ok {a : Int} (a0 : 0 ≤ a) (a1 : a < 1000000) : (PyData.int a).showable = true ∧ (PyData.int a).depth = 0 ∧ (PyData.int a).shown.length ≤ 40 := by
  have h0 : a.natAbs < 10 ^ 7 := by omega
  have h1 := int_text_length_le10 (a := a) (k := 7) (by decide) h0
  refine ⟨?_, rfl, ?_⟩
  · show decide (a.natAbs.log2 < 1920) = true
    refine decide_eq_true ?_
    by_cases e : a.natAbs = 0
    · rw [e]; decide
    · exact (Nat.log2_lt e).mpr (Nat.lt_of_lt_of_le h0 (by decide +kernel))
  · show (Str.ofString (toString a)).length ≤ 40
    rw [PySem.ofString_length]
    omega
theorem dat74 {a b : Int} {d1 d2 d3 : PyData} (a0 : 0 ≤ a) (a1 : a < 1000000) (b0 : 0 ≤ b) (b1 : b < 9) (m1 : d1 ∈ th74) (m2 : d2 ∈ th74) (m3 : d3 ∈ th74) :
    (PyData.list (ds4 a b d1 d2 ++ [.list [d2, d3], .list [d3, d1]])).showable = true ∧ (PyData.list (ds4 a b d1 d2 ++ [.list [d2, d3], .list [d3, d1]])).depth ≤ 60 ∧ (PyData.list (ds4 a b d1 d2 ++ [.list [d2, d3], .list [d3, d1]])).shown.length ≤ sizeLine := by
  obtain ⟨x1, y1, z1⟩ := th_ok d1 m1
  obtain ⟨x2, y2, z2⟩ := th_ok d2 m2
  obtain ⟨x3, y3, z3⟩ := th_ok d3 m3
  obtain ⟨x4, y4, z4⟩ := int_ok a0 a1
  obtain ⟨x5, y5, z5⟩ := int_ok b0 (by omega : b < 1000000)
  refine ⟨?_, ?_, ?_⟩
  · simp only [PyData.showable, decide_eq_true_eq] at x4 x5
    simp [ds4, PyData.showable, PyData.showableAll, x1, x2, x3, x4, x5]
  · simp only [ds4, List.cons_append, List.nil_append, PyData.depth, PyData.depthAll]
    omega
  · have h := lt_len (PyData.shownAll (ds4 a b d1 d2 ++ [.list [d2, d3], .list [d3, d1]]))
    have q1 := L2len z4 z5
    have q2 := L4len z4 z5
    have q3 : (PyData.list [.str "form", .str "slip", .str "span", .str "form"]).shown.length ≤ 200 := by decide +kernel
    have q4 := L2len z1 z2
    have q5 := L2len z2 z3
    have q6 := L2len z3 z1
    have e : PyData.shownAll (ds4 a b d1 d2 ++ [.list [d2, d3], .list [d3, d1]]) = [(PyData.list [.int a, .int b]).shown, (PyData.list [.int a, .int b, .int a, .int b]).shown, (PyData.list [.str "form", .str "slip", .str "span", .str "form"]).shown, (PyData.list [d1, d2]).shown, (PyData.list [d2, d3]).shown, (PyData.list [d3, d1]).shown] := rfl
    rw [e, piled_cons, piled_cons, piled_cons, piled_cons, piled_cons, piled_cons, piled_nil] at h
    have h3 : 200000 ≤ sizeLine := by decide
    have e2 : (PyData.list (ds4 a b d1 d2 ++ [.list [d2, d3], .list [d3, d1]])).shown = listText (PyData.shownAll (ds4 a b d1 d2 ++ [.list [d2, d3], .list [d3, d1]])) := by rw [PyData.shown]
    rw [e2, e]
    generalize (PyData.list [.int a, .int b]).shown = t1 at *
    generalize (PyData.list [.int a, .int b, .int a, .int b]).shown = t2 at *
    generalize (PyData.list [.str "form", .str "slip", .str "span", .str "form"]).shown = t3 at *
    generalize (PyData.list [d1, d2]).shown = t4 at *
    generalize (PyData.list [d2, d3]).shown = t5 at *
    generalize (PyData.list [d3, d1]).shown = t6 at *
    generalize (listText [t1, t2, t3, t4, t5, t6]).length = n at *
    generalize sizeLine = z at *
    omega
def Ja (K : PySem.W.Frag) (H : Hp) (h : Addr) (n : Nat) (σ : L2.St) (G : Hp) : Prop := ∃ v1 v2 v3 d1 d2 d3, σ = [some (.ref h), some v1, some v2, some v3, none, none, none, none, none, none, none, none, none, none] ∧ DpE K (delH G h) v1 d1 ∧ d1 ∈ th74 ∧ DpE K (delH G h) v2 d2 ∧ d2 ∈ th74 ∧ DpE K (delH G h) v3 d3 ∧ d3 ∈ th74 ∧ HandAt G h (n + 3) ∧ Kp h H G
def Jb (K : PySem.W.Frag) (H : Hp) (h : Addr) (n : Nat) (σ : L2.St) (G : Hp) : Prop := ∃ v1 v2 v3 d1 d2 d3, ∃ a b : Int, σ = [some (.ref h), some v1, some v2, some v3, some (.int a), some (.int b), none, none, none, none, none, none, none, none] ∧ 0 ≤ a ∧ a < 1000000 ∧ 0 ≤ b ∧ b < 9 ∧ DpE K G v1 d1 ∧ d1 ∈ th74 ∧ DpE K G v2 d2 ∧ d2 ∈ th74 ∧ DpE K G v3 d3 ∧ d3 ∈ th74 ∧ HandAt G h (n + 5) ∧ Kp h H G
def TX (a b : Int) : List (List (Str × V)) := [[("why", V.str "form"), ("row", V.int a)], [("why", V.str "slip"), ("row", V.int b)], [("why", V.str "span"), ("row", V.int a)]]
def Jc (K : PySem.W.Frag) (G0 : Hp) (h : Addr) (v1 v2 v3 : V) (a b : Int) (σ : L2.St) (G : Hp) : Prop := ∃ p1 p2, σ = [some (.ref h), some v1, some v2, some v3, some (.int a), some (.int b), some (.ref p1), some (.ref p2), none, none, none, none, none, none] ∧ Same G0 G ∧ G0 p2 = none ∧ p1 ≠ p2 ∧ ErL G (He.ga K "Slip") p1 [[("row", V.int a)], [("row", V.int b)]] ∧ ErL G (He.ga K "NoText") p2 (TX a b)
def TX1 (b : Int) : List (List (Str × V)) := [[("why", V.str "form"), ("row", V.int b)]]
def Jd (K : PySem.W.Frag) (G0 : Hp) (h : Addr) (v1 v2 v3 : V) (a b : Int) (σ : L2.St) (G : Hp) : Prop := ∃ p1 p2, σ = [some (.ref h), some v1, some v2, some v3, some (.int a), some (.int b), some (.ref p1), some (.ref p2), none, none, none, none, none, none] ∧ Same G0 G ∧ ErL G (He.ga K "Slip") p1 [[("row", V.int a)], [("row", V.int b)]] ∧ ErL G (He.ga K "NoText") p2 (TX a b ++ TX1 b)
def sp_vals (K : PySem.W.Frag) : Sp := fun vs H Q _ => ∃ (h : Addr) (n : Nat), vs = [.ref h] ∧ HandAt H h n ∧ n < 9000 ∧ ∀ H', HandAt H' h (n + 5) → Kp h H H' → Q (.bl true) H'

theorem mkN {K : PySem.W.Frag} {G : Hp} {h q C : Addr} {n : Nat} (nq : G q = none) (hh : HandAt G h n) (x : ExcC K C) :
    Same G (upd G q (errO (.ref C) none q)) ∧ HandAt (upd G q (errO (.ref C) none q)) h n ∧ ErrAt K (delH (upd G q (errO (.ref C) none q)) h) q C := by
  have s : Same G (upd G q (errO (.ref C) none q)) := same1 nq
  exact ⟨s, hh.same s, x, .inl (by rw [delH_ne (hh.ne nq)]; exact upd_same)⟩
theorem mkD {K : PySem.W.Frag} {G : Hp} {h q dx C : Addr} {n : Nat} {fs : List (Str × V)} (nd : G dx = none) (nq : upd G dx (.xd fs) q = none) (hh : HandAt G h n) (x : ExcC K C) :
    Same G (upd (upd G dx (.xd fs)) q (errO (.ref C) (some dx) q)) ∧ HandAt (upd (upd G dx (.xd fs)) q (errO (.ref C) (some dx) q)) h n ∧ ErrAt K (delH (upd (upd G dx (.xd fs)) q (errO (.ref C) (some dx) q)) h) q C := by
  have s0 : Same G (upd G dx (.xd fs)) := same1 nd
  have s : Same G (upd (upd G dx (.xd fs)) q (errO (.ref C) (some dx) q)) := s0.up nq
  refine ⟨s, hh.same s, x, .inr ⟨dx, fs, ?_, ?_⟩⟩
  · rw [delH_ne ((hh.same s0).ne nq)]
    exact upd_same
  · rw [delH_ne (hh.ne nd)]
    exact up1 nq upd_same
inductive EAs (K : PySem.W.Frag) (G : Hp) : Nat → List Addr → Prop
  | nil {i : Nat} : EAs K G i []
  | cons {i : Nat} {a : Addr} {as : List Addr} : ErrAt K G a (C74 K i) → EAs K G (i + 1) as → EAs K G i (a :: as)
theorem EAs.s {K : PySem.W.Frag} {G G' : Hp} (s : Same G G') : ∀ {i : Nat} {as : List Addr}, EAs K G i as → EAs K G' i as
  | _, _, .nil => .nil
  | _, _, .cons e r => .cons (e.s s) (r.s s)
theorem EAs.app {K : PySem.W.Frag} {G : Hp} : ∀ {i j : Nat} {as bs : List Addr}, EAs K G i as → j = i + as.length → EAs K G j bs → EAs K G i (as ++ bs)
  | i, j, _, bs, .nil, e, b => by
    have : j = i := e
    subst this
    exact b
  | i, j, _, bs, .cons (as := as) e r, ej, b => .cons e (r.app (by rw [ej, List.length_cons]; omega) b)
theorem EAs.at {K : PySem.W.Frag} {G : Hp} : ∀ {i j : Nat} {as : List Addr} {a : Addr}, EAs K G i as → as[j]? = some a → ErrAt K G a (C74 K (i + j))
  | _, _, _, _, .nil, e => by simp at e
  | i, 0, _, _, .cons e r, h => by
    simp only [List.getElem?_cons_zero, Option.some.injEq] at h
    subst h
    exact e
  | i, j + 1, _, _, .cons e r, h => by
    have z := r.at (j := j) (by simpa using h)
    rw [show i + 1 + j = i + (j + 1) by omega] at z
    exact z
def LW (K : PySem.W.Frag) (H2 : Hp) (a h : Addr) (iv : V) (m n : Nat) (σ : L2.St) (G : Hp) : Prop := ∃ q xs, σ = [some (.ref a), some iv, some (.ref h), some (.ref q)] ∧ delH G h q = some (.lst (xs.map V.ref)) ∧ xs.length = m ∧ EAs K (delH G h) 0 xs ∧ HandAt G h n ∧ Kp h H2 G


theorem b_l_own_1 {K : PySem.W.Frag} {mg : Str → Option Value} {φ : Fds} (T : Txt P K mg φ) : ∃ ds, Vals ([] : List V) ds ∧ Binds K φ.l_own p_l_own ds :=
  ⟨[], .nil, T.f_l_own.bindsN fun _ _ _ _ _ _ us hl => match us, hl with | [_], _ => rfl⟩
theorem b_l_families_1 {K : PySem.W.Frag} {mg : Str → Option Value} {φ : Fds} (T : Txt P K mg φ) : ∃ ds, Vals ([] : List V) ds ∧ Binds K φ.l_families p_l_families ds :=
  ⟨[], .nil, T.f_l_families.bindsN fun _ _ _ _ _ _ us hl => match us, hl with | [_], _ => rfl⟩
theorem b_l_take_2 {K : PySem.W.Frag} {mg : Str → Option Value} {φ : Fds} (T : Txt P K mg φ) : ∃ ds, Vals ([] : List V) ds ∧ Binds K φ.l_take p_l_take ds :=
  ⟨[], .nil, T.f_l_take.bindsN fun _ _ _ _ _ _ us hl => match us, hl with | [_, _], _ => rfl⟩
theorem b_l_thing_1 {K : PySem.W.Frag} {mg : Str → Option Value} {φ : Fds} (T : Txt P K mg φ) : ∃ ds, Vals ([] : List V) ds ∧ Binds K φ.l_thing p_l_thing ds :=
  ⟨[], .nil, T.f_l_thing.bindsN fun _ _ _ _ _ _ us hl => match us, hl with | [_], _ => rfl⟩
theorem bk_NoText_init_why_row {P : Program} {K : PySem.W.Frag} {mg : Str → Option Value} {φ : Fds} (T : Txt P K mg φ) : ∃ its : List Value, KBn K φ.NoText_init p_NoText_init 1 ["why", "row"] (fun vs zs => (fun {α : Type} (vs ds zs : List α) => ((vs ++ (zs.drop 1).take 1) ++ (zs.drop 0).take 1)) vs its zs) (fun vs zs => (fun {α : Type} (vs ds zs : List α) => ((vs ++ (zs.drop 1).take 1) ++ (zs.drop 0).take 1)) vs ([V.str "form"] : List V) zs) :=
  T.su_NoText_init.kbD 1 ["why", "row"] (fun {α : Type} (vs ds zs : List α) => ((vs ++ (zs.drop 1).take 1) ++ (zs.drop 0).take 1)) (by simp) (fun a b c => ((a.append ((c.drop 1).take 1)).append ((c.drop 0).take 1))) fun _ _ _ _ _ _ us its ws h1 h2 h3 => match us, its, ws, h1, h2, h3 with | [_], [_], [_, _], _, _, _ => ⟨_, rfl, rfl⟩
theorem bs_NoText_init_2 {P : Program} {K : PySem.W.Frag} {mg : Str → Option Value} {φ : Fds} (T : Txt P K mg φ) : ∃ ds, Vals ([] : List V) ds ∧ Binds K φ.NoText_init p_NoText_init ds :=
  T.su_NoText_init.binds1 3 1 (by simp) rfl fun _ _ _ _ _ _ us its h1 h2 => match us, its, h1, h2 with | [_, _, _], [_], _, _ => ⟨_, rfl, rfl⟩
theorem bs_NoText_init_1 {P : Program} {K : PySem.W.Frag} {mg : Str → Option Value} {φ : Fds} (T : Txt P K mg φ) : ∃ ds, Vals ([V.str "form"] : List V) ds ∧ Binds K φ.NoText_init p_NoText_init ds :=
  T.su_NoText_init.binds1 2 0 (by simp) rfl fun _ _ _ _ _ _ us its h1 h2 => match us, its, h1, h2 with | [_, _], [_], _, _ => ⟨_, rfl, rfl⟩
theorem bk_Slip_init_row {P : Program} {K : PySem.W.Frag} {mg : Str → Option Value} {φ : Fds} (T : Txt P K mg φ) : ∃ its : List Value, KBn K φ.Slip_init p_Slip_init 1 ["row"] (fun vs zs => (fun {α : Type} (vs ds zs : List α) => (vs ++ (zs.drop 0).take 1)) vs its zs) (fun vs zs => (fun {α : Type} (vs ds zs : List α) => (vs ++ (zs.drop 0).take 1)) vs ([] : List V) zs) :=
  ⟨[], T.su_Slip_init.kbN 1 ["row"] (fun {α : Type} (vs zs : List α) => (fun (ds : List α) => (vs ++ (zs.drop 0).take 1)) []) (fun a c => (a.append ((c.drop 0).take 1))) fun _ _ _ _ _ us ws h1 h2 => match us, ws, h1, h2 with | [_], [_], _, _ => rfl⟩
theorem bs_Slip_init {P : Program} {K : PySem.W.Frag} {mg : Str → Option Value} {φ : Fds} (T : Txt P K mg φ) : Binds K φ.Slip_init p_Slip_init [] :=
  T.su_Slip_init.bindsA fun _ _ _ _ _ us hl => match us, hl with | [_, _], _ => rfl
theorem bk_NoText_init_row {P : Program} {K : PySem.W.Frag} {mg : Str → Option Value} {φ : Fds} (T : Txt P K mg φ) : ∃ its : List Value, KBn K φ.NoText_init p_NoText_init 1 ["row"] (fun vs zs => (fun {α : Type} (vs ds zs : List α) => ((vs ++ (zs.drop 0).take 1) ++ (ds.drop 0).take 1)) vs its zs) (fun vs zs => (fun {α : Type} (vs ds zs : List α) => ((vs ++ (zs.drop 0).take 1) ++ (ds.drop 0).take 1)) vs ([V.str "form"] : List V) zs) :=
  T.su_NoText_init.kbD 1 ["row"] (fun {α : Type} (vs ds zs : List α) => ((vs ++ (zs.drop 0).take 1) ++ (ds.drop 0).take 1)) (by simp) (fun a b c => ((a.append ((c.drop 0).take 1)).append ((b.drop 0).take 1))) fun _ _ _ _ _ _ us its ws h1 h2 h3 => match us, its, ws, h1, h2, h3 with | [_], [_], [_], _, _, _ => ⟨_, rfl, rfl⟩
theorem bs_LandTwice_init {P : Program} {K : PySem.W.Frag} {mg : Str → Option Value} {φ : Fds} (T : Txt P K mg φ) : Binds K φ.LandTwice_init p_LandTwice_init [] :=
  T.su_LandTwice_init.bindsA fun _ _ _ _ _ us hl => match us, hl with | [_, _], _ => rfl
theorem bk_NoLand_init_name {P : Program} {K : PySem.W.Frag} {mg : Str → Option Value} {φ : Fds} (T : Txt P K mg φ) : ∃ its : List Value, KBn K φ.NoLand_init p_NoLand_init 1 ["name"] (fun vs zs => (fun {α : Type} (vs ds zs : List α) => (vs ++ (zs.drop 0).take 1)) vs its zs) (fun vs zs => (fun {α : Type} (vs ds zs : List α) => (vs ++ (zs.drop 0).take 1)) vs ([] : List V) zs) :=
  ⟨[], T.su_NoLand_init.kbN 1 ["name"] (fun {α : Type} (vs zs : List α) => (fun (ds : List α) => (vs ++ (zs.drop 0).take 1)) []) (fun a c => (a.append ((c.drop 0).take 1))) fun _ _ _ _ _ us ws h1 h2 => match us, ws, h1, h2 with | [_], [_], _, _ => rfl⟩
theorem bs_NoLand_init {P : Program} {K : PySem.W.Frag} {mg : Str → Option Value} {φ : Fds} (T : Txt P K mg φ) : Binds K φ.NoLand_init p_NoLand_init [] :=
  T.su_NoLand_init.bindsA fun _ _ _ _ _ us hl => match us, hl with | [_, _], _ => rfl
theorem bk_NoSize_init_number {P : Program} {K : PySem.W.Frag} {mg : Str → Option Value} {φ : Fds} (T : Txt P K mg φ) : ∃ its : List Value, KBn K φ.NoSize_init p_NoSize_init 1 ["number"] (fun vs zs => (fun {α : Type} (vs ds zs : List α) => (vs ++ (zs.drop 0).take 1)) vs its zs) (fun vs zs => (fun {α : Type} (vs ds zs : List α) => (vs ++ (zs.drop 0).take 1)) vs ([] : List V) zs) :=
  ⟨[], T.su_NoSize_init.kbN 1 ["number"] (fun {α : Type} (vs zs : List α) => (fun (ds : List α) => (vs ++ (zs.drop 0).take 1)) []) (fun a c => (a.append ((c.drop 0).take 1))) fun _ _ _ _ _ us ws h1 h2 => match us, ws, h1, h2 with | [_], [_], _, _ => rfl⟩
theorem bs_NoSize_init {P : Program} {K : PySem.W.Frag} {mg : Str → Option Value} {φ : Fds} (T : Txt P K mg φ) : Binds K φ.NoSize_init p_NoSize_init [] :=
  T.su_NoSize_init.bindsA fun _ _ _ _ _ us hl => match us, hl with | [_, _], _ => rfl
theorem bk_LandTwice_init_name {P : Program} {K : PySem.W.Frag} {mg : Str → Option Value} {φ : Fds} (T : Txt P K mg φ) : ∃ its : List Value, KBn K φ.LandTwice_init p_LandTwice_init 1 ["name"] (fun vs zs => (fun {α : Type} (vs ds zs : List α) => (vs ++ (zs.drop 0).take 1)) vs its zs) (fun vs zs => (fun {α : Type} (vs ds zs : List α) => (vs ++ (zs.drop 0).take 1)) vs ([] : List V) zs) :=
  ⟨[], T.su_LandTwice_init.kbN 1 ["name"] (fun {α : Type} (vs zs : List α) => (fun (ds : List α) => (vs ++ (zs.drop 0).take 1)) []) (fun a c => (a.append ((c.drop 0).take 1))) fun _ _ _ _ _ us ws h1 h2 => match us, ws, h1, h2 with | [_], [_], _, _ => rfl⟩
theorem b_l_hand_of_2 {K : PySem.W.Frag} {mg : Str → Option Value} {φ : Fds} (T : Txt P K mg φ) : ∃ ds, Vals ([] : List V) ds ∧ Binds K φ.l_hand_of p_l_hand_of ds :=
  ⟨[], .nil, T.f_l_hand_of.bindsN fun _ _ _ _ _ _ us hl => match us, hl with | [_, _], _ => rfl⟩
theorem b_l_values_right_1 {K : PySem.W.Frag} {mg : Str → Option Value} {φ : Fds} (T : Txt P K mg φ) : ∃ ds, Vals ([] : List V) ds ∧ Binds K φ.l_values_right p_l_values_right ds :=
  ⟨[], .nil, T.f_l_values_right.bindsN fun _ _ _ _ _ _ us hl => match us, hl with | [_], _ => rfl⟩
theorem b_l_kinds_right_1 {K : PySem.W.Frag} {mg : Str → Option Value} {φ : Fds} (T : Txt P K mg φ) : ∃ ds, Vals ([] : List V) ds ∧ Binds K φ.l_kinds_right p_l_kinds_right ds :=
  ⟨[], .nil, T.f_l_kinds_right.bindsN fun _ _ _ _ _ _ us hl => match us, hl with | [_], _ => rfl⟩
theorem ok_l_take {P : Program} {w : World} {K : PySem.W.Frag} {mg : Str → Option Value} {base : Heap} {φ : Fds} (T : Txt P K mg φ) : FnOk P w K mg base CX0 1 (He.fAd K ("_law_take", none)) φ.l_take p_l_take sp_take := by
  refine T.f_l_take.ok sc_l_take (fun vs H Q E h => ?_) (fun cdv A outer s H vs Q E hr h => ?_)
  · obtain ⟨hd, n, m, rfl, hh, hn, hm, hl, k⟩ := h; rfl
  · obtain ⟨hd, n, m, rfl, hh, hn, hm, hl, k⟩ := h
    refine ⟨_, PSs.nox (pss_cons (ps_if (pt_cmpR op_gt (pe_ix (ixl (K := K)) (pv 0) pe_int (fun _ _ => rfl)) pe_int (nomark _))
      (pss_cons (ps_set (i := 2) sc_l_take.nd rfl (Or.inl rfl) (pe_op op_mod (pe_ix (ixl (K := K)) (pv 0) pe_int (fun _ _ => rfl)) (pv 1)))
      (pss_cons (ps_asg (pe_op op_fd (pe_ix (ixl (K := K)) (pv 0) pe_int (fun _ _ => rfl)) (pv 1)) (pg_sub (pv 0) pe_int set_list))
      (pss_one (ps_ret (pv 2)))))
      pss_nil)
      (pss_cons (ps_asg (pe_op op_add (pe_ix (ixl (K := K)) (pv 0) pe_int (fun _ _ => rfl)) pe_int) (pg_sub (pv 0) pe_int set_list))
      (pss_cons (ps_set (i := 3) sc_l_take.nd rfl (Or.inl rfl) (pe_op op_mod (pe_op op_pow (pe_op op_add (pe_op op_add (pe_ix (ixl (K := K)) (pv 0) pe_int (fun _ _ => rfl)) (pe_op op_mulA (pe_op op_mulA pe_int (pe_ix (ixl (K := K)) (pv 0) pe_int (fun _ _ => rfl))) (pe_ix (ixl (K := K)) (pv 0) pe_int (fun _ _ => rfl)))) pe_int) pe_int) pe_int))
      (pss_cons (ps_set (i := 3) sc_l_take.nd rfl (Or.inl rfl) (pe_op op_mod (pe_op op_mulA (pv 3) (pe_op op_add (pe_op op_mod (pv 3) pe_int) (pe_op op_mulA pe_int (pe_ix (ixl (K := K)) (pv 0) pe_int (fun _ _ => rfl))))) pe_int))
      (pss_one (ps_ret (pe_op op_mod (pe_op op_add (pe_op op_fd (pv 3) pe_int) (pe_op op_fd (pv 3) pe_int)) (pv 1)))))))), ?_⟩
    obtain ⟨a, b, c, h0, ha, hb, hb2, hc, hc2⟩ := hh
    refine ⟨_, rfl, _, _, _, _, rfl, rfl, SqL.of h0, rfl, _, _, rfl, rfl, _, rfl, ?_⟩
    refine ite2 (fun e => ?_) (fun e => ?_)
    · have e0 : 0 < a := of_decide_eq_true e
      refine ⟨_, rfl, _, _, _, _, rfl, rfl, SqL.of h0, rfl, _, rfl, _, _, rfl, rfl, hm, ?_⟩
      refine ⟨_, rfl, _, _, _, _, rfl, rfl, SqL.of h0, rfl, _, rfl, _, _, rfl, rfl, ⟨by omega, hl⟩, _, rfl, _, _, _, _, rfl, rfl, h0, rfl, ?_⟩
      refine ⟨_, rfl, k _ _ (Int.emod_nonneg _ (by omega)) (Int.emod_lt_of_pos _ hm) ⟨a.fdiv m, b, c, upd_same, ?_, hb, hb2, hc, by omega⟩ (Kp.refl _ _).set⟩
      rw [Int.fdiv_eq_ediv_of_nonneg a (by omega)]
      exact Int.ediv_nonneg ha (by omega)
    · have c9 : c ≤ 1000000 := by omega
      refine ⟨_, rfl, _, _, _, _, rfl, rfl, SqL.of h0, rfl, _, _, rfl, rfl, _, rfl, _, _, _, _, rfl, rfl, h0, rfl, ?_⟩
      have h1 : (upd H hd (.lst ([V.int a, V.int b, V.int c].set 2 (V.int (c + 1))))) hd = some (.lst [V.int a, V.int b, V.int (c + 1)]) := upd_same
      have hcc : 0 ≤ 65537 * (c + 1) * (c + 1) := Int.mul_nonneg (Int.mul_nonneg (by omega) (by omega)) (by omega)
      have hcd : 65537 * (c + 1) * (c + 1) ≤ 65537 * 1000001 * 1000001 := Int.mul_le_mul (Int.mul_le_mul_of_nonneg_left (by omega) (by omega)) (by omega) (by omega) (by omega)
      refine ⟨_, rfl, _, _, _, _, rfl, rfl, SqL.of h1, rfl, _, rfl, _, _, _, _, rfl, rfl, SqL.of h1, rfl, _, _, rfl, rfl, .inl (.inl ⟨by decide, by decide⟩), _, rfl, _, _, _, _, rfl, rfl, SqL.of h1, rfl, _, _, rfl, rfl, .inl (.inr ⟨by omega, by omega⟩), _, _, rfl, rfl, _, _, rfl, rfl, _, _, rfl, rfl, ⟨by decide, by decide, by omega⟩, _, _, rfl, rfl, (by show (0 : Int) < 2305843009213693921; decide), ?_⟩
      refine ⟨_, rfl, _, rfl, _, _, rfl, rfl, (by show (0 : Int) < 1000003; decide), _, rfl, _, _, _, _, rfl, rfl, SqL.of h1, rfl, _, _, rfl, rfl, .inl (.inl ⟨by decide, by decide⟩), _, _, rfl, rfl, _, _, rfl, rfl, .inl (.inr ?_), _, _, rfl, rfl, (by show (0 : Int) < 2305843009213693907; decide), ?_⟩
      · generalize (b + 65537 * (c + 1) * (c + 1) + 11) ^ Int.toNat 3 % 2305843009213693921 = z
        constructor <;> omega
      · generalize (b + 65537 * (c + 1) * (c + 1) + 11) ^ Int.toNat 3 % 2305843009213693921 = z
        generalize z * (z % 1000003 + 99991 * (c + 1)) % 2305843009213693907 = y
        refine ⟨_, rfl, _, _, rfl, rfl, ⟨by decide, by decide +kernel⟩, _, rfl, _, _, rfl, rfl, ⟨by decide, by decide +kernel⟩, _, _, rfl, rfl, _, rfl, _, _, rfl, rfl, hm, ?_⟩
        exact k _ _ (Int.emod_nonneg _ (by omega)) (Int.emod_lt_of_pos _ hm) ⟨a, b, c + 1, upd_same, ha, hb, hb2, by omega, by omega⟩ (Kp.refl _ _).set
theorem ok_l_hand_of {P : Program} {w : World} {K : PySem.W.Frag} {mg : Str → Option Value} {base : Heap} {φ : Fds} (T : Txt P K mg φ) : FnOk P w K mg base CX0 1 (He.fAd K ("_law_hand_of", none)) φ.l_hand_of p_l_hand_of (sp_hand K) := by
  refine T.f_l_hand_of.ok sc_l_hand_of (fun vs H Q E h => ?_) (fun cdv A outer s H vs Q E hr h => ?_)
  · obtain ⟨a, ns, kk, rfl, hS, hk, k⟩ := h; rfl
  · obtain ⟨a, ns, kk, rfl, hS, hk, k⟩ := h
    refine ⟨_, PSs.nox (pss_cons (ps_set (i := 2) sc_l_hand_of.nd rfl (Or.inl rfl) pe_int)
      (pss_cons (ps_cut (ps_if (pt_cmpR op_lt (pv 1) (pe_callB (id := "len") (lenS (K := K)) (by rfl) T.z_len PySem.boot_len (pa_cons (pv 0) pa_nil)) (nomark _))
      (pss_one (ps_set (i := 2) sc_l_hand_of.nd rfl (Or.inl rfl) (pe_ix (ixl (K := K)) (pv 0) (pv 1) (fun _ _ => rfl))))
      pss_nil))
      (pss_cons (ps_set (i := 3) sc_l_hand_of.nd rfl (Or.inl rfl) (pe_op op_mod (pe_op op_add (pe_op op_add (pe_op op_mod (pv 2) pe_int) (pe_op op_mulA pe_int (pv 1))) pe_int) pe_int))
      (pss_one (ps_ret (pe_lst (pa_cons (pe_op op_mulA (pv 2) (pe_callTy (T := "int") call_int1 (by rfl) T.z_int (by decide +kernel) (pa_cons (pe_cmpR op_ge (pv 2) (pe_op op_pow pe_int pe_int) (nomark _)) pa_nil))) (pa_cons (pv 3) (pa_cons pe_int pa_nil))))))))), ?_⟩
    refine ⟨fun σ' H' => H' = H ∧ ∃ z : Int, σ' = [some (.ref a), some (.int kk), some (.int z), none], ?_, ?_⟩
    · refine ⟨_, rfl, _, rfl, a, _, rfl, .inl hS, _, _, rfl, rfl, _, rfl, ?_⟩
      refine ite2 (fun e => ?_) (fun e => ?_)
      · have e0 : (kk : Int) < ((ns.map V.int).length : Int) := of_decide_eq_true e
        rw [List.length_map] at e0
        have e1 : kk < ns.length := by omega
        refine ⟨_, rfl, _, rfl, a, _, _, V.int ns[kk], rfl, rfl, hS, atI_nat ?_, rfl, _, rfl⟩
        rw [List.getElem?_map, List.getElem?_eq_getElem e1]
        rfl
      · exact ⟨rfl, 0, rfl⟩
    · rintro σ' H' ⟨rfl, z, rfl⟩
      refine ⟨_, rfl, _, _, rfl, rfl, (by show (0 : Int) < 2305843009213693951; decide), _, rfl, _, _, rfl, rfl, .inl (.inl ⟨by decide, by decide⟩), _, _, rfl, rfl, _, _, rfl, rfl, _, _, rfl, rfl, (by show (0 : Int) < 2305843009213693951; decide), ?_⟩
      refine ⟨_, rfl, _, rfl, _, _, rfl, rfl, ⟨by decide, by decide, by decide⟩, _, _, rfl, rfl, .inr ⟨_, rfl, _, _, rfl, rfl, .inl (.inr ?_), _, rfl, by show 3 ≤ sizeLine; decide, fun p hp => ?_⟩⟩
      · cases decide ((10 : Int) ^ Int.toNat 18 ≤ z) <;> exact ⟨by decide, by decide⟩
      · refine k p _ hp (same1 hp) ⟨_, _, _, upd_same, ?_, Int.emod_nonneg _ (by decide), Int.lt_trans (Int.emod_lt_of_pos _ (by decide)) (by decide), by decide, by decide⟩
        by_cases e : (10 : Int) ^ Int.toNat 18 ≤ z
        · rw [decide_eq_true e]
          have e2 : (10 : Int) ^ Int.toNat 18 = 1000000000000000000 := by decide
          rw [e2] at e
          show 0 ≤ z * 1
          omega
        · rw [decide_eq_false e]
          show 0 ≤ z * 0
          omega
theorem xcs {P : Program} {K : PySem.W.Frag} {mg : Str → Option Value} {φ : Fds} (T : Txt P K mg φ) : ∀ i, i < 11 → ExcC K (C74 K i)
  | 0, _ => T.xc_NoMeasure
  | 1, _ => T.xc_NoStretch
  | 2, _ => T.xc_NoLadder
  | 3, _ => T.xc_NoLine
  | 4, _ => T.xc_Slip
  | 5, _ => T.xc_NoText
  | 6, _ => T.xc_NoSize
  | 7, _ => T.xc_NoLand
  | 8, _ => T.xc_LandTwice
  | 9, _ => T.xc_NoBottom
  | 10, _ => T.xc_NothingBack
  | i + 11, h => absurd h (by omega)
theorem kos {P : Program} {K : PySem.W.Frag} {mg : Str → Option Value} {φ : Fds} (T : Txt P K mg φ) : ∀ i, i < 11 → KO K (C74 K i) (fun j => decide (i = j))
  | 0, _ => ⟨T.k_NoMeasure_NoMeasure, T.k_NoMeasure_NoStretch, T.k_NoMeasure_NoLadder, T.k_NoMeasure_NoLine, T.k_NoMeasure_Slip, T.k_NoMeasure_NoText, T.k_NoMeasure_NoSize, T.k_NoMeasure_NoLand, T.k_NoMeasure_LandTwice, T.k_NoMeasure_NoBottom, T.k_NoMeasure_NothingBack⟩
  | 1, _ => ⟨T.k_NoStretch_NoMeasure, T.k_NoStretch_NoStretch, T.k_NoStretch_NoLadder, T.k_NoStretch_NoLine, T.k_NoStretch_Slip, T.k_NoStretch_NoText, T.k_NoStretch_NoSize, T.k_NoStretch_NoLand, T.k_NoStretch_LandTwice, T.k_NoStretch_NoBottom, T.k_NoStretch_NothingBack⟩
  | 2, _ => ⟨T.k_NoLadder_NoMeasure, T.k_NoLadder_NoStretch, T.k_NoLadder_NoLadder, T.k_NoLadder_NoLine, T.k_NoLadder_Slip, T.k_NoLadder_NoText, T.k_NoLadder_NoSize, T.k_NoLadder_NoLand, T.k_NoLadder_LandTwice, T.k_NoLadder_NoBottom, T.k_NoLadder_NothingBack⟩
  | 3, _ => ⟨T.k_NoLine_NoMeasure, T.k_NoLine_NoStretch, T.k_NoLine_NoLadder, T.k_NoLine_NoLine, T.k_NoLine_Slip, T.k_NoLine_NoText, T.k_NoLine_NoSize, T.k_NoLine_NoLand, T.k_NoLine_LandTwice, T.k_NoLine_NoBottom, T.k_NoLine_NothingBack⟩
  | 4, _ => ⟨T.k_Slip_NoMeasure, T.k_Slip_NoStretch, T.k_Slip_NoLadder, T.k_Slip_NoLine, T.k_Slip_Slip, T.k_Slip_NoText, T.k_Slip_NoSize, T.k_Slip_NoLand, T.k_Slip_LandTwice, T.k_Slip_NoBottom, T.k_Slip_NothingBack⟩
  | 5, _ => ⟨T.k_NoText_NoMeasure, T.k_NoText_NoStretch, T.k_NoText_NoLadder, T.k_NoText_NoLine, T.k_NoText_Slip, T.k_NoText_NoText, T.k_NoText_NoSize, T.k_NoText_NoLand, T.k_NoText_LandTwice, T.k_NoText_NoBottom, T.k_NoText_NothingBack⟩
  | 6, _ => ⟨T.k_NoSize_NoMeasure, T.k_NoSize_NoStretch, T.k_NoSize_NoLadder, T.k_NoSize_NoLine, T.k_NoSize_Slip, T.k_NoSize_NoText, T.k_NoSize_NoSize, T.k_NoSize_NoLand, T.k_NoSize_LandTwice, T.k_NoSize_NoBottom, T.k_NoSize_NothingBack⟩
  | 7, _ => ⟨T.k_NoLand_NoMeasure, T.k_NoLand_NoStretch, T.k_NoLand_NoLadder, T.k_NoLand_NoLine, T.k_NoLand_Slip, T.k_NoLand_NoText, T.k_NoLand_NoSize, T.k_NoLand_NoLand, T.k_NoLand_LandTwice, T.k_NoLand_NoBottom, T.k_NoLand_NothingBack⟩
  | 8, _ => ⟨T.k_LandTwice_NoMeasure, T.k_LandTwice_NoStretch, T.k_LandTwice_NoLadder, T.k_LandTwice_NoLine, T.k_LandTwice_Slip, T.k_LandTwice_NoText, T.k_LandTwice_NoSize, T.k_LandTwice_NoLand, T.k_LandTwice_LandTwice, T.k_LandTwice_NoBottom, T.k_LandTwice_NothingBack⟩
  | 9, _ => ⟨T.k_NoBottom_NoMeasure, T.k_NoBottom_NoStretch, T.k_NoBottom_NoLadder, T.k_NoBottom_NoLine, T.k_NoBottom_Slip, T.k_NoBottom_NoText, T.k_NoBottom_NoSize, T.k_NoBottom_NoLand, T.k_NoBottom_LandTwice, T.k_NoBottom_NoBottom, T.k_NoBottom_NothingBack⟩
  | 10, _ => ⟨T.k_NothingBack_NoMeasure, T.k_NothingBack_NoStretch, T.k_NothingBack_NoLadder, T.k_NothingBack_NoLine, T.k_NothingBack_Slip, T.k_NothingBack_NoText, T.k_NothingBack_NoSize, T.k_NothingBack_NoLand, T.k_NothingBack_LandTwice, T.k_NothingBack_NoBottom, T.k_NothingBack_NothingBack⟩
  | i + 11, h => absurd h (by omega)
theorem kfs {P : Program} {K : PySem.W.Frag} {mg : Str → Option Value} {φ : Fds} (T : Txt P K mg φ) : ∀ i, i < 11 → KF K (C74 K i) (fm74 i)
  | 0, _ => ⟨T.k_NoMeasure_LadderError, T.k_NoMeasure_ValueError, T.k_NoMeasure_LandError, T.k_NoMeasure_LookupError, T.k_NoMeasure_ZeroDivisionError, T.k_NoMeasure_IndexError⟩
  | 1, _ => ⟨T.k_NoStretch_LadderError, T.k_NoStretch_ValueError, T.k_NoStretch_LandError, T.k_NoStretch_LookupError, T.k_NoStretch_ZeroDivisionError, T.k_NoStretch_IndexError⟩
  | 2, _ => ⟨T.k_NoLadder_LadderError, T.k_NoLadder_ValueError, T.k_NoLadder_LandError, T.k_NoLadder_LookupError, T.k_NoLadder_ZeroDivisionError, T.k_NoLadder_IndexError⟩
  | 3, _ => ⟨T.k_NoLine_LadderError, T.k_NoLine_ValueError, T.k_NoLine_LandError, T.k_NoLine_LookupError, T.k_NoLine_ZeroDivisionError, T.k_NoLine_IndexError⟩
  | 4, _ => ⟨T.k_Slip_LadderError, T.k_Slip_ValueError, T.k_Slip_LandError, T.k_Slip_LookupError, T.k_Slip_ZeroDivisionError, T.k_Slip_IndexError⟩
  | 5, _ => ⟨T.k_NoText_LadderError, T.k_NoText_ValueError, T.k_NoText_LandError, T.k_NoText_LookupError, T.k_NoText_ZeroDivisionError, T.k_NoText_IndexError⟩
  | 6, _ => ⟨T.k_NoSize_LadderError, T.k_NoSize_ValueError, T.k_NoSize_LandError, T.k_NoSize_LookupError, T.k_NoSize_ZeroDivisionError, T.k_NoSize_IndexError⟩
  | 7, _ => ⟨T.k_NoLand_LadderError, T.k_NoLand_ValueError, T.k_NoLand_LandError, T.k_NoLand_LookupError, T.k_NoLand_ZeroDivisionError, T.k_NoLand_IndexError⟩
  | 8, _ => ⟨T.k_LandTwice_LadderError, T.k_LandTwice_ValueError, T.k_LandTwice_LandError, T.k_LandTwice_LookupError, T.k_LandTwice_ZeroDivisionError, T.k_LandTwice_IndexError⟩
  | 9, _ => ⟨T.k_NoBottom_LadderError, T.k_NoBottom_ValueError, T.k_NoBottom_LandError, T.k_NoBottom_LookupError, T.k_NoBottom_ZeroDivisionError, T.k_NoBottom_IndexError⟩
  | 10, _ => ⟨T.k_NothingBack_LadderError, T.k_NothingBack_ValueError, T.k_NothingBack_LandError, T.k_NothingBack_LookupError, T.k_NothingBack_ZeroDivisionError, T.k_NothingBack_IndexError⟩
  | i + 11, h => absurd h (by omega)
theorem kfL {P : Program} {K : PySem.W.Frag} {mg : Str → Option Value} {φ : Fds} (T : Txt P K mg φ) : KF K (He.ga K "LadderError") fmL := ⟨T.k_LadderError_LadderError, T.k_LadderError_ValueError, T.k_LadderError_LandError, T.k_LadderError_LookupError, T.k_LadderError_ZeroDivisionError, T.k_LadderError_IndexError⟩
theorem kfN {P : Program} {K : PySem.W.Frag} {mg : Str → Option Value} {φ : Fds} (T : Txt P K mg φ) : KF K (He.ga K "LandError") fmN := ⟨T.k_LandError_LadderError, T.k_LandError_ValueError, T.k_LandError_LandError, T.k_LandError_LookupError, T.k_LandError_ZeroDivisionError, T.k_LandError_IndexError⟩
theorem ok_Slip_init {P : Program} {w : World} {K : PySem.W.Frag} {mg : Str → Option Value} {base : Heap} {φ : Fds} (T : Txt P K mg φ) : FnOk P w K mg base CX0 1 (He.fAd K ("Slip", some "__init__")) φ.Slip_init p_Slip_init (sp_err1 (He.ga K "Slip") "row") := by
  refine fn_sup baseVE T.su_Slip_init T.sc_Slip rfl T.pfile T.ptop T.z_super scS_Slip_init rfl rfl rfl (fun vs H Q E h => ?_) (fun _ => rfl) (fun _ => rfl) (fun _ => rfl) (fun _ _ _ _ => rfl) (fun A outer s H vs Q E h => ?_)
  · obtain ⟨a, y, rfl, _⟩ := h; rfl
  · obtain ⟨a, y, rfl, ha, h⟩ := h
    refine ⟨a, [y], rfl, ha, _, _, pa_cons pe_str pa_nil, (pss_cons (ps_ostG baseVE (pe_var (i := 0) rfl (.inl rfl)) (pe_var (i := 1) rfl (.inl rfl))) pss_nil), ?_⟩
    exact ⟨Nat.le_of_ble_eq_true rfl, ha, _, rfl, _, rfl, a, _, rfl, T.sc_Slip.ox, T.xn_Slip_row.no, .inl ⟨ha, h⟩⟩
theorem ok_NoText_init {P : Program} {w : World} {K : PySem.W.Frag} {mg : Str → Option Value} {base : Heap} {φ : Fds} (T : Txt P K mg φ) : FnOk P w K mg base CX0 1 (He.fAd K ("NoText", some "__init__")) φ.NoText_init p_NoText_init (sp_err2 (He.ga K "NoText") "row" "why") := by
  refine fn_sup baseVE T.su_NoText_init T.sc_NoText rfl T.pfile T.ptop T.z_super scS_NoText_init rfl rfl rfl (fun vs H Q E h => ?_) (fun _ => rfl) (fun _ => rfl) (fun _ => rfl) (fun _ _ _ _ => rfl) (fun A outer s H vs Q E h => ?_)
  · obtain ⟨a, y, z, rfl, _⟩ := h; rfl
  · obtain ⟨a, y, z, rfl, ha, h⟩ := h
    refine ⟨a, [y, z], rfl, ha, _, _, pa_cons pe_str pa_nil, (pss_cons (ps_ostG baseVE (pe_var (i := 0) rfl (.inl rfl)) (pe_var (i := 1) rfl (.inl rfl))) (pss_cons (ps_ostG baseVE (pe_var (i := 0) rfl (.inl rfl)) (pe_var (i := 2) rfl (.inl rfl))) pss_nil)), ?_⟩
    exact ⟨Nat.le_of_ble_eq_true rfl, ha, _, rfl, _, rfl, a, _, rfl, T.sc_NoText.ox, T.xn_NoText_row.no, .inl ⟨ha, fun dx n1 n2 => ⟨_, rfl, _, rfl, a, _, rfl, T.sc_NoText.ox, T.xn_NoText_why.no, .inr ⟨dx, _, upd_same, (upd_ne n2).trans upd_same, Nat.le_of_ble_eq_true rfl, by rw [upd_sw n2]; exact h dx n1 n2⟩⟩⟩⟩
theorem ok_NoSize_init {P : Program} {w : World} {K : PySem.W.Frag} {mg : Str → Option Value} {base : Heap} {φ : Fds} (T : Txt P K mg φ) : FnOk P w K mg base CX0 1 (He.fAd K ("NoSize", some "__init__")) φ.NoSize_init p_NoSize_init (sp_err1 (He.ga K "NoSize") "number") := by
  refine fn_sup baseLE T.su_NoSize_init T.sc_NoSize rfl T.pfile T.ptop T.z_super scS_NoSize_init rfl rfl rfl (fun vs H Q E h => ?_) (fun _ => rfl) (fun _ => rfl) (fun _ => rfl) (fun _ _ _ _ => rfl) (fun A outer s H vs Q E h => ?_)
  · obtain ⟨a, y, rfl, _⟩ := h; rfl
  · obtain ⟨a, y, rfl, ha, h⟩ := h
    refine ⟨a, [y], rfl, ha, _, _, pa_cons pe_str pa_nil, (pss_cons (ps_ostG baseLE (pe_var (i := 0) rfl (.inl rfl)) (pe_var (i := 1) rfl (.inl rfl))) pss_nil), ?_⟩
    exact ⟨Nat.le_of_ble_eq_true rfl, ha, _, rfl, _, rfl, a, _, rfl, T.sc_NoSize.ox, T.xn_NoSize_number.no, .inl ⟨ha, h⟩⟩
theorem ok_NoLand_init {P : Program} {w : World} {K : PySem.W.Frag} {mg : Str → Option Value} {base : Heap} {φ : Fds} (T : Txt P K mg φ) : FnOk P w K mg base CX0 1 (He.fAd K ("NoLand", some "__init__")) φ.NoLand_init p_NoLand_init (sp_err1 (He.ga K "NoLand") "name") := by
  refine fn_sup baseLE T.su_NoLand_init T.sc_NoLand rfl T.pfile T.ptop T.z_super scS_NoLand_init rfl rfl rfl (fun vs H Q E h => ?_) (fun _ => rfl) (fun _ => rfl) (fun _ => rfl) (fun _ _ _ _ => rfl) (fun A outer s H vs Q E h => ?_)
  · obtain ⟨a, y, rfl, _⟩ := h; rfl
  · obtain ⟨a, y, rfl, ha, h⟩ := h
    refine ⟨a, [y], rfl, ha, _, _, pa_cons pe_str pa_nil, (pss_cons (ps_ostG baseLE (pe_var (i := 0) rfl (.inl rfl)) (pe_var (i := 1) rfl (.inl rfl))) pss_nil), ?_⟩
    exact ⟨Nat.le_of_ble_eq_true rfl, ha, _, rfl, _, rfl, a, _, rfl, T.sc_NoLand.ox, T.xn_NoLand_name.no, .inl ⟨ha, h⟩⟩
theorem ok_LandTwice_init {P : Program} {w : World} {K : PySem.W.Frag} {mg : Str → Option Value} {base : Heap} {φ : Fds} (T : Txt P K mg φ) : FnOk P w K mg base CX0 1 (He.fAd K ("LandTwice", some "__init__")) φ.LandTwice_init p_LandTwice_init (sp_err1 (He.ga K "LandTwice") "name") := by
  refine fn_sup baseLE T.su_LandTwice_init T.sc_LandTwice rfl T.pfile T.ptop T.z_super scS_LandTwice_init rfl rfl rfl (fun vs H Q E h => ?_) (fun _ => rfl) (fun _ => rfl) (fun _ => rfl) (fun _ _ _ _ => rfl) (fun A outer s H vs Q E h => ?_)
  · obtain ⟨a, y, rfl, _⟩ := h; rfl
  · obtain ⟨a, y, rfl, ha, h⟩ := h
    refine ⟨a, [y], rfl, ha, _, _, pa_cons pe_str pa_nil, (pss_cons (ps_ostG baseLE (pe_var (i := 0) rfl (.inl rfl)) (pe_var (i := 1) rfl (.inl rfl))) pss_nil), ?_⟩
    exact ⟨Nat.le_of_ble_eq_true rfl, ha, _, rfl, _, rfl, a, _, rfl, T.sc_LandTwice.ox, T.xn_LandTwice_name.no, .inl ⟨ha, h⟩⟩
theorem ok_l_own {P : Program} {w : World} {K : PySem.W.Frag} {mg : Str → Option Value} {base : Heap} {φ : Fds} (T : Txt P K mg φ) : FnOk P w K mg base CX0 1 (He.fAd K ("_law_own", none)) φ.l_own p_l_own (sp_own K) := by
  refine T.f_l_own.ok sc_l_own (fun vs H Q E h => ?_) (fun cdv A outer s H vs Q E hr h => ?_)
  · obtain ⟨a, D, b, rfl, e1, k, q⟩ := h; rfl
  · obtain ⟨a, D, b, rfl, e1, k, q⟩ := h
    refine ⟨_, PSs.nox (pss_cons (ps_set (i := 1) sc_l_own.nd rfl (Or.inl rfl) (pe_lst (pa_cons (pe_callB (id := "isinstance") (callR_or (isi (K := K)) (isK (K := K))) (by rfl) T.z_isinstance (by decide +kernel) (pa_cons (pv 0) (pa_cons (pe_glob (v := .ref (He.ga K "NoMeasure")) rfl T.g_NoMeasure rfl) pa_nil))) (pa_cons (pe_callB (id := "isinstance") (callR_or (isi (K := K)) (isK (K := K))) (by rfl) T.z_isinstance (by decide +kernel) (pa_cons (pv 0) (pa_cons (pe_glob (v := .ref (He.ga K "NoStretch")) rfl T.g_NoStretch rfl) pa_nil))) (pa_cons (pe_callB (id := "isinstance") (callR_or (isi (K := K)) (isK (K := K))) (by rfl) T.z_isinstance (by decide +kernel) (pa_cons (pv 0) (pa_cons (pe_glob (v := .ref (He.ga K "NoLadder")) rfl T.g_NoLadder rfl) pa_nil))) (pa_cons (pe_callB (id := "isinstance") (callR_or (isi (K := K)) (isK (K := K))) (by rfl) T.z_isinstance (by decide +kernel) (pa_cons (pv 0) (pa_cons (pe_glob (v := .ref (He.ga K "NoLine")) rfl T.g_NoLine rfl) pa_nil))) pa_nil))))))
      (pss_cons (ps_set (i := 1) sc_l_own.nd rfl (Or.inl rfl) (pe_op op_cat (pv 1) (pe_lst (pa_cons (pe_callB (id := "isinstance") (callR_or (isi (K := K)) (isK (K := K))) (by rfl) T.z_isinstance (by decide +kernel) (pa_cons (pv 0) (pa_cons (pe_glob (v := .ref (He.ga K "Slip")) rfl T.g_Slip rfl) pa_nil))) (pa_cons (pe_callB (id := "isinstance") (callR_or (isi (K := K)) (isK (K := K))) (by rfl) T.z_isinstance (by decide +kernel) (pa_cons (pv 0) (pa_cons (pe_glob (v := .ref (He.ga K "NoText")) rfl T.g_NoText rfl) pa_nil))) (pa_cons (pe_callB (id := "isinstance") (callR_or (isi (K := K)) (isK (K := K))) (by rfl) T.z_isinstance (by decide +kernel) (pa_cons (pv 0) (pa_cons (pe_glob (v := .ref (He.ga K "NoSize")) rfl T.g_NoSize rfl) pa_nil))) (pa_cons (pe_callB (id := "isinstance") (callR_or (isi (K := K)) (isK (K := K))) (by rfl) T.z_isinstance (by decide +kernel) (pa_cons (pv 0) (pa_cons (pe_glob (v := .ref (He.ga K "NoLand")) rfl T.g_NoLand rfl) pa_nil))) pa_nil)))))))
      (pss_one (ps_ret (pe_op op_cat (pv 1) (pe_lst (pa_cons (pe_callB (id := "isinstance") (callR_or (isi (K := K)) (isK (K := K))) (by rfl) T.z_isinstance (by decide +kernel) (pa_cons (pv 0) (pa_cons (pe_glob (v := .ref (He.ga K "LandTwice")) rfl T.g_LandTwice rfl) pa_nil))) (pa_cons (pe_callB (id := "isinstance") (callR_or (isi (K := K)) (isK (K := K))) (by rfl) T.z_isinstance (by decide +kernel) (pa_cons (pv 0) (pa_cons (pe_glob (v := .ref (He.ga K "NoBottom")) rfl T.g_NoBottom rfl) pa_nil))) (pa_cons (pe_callB (id := "isinstance") (callR_or (isi (K := K)) (isK (K := K))) (by rfl) T.z_isinstance (by decide +kernel) (pa_cons (pv 0) (pa_cons (pe_glob (v := .ref (He.ga K "NothingBack")) rfl T.g_NothingBack rfl) pa_nil))) pa_nil))))))))), ?_⟩
    obtain ⟨k0, k1, k2, k3, k4, k5, k6, k7, k8, k9, k10⟩ := k
    walk_at "w"
    refine .inr ⟨_, _, _, _, _, rfl, e1, (fun u r => r), k0, ?_⟩
    walk_at "w"
    refine .inr ⟨_, _, _, _, _, rfl, e1, (fun u r => r), k1, ?_⟩
    walk_at "w"
    refine .inr ⟨_, _, _, _, _, rfl, e1, (fun u r => r), k2, ?_⟩
    walk_at "w"
    refine .inr ⟨_, _, _, _, _, rfl, e1, (fun u r => r), k3, ?_⟩
    
    walk_at "w"
    refine fun p1 n1 => ?_
    have e2 := e1.s (same1 n1 (u := .lst [.bl (b 0), .bl (b 1), .bl (b 2), .bl (b 3)]))
    walk_at "w"
    refine .inr ⟨_, _, _, _, _, rfl, e2, (fun u r => r), k4, ?_⟩
    walk_at "w"
    refine .inr ⟨_, _, _, _, _, rfl, e2, (fun u r => r), k5, ?_⟩
    walk_at "w"
    refine .inr ⟨_, _, _, _, _, rfl, e2, (fun u r => r), k6, ?_⟩
    walk_at "w"
    refine .inr ⟨_, _, _, _, _, rfl, e2, (fun u r => r), k7, ?_⟩
    
    walk_at "w"
    refine fun p2 n2 => ?_
    walk_at "w"
    all_goals try refine ⟨up1 n2 upd_same, upd_same, by show 8 ≤ sizeLine; decide, fun p3 n3 => ?_⟩
    generalize hG : upd _ p3 _ = H3
    have s3 : Same H H3 := by rw [← hG]; exact ((same1 n1 : Same H _).up n2).up n3
    have g3 : H3 p3 = some (.lst [.bl (b 0), .bl (b 1), .bl (b 2), .bl (b 3), .bl (b 4), .bl (b 5), .bl (b 6), .bl (b 7)]) := by rw [← hG]; exact upd_same
    have e3 := e1.s s3
    walk_at "w"
    refine .inr ⟨_, _, _, _, _, rfl, e3, (fun u r => r), k8, ?_⟩
    walk_at "w"
    refine .inr ⟨_, _, _, _, _, rfl, e3, (fun u r => r), k9, ?_⟩
    walk_at "w"
    refine .inr ⟨_, _, _, _, _, rfl, e3, (fun u r => r), k10, ?_⟩
    
    walk_at "w"
    refine fun p4 n4 => ?_
    walk_at "w"
    all_goals try refine ⟨up1 n4 g3, upd_same, by show 11 ≤ sizeLine; decide, fun p5 n5 => ?_⟩
    exact q _ _ ((s3.up n4).up n5) upd_same
theorem ok_l_families {P : Program} {w : World} {K : PySem.W.Frag} {mg : Str → Option Value} {base : Heap} {φ : Fds} (T : Txt P K mg φ) : FnOk P w K mg base CX0 1 (He.fAd K ("_law_families", none)) φ.l_families p_l_families (sp_fams K) := by
  refine T.f_l_families.ok sc_l_families (fun vs H Q E h => ?_) (fun cdv A outer s H vs Q E hr h => ?_)
  · obtain ⟨a, D, b, rfl, e1, k, q⟩ := h; rfl
  · obtain ⟨a, D, b, rfl, e1, k, q⟩ := h
    refine ⟨_, PSs.nox (pss_cons (ps_set (i := 1) sc_l_families.nd rfl (Or.inl rfl) (pe_lst (pa_cons (pe_callB (id := "isinstance") (callR_or (isi (K := K)) (isK (K := K))) (by rfl) T.z_isinstance (by decide +kernel) (pa_cons (pv 0) (pa_cons (pe_glob (v := .ref (He.ga K "LadderError")) rfl T.g_LadderError rfl) pa_nil))) (pa_cons (pe_callB (id := "isinstance") (callR_or (isi (K := K)) (isK (K := K))) (by rfl) T.z_isinstance (by decide +kernel) (pa_cons (pv 0) (pa_cons (pe_bltn (v := .ty "ValueError") rfl T.z_ValueError (by decide +kernel) rfl) pa_nil))) (pa_cons (pe_callB (id := "isinstance") (callR_or (isi (K := K)) (isK (K := K))) (by rfl) T.z_isinstance (by decide +kernel) (pa_cons (pv 0) (pa_cons (pe_glob (v := .ref (He.ga K "LandError")) rfl T.g_LandError rfl) pa_nil))) pa_nil)))))
      (pss_one (ps_ret (pe_op op_cat (pv 1) (pe_lst (pa_cons (pe_callB (id := "isinstance") (callR_or (isi (K := K)) (isK (K := K))) (by rfl) T.z_isinstance (by decide +kernel) (pa_cons (pv 0) (pa_cons (pe_bltn (v := .ty "LookupError") rfl T.z_LookupError (by decide +kernel) rfl) pa_nil))) (pa_cons (pe_callB (id := "isinstance") (callR_or (isi (K := K)) (isK (K := K))) (by rfl) T.z_isinstance (by decide +kernel) (pa_cons (pv 0) (pa_cons (pe_bltn (v := .ty "ZeroDivisionError") rfl T.z_ZeroDivisionError (by decide +kernel) rfl) pa_nil))) (pa_cons (pe_callB (id := "isinstance") (callR_or (isi (K := K)) (isK (K := K))) (by rfl) T.z_isinstance (by decide +kernel) (pa_cons (pv 0) (pa_cons (pe_bltn (v := .ty "IndexError") rfl T.z_IndexError (by decide +kernel) rfl) pa_nil))) pa_nil)))))))), ?_⟩
    obtain ⟨k0, k1, k2, k3, k4, k5⟩ := k
    walk_at "w"
    refine .inr ⟨_, _, _, _, _, rfl, e1, (fun u r => r), k0, ?_⟩
    walk_at "w"
    refine .inr ⟨_, _, _, _, _, rfl, e1, (fun u r => r), k1, ?_⟩
    walk_at "w"
    refine .inr ⟨_, _, _, _, _, rfl, e1, (fun u r => r), k2, ?_⟩
    
    walk_at "w"
    refine fun p1 n1 => ?_
    have e2 := e1.s (same1 n1 (u := .lst [.bl (b 0), .bl (b 1), .bl (b 2)]))
    walk_at "w"
    refine .inr ⟨_, _, _, _, _, rfl, e2, (fun u r => r), k3, ?_⟩
    walk_at "w"
    refine .inr ⟨_, _, _, _, _, rfl, e2, (fun u r => r), k4, ?_⟩
    walk_at "w"
    refine .inr ⟨_, _, _, _, _, rfl, e2, (fun u r => r), k5, ?_⟩
    
    walk_at "w"
    refine fun p2 n2 => ?_
    walk_at "w"
    all_goals try refine ⟨up1 n2 upd_same, upd_same, by show 6 ≤ sizeLine; decide, fun p3 n3 => ?_⟩
    exact q _ _ (((same1 n1 : Same H _).up n2).up n3) upd_same
theorem ok_l_kinds_right {P : Program} {w : World} {K : PySem.W.Frag} {mg : Str → Option Value} {base : Heap} {φ : Fds} (T : Txt P K mg φ) : FnOk P w K mg base CX0 2 (He.fAd K ("_law_kinds_right", none)) φ.l_kinds_right p_l_kinds_right (sp_kinds K) := by
  obtain ⟨_, B0v, B0⟩ := b_l_own_1 T
  obtain ⟨_, B1v, B1⟩ := b_l_families_1 T
  refine T.f_l_kinds_right.ok sc_l_kinds_right (fun vs H Q E h => ?_) (fun cdv A outer s H vs Q E hr h => ?_)
  · obtain ⟨p, xs, rfl, hp, lx, he, q⟩ := h; rfl
  · obtain ⟨p, xs, rfl, hp, lx, he, q⟩ := h
    refine ⟨_, PSs.nox (pss_cons (ps_for PassesOwn.never rfl (pi_enum (by rfl) T.z_enumerate (pa_cons (pv 0) pa_nil)) (pg_tup rfl (pgs_cons (pg_name (i := 1) sc_l_kinds_right.nd rfl (Or.inr rfl)) (pgs_cons (pg_name (i := 2) sc_l_kinds_right.nd rfl (Or.inl rfl)) pgs_nil)))
      (pss_cons (ps_if (pt_cmpR (neDK (K := K) hr.units) (pe_call (ok_l_own (K := K) T) (hr.mono (by decide)) rfl T.g_l_own T.f_l_own.kp B0 B0v pass0 (pa_cons (pv 2) pa_nil)) (pe_lc (own := [("_law_place", 4)]) (g := gName 4) rfl sc_l_kinds_right.nd (pi_range1 rfl T.z_range (pa_cons pe_int pa_nil)) (blkOk_by (own := [("_law_place", 4)]) (N := N_l_kinds_right) (sc := (defScope s_l_kinds_right)) (by decide +kernel)) (fun _ _ _ _ _ => (pg_name (i := 4) sc_l_kinds_right.nd rfl (Or.inl rfl))) (fun _ _ _ _ _ => pts_nil) (fun _ _ _ _ _ => (pe_cmpR op_eq (pv 1) (pv 4) (nomark _)))) (nomark _))
      (pss_one (ps_ret pe_bl))
      pss_nil)
      (pss_cons (ps_set (i := 3) sc_l_kinds_right.nd rfl (Or.inl rfl) (pe_lst (pa_cons (pe_cmpR op_lt (pv 1) pe_int (nomark _)) (pa_cons (pe_cmpR op_lt (pv 1) pe_int (nomark _)) (pa_cons (pe_cut (pe_chain op_le op_lt pe_int (pv 1) pe_int)) (pa_cons (pe_cut (pe_or (pe_cut (pe_chain op_le op_lt pe_int (pv 1) pe_int)) (pe_one (pe_cmpR op_eq (pv 1) pe_int (nomark _))))) (pa_cons (pe_cmpR op_eq (pv 1) pe_int (nomark _)) (pa_cons (pe_cmpR op_eq (pv 1) pe_int (nomark _)) pa_nil))))))))
      (pss_one (ps_if (pt_cmpR (neDK (K := K) hr.units) (pe_call (ok_l_families (K := K) T) (hr.mono (by decide)) rfl T.g_l_families T.f_l_families.kp B1 B1v pass0 (pa_cons (pv 2) pa_nil)) (pv 3) (nomark _))
      (pss_one (ps_ret pe_bl))
      pss_nil)))))
      (pss_one (ps_ret pe_bl))), ?_⟩
    walk_at "w"
    refine for_it walk_enum (fun i σ H' => (∃ v1 v2 v3 : Option V, σ = [some (.ref p), v1, v2, v3, none]) ∧ Same H H') ⟨⟨_, _, _, rfl⟩, Same.refl _⟩ (fun i σ H' _ q => q.2.seq (SqL.of hp)) ?_ ?_
    · rintro i x σ H1 H2 hi ⟨⟨v1, v2, v3, rfl⟩, s1⟩ ⟨TT, a0, b0, rfl, nT, rfl, ha, hb0⟩
      cases ha
      rw [List.length_map] at hi
      have hi2 : i < 11 := by omega
      have hb0 : (List.map V.ref xs)[i]? = some b0 := hb0
      rw [List.getElem?_map, List.getElem?_eq_getElem hi] at hb0
      cases hb0
      have s2 : Same H (upd H1 TT (.tup [.int (i : Nat), .ref xs[i]])) := s1.trans (same1 nT)
      have eA := (he i _ (List.getElem?_eq_getElem hi)).s s2
      generalize xs[i] = a at eA s2 ⊢
      refine ⟨TT, _, rfl, SqT.of upd_same, rfl, _, _, rfl, _, _, rfl, rfl, ?_⟩
      generalize upd H1 TT _ = H2 at eA s2 ⊢
      walk_at "w"
      refine ⟨_, rfl, eA, kos T i hi2, fun p1 H3 s3 h3 => ?_⟩
      walk_at "w"
      intro D nD
      refine lcz walk_range (fun _ _ _ _ => trivial) ((List.range 11).map fun j => some (V.bl (decide (i = j)))) rfl (szs (by decide)) trivial nD (fun j x H4 H5 o N M hj ho s4 y hN hM => ?_) (fun H4 s4 hD => ?_)
      · obtain ⟨rfl, rfl⟩ := y
        refine ⟨rfl, yesT ?_⟩
        walk_at "w"
        refine hN _ _ ?_ (Same.refl _)
        have hj : j < 11 := hj
        rw [List.getElem?_map, List.getElem?_range hj] at ho
        cases ho
        exact congrArg (fun z => some (V.bl z)) (decide_eq_decide.mpr ⟨fun e => by rw [e]; show V.int _ = V.int (0 + _); rw [Int.zero_add], fun e => by
          have e : V.int (i : Int) = V.int (0 + (j : Int)) := e
          injection e with e
          omega⟩)
      · have hD2 : H4 D = some (.lst (((List.range 11).map fun j => decide (i = j)).map V.bl)) := hD
        have h34 : H4 p1 = some (.lst (((List.range 11).map fun j => decide (i = j)).map V.bl)) := s4 _ _ h3
        refine neB ((List.range 11).map fun j => decide (i = j)) h34 hD2 ?_
        walk_at "w"
        refine ⟨fun v G => G = H4 ∧ v = .bl (fm74 i 2), ?_, ?_⟩
        · walk_at "w"
          refine ite2 (fun e => ?_) (fun e => ?_)
          · walk_at "w"
            exact c69a e
          · exact ⟨rfl, c69b e⟩
        · rintro v G ⟨rfl, rfl⟩
          walk_at "w"
          refine ⟨fun v G' => G' = G ∧ v = .bl (fm74 i 3), ?_, ?_⟩
          · walk_at "w"
            refine ⟨fun v G' => G' = G ∧ v = .bl (fm74 i 2), ?_, ?_⟩
            · walk_at "w"
              refine ite2 (fun e => ?_) (fun e => ?_)
              · walk_at "w"
                exact c69a e
              · exact ⟨rfl, c69b e⟩
            · rintro v G ⟨rfl, rfl⟩
              walk_at "w"
              refine ite2 (fun e => ⟨rfl, ?_⟩) (fun e => ?_)
              · show V.bl true = V.bl (fm74 i 2 || decide (i = 10))
                rw [e]
                rfl
              · walk_at "w"
                show V.bl (decide (V.int (i : Int) = V.int ((10 : Nat) : Int))) = V.bl (fm74 i 2 || decide (i = 10))
                rw [vI, eq_false_of_ne_true e]
                rfl
          · rintro v G ⟨rfl, rfl⟩
            walk_at "w"
            refine fun p2 n2 => ?_
            rw [due74]
            have s5 : Same H2 G := s3.trans s4
            have eB := eA.s (s5.up n2 (u := .lst (((List.range 6).map (fm74 i)).map V.bl)))
            walk_at "w"
            refine ⟨_, rfl, eB, kfs T i hi2, fun p3 H6 s6 h6 => ?_⟩
            walk_at "w"
            have h62 : H6 p3 = some (.lst (((List.range 6).map (fm74 i)).map V.bl)) := h6
            refine neB ((List.range 6).map (fm74 i)) h62 (s6 _ _ upd_same) ?_
            walk_at "w"
            exact ⟨⟨_, _, _, rfl⟩, s2.trans ((s5.up n2).trans s6)⟩
    · rintro σ H1 ⟨⟨v1, v2, v3, rfl⟩, s1⟩
      exact q _ s1
theorem ok_l_thing {P : Program} {w : World} {K : PySem.W.Frag} {mg : Str → Option Value} {base : Heap} {φ : Fds} (T : Txt P K mg φ) : FnOk P w K mg base CX0 2 (He.fAd K ("_law_thing", none)) φ.l_thing p_l_thing (sp_thing74 K) := by
  obtain ⟨_, B0v, B0⟩ := b_l_take_2 T
  refine T.f_l_thing.ok sc_l_thing (fun vs H Q E h => ?_) (fun cdv A outer s H vs Q E hr h => ?_)
  · obtain ⟨h, n, rfl, hh, hn, k⟩ := h; rfl
  · obtain ⟨h, n, rfl, hh, hn, k⟩ := h
    refine ⟨_, PSs.nox (pss_cons (ps_set (i := 1) sc_l_thing.nd rfl (Or.inl rfl) (pe_lst (pa_cons pe_non (pa_cons pe_bl (pa_cons pe_int (pa_cons pe_int (pa_cons (pe_un un_neg pe_int) (pa_cons (pe_op op_pow pe_int pe_int) (pa_cons pe_str (pa_cons pe_str (pa_cons pe_str (pa_cons (pe_tup (pa_cons pe_int (pa_cons pe_int pa_nil))) (pa_cons (pe_tup pa_nil) (pa_cons (pe_lst (pa_cons pe_int pa_nil)) (pa_cons pe_dnewK (pa_cons (pe_tup (pa_cons pe_non (pa_cons pe_str pa_nil))) pa_nil))))))))))))))))
      (pss_one (ps_ret (pe_ix (ixl (K := K)) (pv 1) (pe_call (ok_l_take (K := K) T) (hr.mono (by decide)) rfl T.g_l_take T.f_l_take.kp B0 B0v pass0 (pa_cons (pv 0) (pa_cons pe_int pa_nil))) (fun _ _ => rfl))))), ?_⟩
    walk_at "w"
    refine ⟨⟨by decide, by decide, by decide⟩, ?_⟩
    walk_at "w"
    intro t1 n1
    walk_at "w"
    intro t2 n2
    walk_at "w"
    intro t3 n3
    walk_at "w"
    intro t4 n4
    walk_at "w"
    intro t5 n5
    walk_at "w"
    intro l1 m1
    have hne : ∀ {p : Addr} {G : Hp}, G p = none → Same H G → p ≠ h := fun e s => (hh.same s).ne e
    have S1 : Same H (upd H t1 (.tup [V.int 1, V.int 2])) := same1 n1
    have z1 : t1 ≠ h := hne n1 (Same.refl _)
    have z2 : t2 ≠ h := hne n2 S1
    have S2 := S1.up n2 (u := .tup [])
    have z3 : t3 ≠ h := hne n3 S2
    have S3 := S2.up n3 (u := .lst [V.int 1])
    have z4 : t4 ≠ h := hne n4 S3
    have S4 := S3.up n4 (u := .dK [])
    have z5 : t5 ≠ h := hne n5 S4
    have S5 := S4.up n5 (u := .tup [V.non, V.str "x"])
    have zl : l1 ≠ h := hne m1 S5
    generalize hG : upd _ l1 _ = HG
    have SG : Same H HG := by
      rw [← hG]
      exact S5.up m1
    have g1 : HG t1 = some (.tup [V.int 1, V.int 2]) := by
      rw [← hG]
      exact up1 m1 (up1 n5 (up1 n4 (up1 n3 (up1 n2 upd_same))))
    have g2 : HG t2 = some (.tup []) := by
      rw [← hG]
      exact up1 m1 (up1 n5 (up1 n4 (up1 n3 upd_same)))
    have g3 : HG t3 = some (.lst [V.int 1]) := by
      rw [← hG]
      exact up1 m1 (up1 n5 (up1 n4 upd_same))
    have g4 : HG t4 = some (.dK []) := by
      rw [← hG]
      exact up1 m1 (up1 n5 upd_same)
    have g5 : HG t5 = some (.tup [V.non, V.str "x"]) := by
      rw [← hG]
      exact up1 m1 upd_same
    have gl : HG l1 = some (.lst [.non, .bl true, .int 0, .int 7, .int (-1), .int (10 ^ 30), .str "", .str "land", .str "a b", .ref t1, .ref t2, .ref t3, .ref t4, .ref t5]) := by
      rw [← hG]
      exact upd_same
    have hhG := hh.same SG
    clear hG
    have dl : ∀ {p : Addr} {o : HO}, p ≠ h → HG p = some o → delH HG h p = some o := fun z e => by rw [delH_ne z]; exact e
    have al : DpEAll K (delH HG h) [.non, .bl true, .int 0, .int 7, .int (-1), .int (10 ^ 30), .str "", .str "land", .str "a b", .ref t1, .ref t2, .ref t3, .ref t4, .ref t5] th74 :=
      .cons .non (.cons (.bl _) (.cons (.int _) (.cons (.int _) (.cons (.int _) (.cons (.int _) (.cons (.str _) (.cons (.str _) (.cons (.str _) (.cons (.tup (SqT.of (dl z1 g1)) (.cons (.int _) (.cons (.int _) .nil)))
        (.cons (.tup (SqT.of (dl z2 g2)) .nil) (.cons (.lst (SqL.of (dl z3 g3)) (.cons (.int _) .nil)) (.cons (.emp (dl z4 g4)) (.cons (.tup (SqT.of (dl z5 g5)) (.cons .non (.cons (.str _) .nil))) .nil)))))))))))))
    clear g1 g2 g3 g4 g5 n1 n2 n3 n4 n5 m1 S1 S2 S3 S4 S5 z1 z2 z3 z4 z5
    have lx := al.len
    rw [show th74.length = 14 from rfl] at lx
    generalize ([.non, .bl true, .int 0, .int 7, .int (-1), .int (10 ^ 30), .str "", .str "land", .str "a b", .ref t1, .ref t2, .ref t3, .ref t4, .ref t5] : List V) = xs at gl al lx
    walk_at "w"
    intro d HB d0 d1 hhB kB
    obtain ⟨j, rfl⟩ : ∃ j : Nat, d = (j : Int) := ⟨d.toNat, by omega⟩
    have hj : j < xs.length := by omega
    have kk : Kp h H HB := fun b o e z => kB b o (SG _ _ e) z
    obtain ⟨dd, ed, ev⟩ := al.at (List.getElem?_eq_getElem hj)
    exact ⟨l1, xs, (j : Int), xs[j], rfl, rfl, SqL.of (kB _ _ gl zl), atI_nat (List.getElem?_eq_getElem hj), k _ _ _ (ev.same (kp_d kB)) (List.mem_of_getElem? ed) hhB kk⟩
theorem ok_l_values_right {P : Program} {w : World} {K : PySem.W.Frag} {mg : Str → Option Value} {base : Heap} {φ : Fds} (T : Txt P K mg φ)   : FnG P w K mg base CX0 3 (He.fAd K ("_law_values_right", none)) φ.l_values_right p_l_values_right (sp_vals K) := by
  obtain ⟨_, B0v, B0⟩ := b_l_thing_1 T
  obtain ⟨_, B1v, B1⟩ := b_l_take_2 T
  obtain ⟨e_bk_NoText_init_why_row, b_bk_NoText_init_why_row⟩ := bk_NoText_init_why_row T
  obtain ⟨e_bs_NoText_init_2, v_bs_NoText_init_2, b_bs_NoText_init_2⟩ := bs_NoText_init_2 T
  obtain ⟨e_bs_NoText_init_1, v_bs_NoText_init_1, b_bs_NoText_init_1⟩ := bs_NoText_init_1 T
  obtain ⟨e_bk_Slip_init_row, b_bk_Slip_init_row⟩ := bk_Slip_init_row T
  obtain ⟨e_bk_NoText_init_row, b_bk_NoText_init_row⟩ := bk_NoText_init_row T
  obtain ⟨e_bk_NoLand_init_name, b_bk_NoLand_init_name⟩ := bk_NoLand_init_name T
  obtain ⟨e_bk_NoSize_init_number, b_bk_NoSize_init_number⟩ := bk_NoSize_init_number T
  obtain ⟨e_bk_LandTwice_init_name, b_bk_LandTwice_init_name⟩ := bk_LandTwice_init_name T
  refine okG T.f_l_values_right sc_l_values_right (fun vs H Q E h => ?_) (fun cdv A outer s H vs Q E hr gd h => ?_)
  · obtain ⟨h, n, rfl, hh, hn, k⟩ := h; rfl
  · obtain ⟨h, n, rfl, hh, hn, k⟩ := h
    refine ⟨_, PSs.nox (pss_cons (ps_cut (ps_par3 (i := 1) (j := 2) (l := 3) rfl sc_l_values_right.nd rfl rfl rfl (by decide) (by decide) (by decide) rfl rfl rfl (pa_cons (pe_call (ok_l_thing (K := K) T) (hr.mono (by decide)) rfl T.g_l_thing T.f_l_thing.kp B0 B0v pass0 (pa_cons (pv 0) pa_nil)) (pa_cons (pe_call (ok_l_thing (K := K) T) (hr.mono (by decide)) rfl T.g_l_thing T.f_l_thing.kp B0 B0v pass0 (pa_cons (pv 0) pa_nil)) (pa_cons (pe_call (ok_l_thing (K := K) T) (hr.mono (by decide)) rfl T.g_l_thing T.f_l_thing.kp B0 B0v pass0 (pa_cons (pv 0) pa_nil)) pa_nil))) (by rfl)))
      (pss_cons (ps_cut (ps_par (i := 4) (j := 5) rfl sc_l_values_right.nd rfl rfl (by decide) rfl rfl (pa_cons (pe_call (ok_l_take (K := K) T) (hr.mono (by decide)) rfl T.g_l_take T.f_l_take.kp B1 B1v pass0 (pa_cons (pv 0) (pa_cons (pe_op op_pow pe_int pe_int) pa_nil))) (pa_cons (pe_call (ok_l_take (K := K) T) (hr.mono (by decide)) rfl T.g_l_take T.f_l_take.kp B1 B1v pass0 (pa_cons (pv 0) (pa_cons pe_int pa_nil))) pa_nil)) (by rfl)))
      (pss_cons (ps_cut (ps_par (i := 6) (j := 7) rfl sc_l_values_right.nd rfl rfl (by decide) rfl rfl (pa_cons (pe_lst (pa_cons (pe_ofmk (pmk_err1 baseVE T.sc_Slip.ox T.si_Slip.it T.si_Slip.ty (ok_Slip_init T) (hr.mono (by decide)) (bs_Slip_init T) rfl T.g_Slip (pa_cons (pv 4) pa_nil))) (pa_cons (pe_ofmk (pmk_err1K baseVE T.sc_Slip.ox T.si_Slip.it T.si_Slip.ty (ok_Slip_init T) (hr.mono (by decide)) b_bk_Slip_init_row rfl T.g_Slip (pk_cons (pv 5) pk_nil))) pa_nil))) (pa_cons (pe_lst (pa_cons (pe_ofmk (pmk_err2 baseVE T.sc_NoText.ox T.si_NoText.it T.si_NoText.ty (ok_NoText_init T) (hr.mono (by decide)) b_bs_NoText_init_1 v_bs_NoText_init_1 rfl T.g_NoText (pa_cons (pv 4) pa_nil))) (pa_cons (pe_ofmk (pmk_err2 baseVE T.sc_NoText.ox T.si_NoText.it T.si_NoText.ty (ok_NoText_init T) (hr.mono (by decide)) b_bs_NoText_init_2 v_bs_NoText_init_2 rfl T.g_NoText (pa_cons (pv 5) (pa_cons pe_str pa_nil)))) (pa_cons (pe_ofmk (pmk_err2K baseVE T.sc_NoText.ox T.si_NoText.it T.si_NoText.ty (ok_NoText_init T) (hr.mono (by decide)) b_bk_NoText_init_why_row rfl T.g_NoText (pk_cons pe_str (pk_cons (pv 4) pk_nil)))) pa_nil)))) pa_nil)) (by rfl)))
      (pss_cons (ps_cut (ps_expr (pe_bm PySem.F.plainAttrs_list PySem.F.slot_list_append PySem.F.type_list_append mt_append (pv 7) (pa_cons (pe_ofmk (pmk_err2K baseVE T.sc_NoText.ox T.si_NoText.it T.si_NoText.ty (ok_NoText_init T) (hr.mono (by decide)) b_bk_NoText_init_row rfl T.g_NoText (pk_cons (pv 5) pk_nil))) pa_nil))))
      (pss_cons (ps_cut (ps_par3 (i := 8) (j := 9) (l := 10) rfl sc_l_values_right.nd rfl rfl rfl (by decide) (by decide) (by decide) rfl rfl rfl (pa_cons (pe_lst (pa_cons (pe_ofmk (pmk_err1 baseLE T.sc_NoSize.ox T.si_NoSize.it T.si_NoSize.ty (ok_NoSize_init T) (hr.mono (by decide)) (bs_NoSize_init T) rfl T.g_NoSize (pa_cons (pv 1) pa_nil))) (pa_cons (pe_ofmk (pmk_err1K baseLE T.sc_NoSize.ox T.si_NoSize.it T.si_NoSize.ty (ok_NoSize_init T) (hr.mono (by decide)) b_bk_NoSize_init_number rfl T.g_NoSize (pk_cons (pv 2) pk_nil))) pa_nil))) (pa_cons (pe_lst (pa_cons (pe_ofmk (pmk_err1 baseLE T.sc_NoLand.ox T.si_NoLand.it T.si_NoLand.ty (ok_NoLand_init T) (hr.mono (by decide)) (bs_NoLand_init T) rfl T.g_NoLand (pa_cons (pv 2) pa_nil))) (pa_cons (pe_ofmk (pmk_err1K baseLE T.sc_NoLand.ox T.si_NoLand.it T.si_NoLand.ty (ok_NoLand_init T) (hr.mono (by decide)) b_bk_NoLand_init_name rfl T.g_NoLand (pk_cons (pv 3) pk_nil))) pa_nil))) (pa_cons (pe_lst (pa_cons (pe_ofmk (pmk_err1 baseLE T.sc_LandTwice.ox T.si_LandTwice.it T.si_LandTwice.ty (ok_LandTwice_init T) (hr.mono (by decide)) (bs_LandTwice_init T) rfl T.g_LandTwice (pa_cons (pv 3) pa_nil))) pa_nil)) pa_nil))) (by rfl)))
      (pss_cons (ps_cut (ps_expr (pe_bm PySem.F.plainAttrs_list PySem.F.slot_list_append PySem.F.type_list_append mt_append (pv 10) (pa_cons (pe_ofmk (pmk_err1K baseLE T.sc_LandTwice.ox T.si_LandTwice.it T.si_LandTwice.ty (ok_LandTwice_init T) (hr.mono (by decide)) b_bk_LandTwice_init_name rfl T.g_LandTwice (pk_cons (pv 1) pk_nil))) pa_nil))))
      (pss_cons (ps_cut (ps_set (i := 11) sc_l_values_right.nd rfl (Or.inl rfl) (pe_lst (pa_cons (pe_lc (own := [("_law_e", 13)]) (g := gName 13) rfl sc_l_values_right.nd (pi_list (pv 6)) (blkOk_by (own := [("_law_e", 13)]) (N := N_l_values_right) (sc := (defScope s_l_values_right)) (by decide +kernel)) (fun _ _ _ _ _ => (pg_name (i := 13) sc_l_values_right.nd rfl (Or.inl rfl))) (fun _ _ _ _ _ => pts_nil) (fun _ _ _ _ _ => (pe_errfK (K := K) (pv 13) rfl))) (pa_cons (pe_lc (own := [("_law_e", 13)]) (g := gName 13) rfl sc_l_values_right.nd (pi_list (pv 7)) (blkOk_by (own := [("_law_e", 13)]) (N := N_l_values_right) (sc := (defScope s_l_values_right)) (by decide +kernel)) (fun _ _ _ _ _ => (pg_name (i := 13) sc_l_values_right.nd rfl (Or.inl rfl))) (fun _ _ _ _ _ => pts_nil) (fun _ _ _ _ _ => (pe_errfK (K := K) (pv 13) rfl))) (pa_cons (pe_lc (own := [("_law_e", 13)]) (g := gName 13) rfl sc_l_values_right.nd (pi_list (pv 7)) (blkOk_by (own := [("_law_e", 13)]) (N := N_l_values_right) (sc := (defScope s_l_values_right)) (by decide +kernel)) (fun _ _ _ _ _ => (pg_name (i := 13) sc_l_values_right.nd rfl (Or.inl rfl))) (fun _ _ _ _ _ => pts_nil) (fun _ _ _ _ _ => (pe_errfK (K := K) (pv 13) rfl))) (pa_cons (pe_lc (own := [("_law_e", 13)]) (g := gName 13) rfl sc_l_values_right.nd (pi_list (pv 8)) (blkOk_by (own := [("_law_e", 13)]) (N := N_l_values_right) (sc := (defScope s_l_values_right)) (by decide +kernel)) (fun _ _ _ _ _ => (pg_name (i := 13) sc_l_values_right.nd rfl (Or.inl rfl))) (fun _ _ _ _ _ => pts_nil) (fun _ _ _ _ _ => (pe_errfK (K := K) (pv 13) rfl))) pa_nil)))))))
      (pss_cons (ps_cut (ps_set (i := 11) sc_l_values_right.nd rfl (Or.inl rfl) (pe_op op_cat (pv 11) (pe_lst (pa_cons (pe_lc (own := [("_law_e", 13)]) (g := gName 13) rfl sc_l_values_right.nd (pi_list (pv 9)) (blkOk_by (own := [("_law_e", 13)]) (N := N_l_values_right) (sc := (defScope s_l_values_right)) (by decide +kernel)) (fun _ _ _ _ _ => (pg_name (i := 13) sc_l_values_right.nd rfl (Or.inl rfl))) (fun _ _ _ _ _ => pts_nil) (fun _ _ _ _ _ => (pe_errfK (K := K) (pv 13) rfl))) (pa_cons (pe_lc (own := [("_law_e", 13)]) (g := gName 13) rfl sc_l_values_right.nd (pi_list (pv 10)) (blkOk_by (own := [("_law_e", 13)]) (N := N_l_values_right) (sc := (defScope s_l_values_right)) (by decide +kernel)) (fun _ _ _ _ _ => (pg_name (i := 13) sc_l_values_right.nd rfl (Or.inl rfl))) (fun _ _ _ _ _ => pts_nil) (fun _ _ _ _ _ => (pe_errfK (K := K) (pv 13) rfl))) pa_nil))))))
      (pss_cons (ps_cut (ps_set (i := 12) sc_l_values_right.nd rfl (Or.inl rfl) (pe_lst (pa_cons (pe_lst (pa_cons (pv 4) (pa_cons (pv 5) pa_nil))) (pa_cons (pe_lst (pa_cons (pv 4) (pa_cons (pv 5) (pa_cons (pv 4) (pa_cons (pv 5) pa_nil))))) (pa_cons (pe_lst (pa_cons pe_str (pa_cons pe_str (pa_cons pe_str (pa_cons pe_str pa_nil))))) (pa_cons (pe_lst (pa_cons (pv 1) (pa_cons (pv 2) pa_nil))) (pa_cons (pe_lst (pa_cons (pv 2) (pa_cons (pv 3) pa_nil))) pa_nil))))))))
      (pss_one (ps_ret (pe_cmpR op_eq (pe_callB (id := "repr") (call_reprE T.smd gd hr) (by rfl) T.z_repr (by decide +kernel) (pa_cons (pv 11) pa_nil)) (pe_callB (id := "repr") (call_reprE T.smd gd hr) (by rfl) T.z_repr (by decide +kernel) (pa_cons (pe_op op_cat (pv 12) (pe_lst (pa_cons (pe_lst (pa_cons (pv 3) (pa_cons (pv 1) pa_nil))) pa_nil))) pa_nil)) (nomark _))))))))))))), ?_⟩
    obtain ⟨J, eJ⟩ : ∃ J, J = Ja K H h n := ⟨_, rfl⟩
    refine ⟨J, ?_, ?_⟩
    · walk_at "w"
      intro v1 d1 G1 e1 m1 hh1 k1
      walk_at "w"
      intro v2 d2 G2 e2 m2 hh2 k2
      walk_at "w"
      intro v3 d3 G3 e3 m3 hh3 k3
      walk_at "w"
      subst eJ
      exact ⟨v1, v2, v3, d1, d2, d3, rfl, e1.same ((kp_d k2).trans (kp_d k3)), m1, e2.same (kp_d k3), m2, e3, m3, hh3, (k1.trans k2).trans k3⟩
    subst eJ
    rintro σ G ⟨v1, v2, v3, d1, d2, d3, rfl, e1, m1, e2, m2, e3, m3, hh3, k3⟩
    obtain ⟨J, eJ⟩ : ∃ J, J = Jb K H h n := ⟨_, rfl⟩
    refine ⟨J, ?_, ?_⟩
    · walk_at "w"
      refine ⟨⟨by decide, by decide, by decide⟩, ?_⟩
      walk_at "w"
      refine ⟨by decide, by decide +kernel, fun a G4 a0 a1 hh4 k4 => ?_⟩
      walk_at "w"
      intro b G5 b0 b1 hh5 k5
      walk_at "w"
      subst eJ
      exact ⟨v1, v2, v3, d1, d2, d3, a, b, rfl, a0, a1, b0, b1, e1.same (((kp_d k4).trans (kp_d k5)).trans d_same), m1, e2.same (((kp_d k4).trans (kp_d k5)).trans d_same), m2, e3.same (((kp_d k4).trans (kp_d k5)).trans d_same), m3, hh5, (k3.trans k4).trans k5⟩
    subst eJ
    rintro σ G0 ⟨v1, v2, v3, d1, d2, d3, a, b, rfl, a0, a1, b0, b1, e1, m1, e2, m2, e3, m3, hh0, k0⟩
    obtain ⟨J, eJ⟩ : ∃ J, J = Jc K G0 h v1 v2 v3 a b := ⟨_, rfl⟩
    refine ⟨J, ?_, ?_⟩
    · walk_at "w"
      intro dx1 nd1 q1 nq1
      obtain ⟨t1, r1⟩ := mkE (C := He.ga K "Slip") (fs := [("row", .int a)]) nd1 nq1
      generalize upd (upd _ dx1 _) q1 _ = E1 at t1 r1 ⊢
      walk_at "w"
      refine ⟨fun _ => rfl, fun dx2 nd2 q2 nq2 => ?_⟩
      obtain ⟨t2, r2⟩ := mkE (C := He.ga K "Slip") (fs := [("row", .int b)]) nd2 nq2
      generalize upd (upd _ dx2 _) q2 _ = E2 at t2 r2 ⊢
      walk_at "w"
      intro p1 np1
      walk_at "w"
      intro dx3 nd3 q3 nq3
      obtain ⟨t3, r3⟩ := mkE (C := He.ga K "NoText") (fs := [("why", .str "form"), ("row", .int a)]) nd3 nq3
      generalize upd (upd _ dx3 _) q3 _ = E3 at t3 r3 ⊢
      walk_at "w"
      intro dx4 nd4 q4 nq4
      obtain ⟨t4, r4⟩ := mkE (C := He.ga K "NoText") (fs := [("why", .str "slip"), ("row", .int b)]) nd4 nq4
      generalize upd (upd _ dx4 _) q4 _ = E4 at t4 r4 ⊢
      walk_at "w"
      refine ⟨fun _ => rfl, fun dx5 nd5 q5 nq5 => ?_⟩
      obtain ⟨t5, r5⟩ := mkE (C := He.ga K "NoText") (fs := [("why", .str "span"), ("row", .int a)]) nd5 nq5
      generalize upd (upd _ dx5 _) q5 _ = E5 at t5 r5 ⊢
      walk_at "w"
      intro p2 np2
      walk_at "w"
      subst eJ
      have tB : Same (upd E2 p1 (.lst [.ref q1, .ref q2])) E5 := t3.trans (t4.trans t5)
      have tA : Same E2 E5 := (same1 np1 : Same E2 _).trans tB
      have t0 : Same G0 E5 := t1.trans (t2.trans tA)
      exact ⟨p1, p2, rfl, t0.up np2, sNone t0 np2, neS (tB _ _ upd_same) np2, ⟨_, up1 np2 (tB _ _ upd_same), .cons (r1.s ((t2.trans tA).up np2)) (.cons (r2.s (tA.up np2)) .nil)⟩,
        ⟨_, upd_same, .cons (r3.s ((t4.trans t5).up np2)) (.cons (r4.s (t5.up np2)) (.cons (r5.s (same1 np2)) .nil))⟩⟩
    subst eJ
    rintro σ G ⟨p1, p2, rfl, s1, n2, ne, l1, l2⟩
    obtain ⟨J, eJ⟩ : ∃ J, J = Jd K G0 h v1 v2 v3 a b := ⟨_, rfl⟩
    refine ⟨J, ?_, ?_⟩
    · obtain ⟨xs, hx, lx⟩ := l2
      walk_at "w"
      refine ⟨fun _ => rfl, fun dx6 nd6 q6 nq6 => ?_⟩
      obtain ⟨t6, r6⟩ := mkE (C := He.ga K "NoText") (fs := [("why", .str "form"), ("row", .int b)]) nd6 nq6
      generalize upd (upd _ dx6 _) q6 _ = E6 at t6 r6 ⊢
      walk_at "w"
      all_goals (try refine ⟨t6 _ _ hx, by rw [lx.len]; show 3 < sizeLine; decide, ?_⟩)
      walk_at "w"
      subst eJ
      exact ⟨p1, p2, rfl, sSet (s1.trans t6) n2, ErL.set (l1.s t6) (t6 _ _ hx) ne, _, upd_same, ((lx.s t6).set (t6 _ _ hx)).snoc (r6.set (t6 _ _ hx))⟩
    subst eJ
    rintro σ G1 ⟨p1, p2, rfl, s1, l1, l2⟩
    replace e1 := e1.same s1
    replace e2 := e2.same s1
    replace e3 := e3.same s1
    replace k0 := k0.trans (Kp.same s1)
    replace hh0 := hh0.same s1
    clear s1
    obtain ⟨J, eJ⟩ : ∃ J, J = Je K G1 h v1 v2 v3 a b p1 p2 := ⟨_, rfl⟩
    refine ⟨J, ?_, ?_⟩
    · walk_at "w"
      intro dx1 nd1 q1 nq1
      obtain ⟨t1, r1⟩ := mkE (C := He.ga K "NoSize") (fs := [("number", v1)]) nd1 nq1
      generalize upd (upd _ dx1 _) q1 _ = E1 at t1 r1 ⊢
      walk_at "w"
      refine ⟨fun _ => rfl, fun dx2 nd2 q2 nq2 => ?_⟩
      obtain ⟨t2, r2⟩ := mkE (C := He.ga K "NoSize") (fs := [("number", v2)]) nd2 nq2
      generalize upd (upd _ dx2 _) q2 _ = E2 at t2 r2 ⊢
      walk_at "w"
      intro p3 np3
      walk_at "w"
      intro dx3 nd3 q3 nq3
      obtain ⟨t3, r3⟩ := mkE (C := He.ga K "NoLand") (fs := [("name", v2)]) nd3 nq3
      generalize upd (upd _ dx3 _) q3 _ = E3 at t3 r3 ⊢
      walk_at "w"
      refine ⟨fun _ => rfl, fun dx4 nd4 q4 nq4 => ?_⟩
      obtain ⟨t4, r4⟩ := mkE (C := He.ga K "NoLand") (fs := [("name", v3)]) nd4 nq4
      generalize upd (upd _ dx4 _) q4 _ = E4 at t4 r4 ⊢
      walk_at "w"
      intro p4 np4
      walk_at "w"
      intro dx5 nd5 q5 nq5
      obtain ⟨t5, r5⟩ := mkE (C := He.ga K "LandTwice") (fs := [("name", v3)]) nd5 nq5
      generalize upd (upd _ dx5 _) q5 _ = E5 at t5 r5 ⊢
      walk_at "w"
      intro p5 np5
      walk_at "w"
      subst eJ
      have tB : Same (upd E2 p3 (.lst [.ref q1, .ref q2])) E4 := t3.trans t4
      have tA : Same E2 E4 := (same1 np3 : Same E2 _).trans tB
      have tD : Same (upd E4 p4 (.lst [.ref q3, .ref q4])) E5 := t5
      have tC : Same E4 E5 := (same1 np4 : Same E4 _).trans tD
      have t0 : Same G1 E5 := t1.trans (t2.trans (tA.trans tC))
      have g3 := tC _ _ (tB _ _ upd_same)
      have g4 := tD _ _ upd_same
      exact ⟨p3, p4, p5, rfl, t0.up np5, sNone t0 np5, neS g3 np5, neS g4 np5, ⟨_, up1 np5 g3, .cons (r1.s ((t2.trans (tA.trans tC)).up np5)) (.cons (r2.s ((tA.trans tC).up np5)) .nil)⟩,
        ⟨_, up1 np5 g4, .cons (r3.s ((t4.trans tC).up np5)) (.cons (r4.s (tC.up np5)) .nil)⟩, ⟨_, upd_same, .cons (r5.s (same1 np5)) .nil⟩⟩
    subst eJ
    rintro σ G ⟨p3, p4, p5, rfl, s1, n5, ne3, ne4, l3, l4, l5⟩
    obtain ⟨J, eJ⟩ : ∃ J, J = Jf K G1 h v1 v2 v3 a b p1 p2 := ⟨_, rfl⟩
    refine ⟨J, ?_, ?_⟩
    · obtain ⟨xs, hx, lx⟩ := l5
      walk_at "w"
      refine ⟨fun _ => rfl, fun dx6 nd6 q6 nq6 => ?_⟩
      obtain ⟨t6, r6⟩ := mkE (C := He.ga K "LandTwice") (fs := [("name", v1)]) nd6 nq6
      generalize upd (upd _ dx6 _) q6 _ = E6 at t6 r6 ⊢
      walk_at "w"
      all_goals (try refine ⟨t6 _ _ hx, by rw [lx.len]; show 1 < sizeLine; decide, ?_⟩)
      walk_at "w"
      subst eJ
      exact ⟨p3, p4, p5, rfl, sSet (s1.trans t6) n5, ErL.set (l3.s t6) (t6 _ _ hx) ne3, ErL.set (l4.s t6) (t6 _ _ hx) ne4, _, upd_same, ((lx.s t6).set (t6 _ _ hx)).snoc (r6.set (t6 _ _ hx))⟩
    subst eJ
    rintro σ G2 ⟨p3, p4, p5, rfl, s1, l3, l4, l5⟩
    replace e1 := e1.same s1
    replace e2 := e2.same s1
    replace e3 := e3.same s1
    replace k0 := k0.trans (Kp.same s1)
    replace hh0 := hh0.same s1
    replace l1 := l1.s s1
    replace l2 := l2.s s1
    clear s1
    obtain ⟨J, eJ⟩ : ∃ J, J = Jg K G2 h v1 v2 v3 a b p1 p2 p3 p4 p5 (ds4 a b d1 d2) := ⟨_, rfl⟩
    refine ⟨J, ?_, ?_⟩
    · obtain ⟨x1, h1, f1⟩ := l1
      obtain ⟨x2, h2, f2⟩ := l2
      obtain ⟨x3, h3, f3⟩ := l3
      walk_at "w"
      intro D1 nD1
      refine lcs [.int a, .int b] (by rw [(f1).len]; rfl) (by show 2 < sizeLine; decide) (SqL.of h1) nD1 (fun i x y Hc N M hx hy sc hN => ?_) (fun H1 s1 hD1 => ?_)
      · obtain ⟨fs, z1, z2⟩ : ∃ fs : List (Str × V), ([[("row", V.int a)], [("row", V.int b)]] : List (List (Str × V)))[i]? = some fs ∧ fs.lookup ("row" : Str) = some y := by
          rcases i with _ | _ | i
          · cases hy; exact ⟨_, rfl, rfl⟩
          · cases hy; exact ⟨_, rfl, rfl⟩
          · simp at hy
        obtain ⟨aa, dd, rfl, g1, g2⟩ := ((f1).at hx z1).s sc
        refine ⟨rfl, yesT ?_⟩
        walk_at "w"
        all_goals (try exact ⟨T.xn_Slip_row, g2, z2, hN _ (Same.refl _)⟩)
      walk_at "w"
      have S1 : Same G2 H1 := s1
      refine ⟨⟨_, SqL.of (S1 _ _ h2)⟩, ?_⟩
      walk_at "w"
      intro D2 nD2
      refine lcs [.int a, .int b, .int a, .int b] (by rw [(f2.s S1).len]; rfl) (by show 4 < sizeLine; decide) (SqL.of (S1 _ _ h2)) nD2 (fun i x y Hc N M hx hy sc hN => ?_) (fun H2 s2 hD2 => ?_)
      · obtain ⟨fs, z1, z2⟩ : ∃ fs : List (Str × V), (TX a b ++ TX1 b : List (List (Str × V)))[i]? = some fs ∧ fs.lookup ("row" : Str) = some y := by
          rcases i with _ | _ | _ | _ | i
          · cases hy; exact ⟨_, rfl, rfl⟩
          · cases hy; exact ⟨_, rfl, rfl⟩
          · cases hy; exact ⟨_, rfl, rfl⟩
          · cases hy; exact ⟨_, rfl, rfl⟩
          · simp at hy
        obtain ⟨aa, dd, rfl, g1, g2⟩ := ((f2.s S1).at hx z1).s sc
        refine ⟨rfl, yesT ?_⟩
        walk_at "w"
        all_goals (try exact ⟨T.xn_NoText_row, g2, z2, hN _ (Same.refl _)⟩)
      walk_at "w"
      have S2 : Same G2 H2 := S1.trans s2
      refine ⟨⟨_, SqL.of (S2 _ _ h2)⟩, ?_⟩
      walk_at "w"
      intro D3 nD3
      refine lcs [.str "form", .str "slip", .str "span", .str "form"] (by rw [(f2.s S2).len]; rfl) (by show 4 < sizeLine; decide) (SqL.of (S2 _ _ h2)) nD3 (fun i x y Hc N M hx hy sc hN => ?_) (fun H3 s3 hD3 => ?_)
      · obtain ⟨fs, z1, z2⟩ : ∃ fs : List (Str × V), (TX a b ++ TX1 b : List (List (Str × V)))[i]? = some fs ∧ fs.lookup ("why" : Str) = some y := by
          rcases i with _ | _ | _ | _ | i
          · cases hy; exact ⟨_, rfl, rfl⟩
          · cases hy; exact ⟨_, rfl, rfl⟩
          · cases hy; exact ⟨_, rfl, rfl⟩
          · cases hy; exact ⟨_, rfl, rfl⟩
          · simp at hy
        obtain ⟨aa, dd, rfl, g1, g2⟩ := ((f2.s S2).at hx z1).s sc
        refine ⟨rfl, yesT ?_⟩
        walk_at "w"
        all_goals (try exact ⟨T.xn_NoText_why, g2, z2, hN _ (Same.refl _)⟩)
      walk_at "w"
      have S3 : Same G2 H3 := S2.trans s3
      refine ⟨⟨_, SqL.of (S3 _ _ h3)⟩, ?_⟩
      walk_at "w"
      intro D4 nD4
      refine lcs [v1, v2] (by rw [(f3.s S3).len]; rfl) (by show 2 < sizeLine; decide) (SqL.of (S3 _ _ h3)) nD4 (fun i x y Hc N M hx hy sc hN => ?_) (fun H4 s4 hD4 => ?_)
      · obtain ⟨fs, z1, z2⟩ : ∃ fs : List (Str × V), (SZ v1 v2 : List (List (Str × V)))[i]? = some fs ∧ fs.lookup ("number" : Str) = some y := by
          rcases i with _ | _ | i
          · cases hy; exact ⟨_, rfl, rfl⟩
          · cases hy; exact ⟨_, rfl, rfl⟩
          · simp at hy
        obtain ⟨aa, dd, rfl, g1, g2⟩ := ((f3.s S3).at hx z1).s sc
        refine ⟨rfl, yesT ?_⟩
        walk_at "w"
        all_goals (try exact ⟨T.xn_NoSize_number, g2, z2, hN _ (Same.refl _)⟩)
      walk_at "w"
      intro p6 np6
      walk_at "w"
      subst eJ
      have S4 : Same G2 H4 := S3.trans s4
      exact ⟨p6, rfl, S4.up np6, _, upd_same, .cons (.lst (SqL.of (up1 np6 (s4 _ _ (s3 _ _ (s2 _ _ hD1))))) (.cons (.int _) (.cons (.int _) .nil))) (.cons (.lst (SqL.of (up1 np6 (s4 _ _ (s3 _ _ hD2)))) (.cons (.int _) (.cons (.int _) (.cons (.int _) (.cons (.int _) .nil))))) (.cons (.lst (SqL.of (up1 np6 (s4 _ _ hD3))) (.cons (.str _) (.cons (.str _) (.cons (.str _) (.cons (.str _) .nil))))) (.cons (.lst (SqL.of (up1 np6 hD4)) (.cons (e1.same (S4.up np6)) (.cons (e2.same (S4.up np6)) .nil))) .nil)))⟩
    subst eJ
    rintro σ G3 ⟨p6, rfl, s1, l6⟩
    replace e1 := e1.same s1
    replace e2 := e2.same s1
    replace e3 := e3.same s1
    replace k0 := k0.trans (Kp.same s1)
    replace hh0 := hh0.same s1
    replace l4 := l4.s s1
    replace l5 := l5.s s1
    clear s1 l1 l2 l3
    obtain ⟨J, eJ⟩ : ∃ J, J = Jg K G3 h v1 v2 v3 a b p1 p2 p3 p4 p5 (ds4 a b d1 d2 ++ [.list [d2, d3], .list [d3, d1]]) := ⟨_, rfl⟩
    refine ⟨J, ?_, ?_⟩
    · obtain ⟨x4, h4, f4⟩ := l4
      obtain ⟨x5, h5, f5⟩ := l5
      obtain ⟨x6, h6, g6⟩ := l6
      walk_at "w"
      intro D1 nD1
      refine lcs [v2, v3] (by rw [(f4).len]; rfl) (by show 2 < sizeLine; decide) (SqL.of h4) nD1 (fun i x y Hc N M hx hy sc hN => ?_) (fun H1 s1 hD1 => ?_)
      · obtain ⟨fs, z1, z2⟩ : ∃ fs : List (Str × V), (LN v2 v3 : List (List (Str × V)))[i]? = some fs ∧ fs.lookup ("name" : Str) = some y := by
          rcases i with _ | _ | i
          · cases hy; exact ⟨_, rfl, rfl⟩
          · cases hy; exact ⟨_, rfl, rfl⟩
          · simp at hy
        obtain ⟨aa, dd, rfl, g1, g2⟩ := ((f4).at hx z1).s sc
        refine ⟨rfl, yesT ?_⟩
        walk_at "w"
        all_goals (try exact ⟨T.xn_NoLand_name, g2, z2, hN _ (Same.refl _)⟩)
      walk_at "w"
      have S1 : Same G3 H1 := s1
      refine ⟨⟨_, SqL.of (S1 _ _ h5)⟩, ?_⟩
      walk_at "w"
      intro D2 nD2
      refine lcs [v3, v1] (by rw [(f5.s S1).len]; rfl) (by show 2 < sizeLine; decide) (SqL.of (S1 _ _ h5)) nD2 (fun i x y Hc N M hx hy sc hN => ?_) (fun H2 s2 hD2 => ?_)
      · obtain ⟨fs, z1, z2⟩ : ∃ fs : List (Str × V), (LN v3 v1 : List (List (Str × V)))[i]? = some fs ∧ fs.lookup ("name" : Str) = some y := by
          rcases i with _ | _ | i
          · cases hy; exact ⟨_, rfl, rfl⟩
          · cases hy; exact ⟨_, rfl, rfl⟩
          · simp at hy
        obtain ⟨aa, dd, rfl, g1, g2⟩ := ((f5.s S1).at hx z1).s sc
        refine ⟨rfl, yesT ?_⟩
        walk_at "w"
        all_goals (try exact ⟨T.xn_LandTwice_name, g2, z2, hN _ (Same.refl _)⟩)
      walk_at "w"
      have S2 : Same G3 H2 := S1.trans s2
      intro p7 np7
      walk_at "w"
      all_goals (try refine ⟨up1 np7 (S2 _ _ h6), upd_same, by rw [g6.len]; show 6 ≤ sizeLine; decide, fun p8 np8 => ?_⟩)
      walk_at "w"
      subst eJ
      have S3 : Same G3 (upd (upd H2 p7 (.lst [.ref D1, .ref D2])) p8 (.lst (x6 ++ [.ref D1, .ref D2]))) := (S2.up np7).up np8
      exact ⟨p8, rfl, S3, _, upd_same, apE (g6.same S3) (.cons (.lst (SqL.of (up1 np8 (up1 np7 (s2 _ _ hD1)))) (.cons (e2.same S3) (.cons (e3.same S3) .nil))) (.cons (.lst (SqL.of (up1 np8 (up1 np7 hD2))) (.cons (e3.same S3) (.cons (e1.same S3) .nil))) .nil))⟩
    subst eJ
    rintro σ G4 ⟨p7, rfl, s1, l7⟩
    replace e1 := e1.same s1
    replace e2 := e2.same s1
    replace e3 := e3.same s1
    replace k0 := k0.trans (Kp.same s1)
    replace hh0 := hh0.same s1
    clear s1 l4 l5 l6
    obtain ⟨J, eJ⟩ : ∃ J, J = Ji K G4 h v1 v2 v3 a b p1 p2 p3 p4 p5 p7 (ds4 a b d1 d2 ++ [.list [d2, d3]]) := ⟨_, rfl⟩
    refine ⟨J, ?_, ?_⟩
    · walk_at "w"
      intro c1 nc1
      walk_at "w"
      intro c2 nc2
      walk_at "w"
      intro c3 nc3
      walk_at "w"
      intro c4 nc4
      walk_at "w"
      intro c5 nc5
      walk_at "w"
      intro c6 nc6
      walk_at "w"
      subst eJ
      generalize hG : upd _ c6 _ = G6
      have S6 : Same G4 G6 := by rw [← hG]; exact (((((same1 nc1 : Same G4 _).up nc2).up nc3).up nc4).up nc5).up nc6
      have u6 : G6 c6 = some (.lst [.ref c1, .ref c2, .ref c3, .ref c4, .ref c5]) := by rw [← hG]; exact upd_same
      have u5 : G6 c5 = some (.lst [v2, v3]) := by rw [← hG]; exact up1 nc6 upd_same
      have u4 : G6 c4 = some (.lst [v1, v2]) := by rw [← hG]; exact up1 nc6 (up1 nc5 upd_same)
      have u3 : G6 c3 = some (.lst [.str "form", .str "slip", .str "span", .str "form"]) := by rw [← hG]; exact up1 nc6 (up1 nc5 (up1 nc4 upd_same))
      have u2 : G6 c2 = some (.lst [.int a, .int b, .int a, .int b]) := by rw [← hG]; exact up1 nc6 (up1 nc5 (up1 nc4 (up1 nc3 upd_same)))
      have u1 : G6 c1 = some (.lst [.int a, .int b]) := by rw [← hG]; exact up1 nc6 (up1 nc5 (up1 nc4 (up1 nc3 (up1 nc2 upd_same))))
      exact ⟨c6, rfl, S6, _, u6, .cons (.lst (SqL.of u1) (.cons (.int _) (.cons (.int _) .nil))) (.cons (.lst (SqL.of u2) (.cons (.int _) (.cons (.int _) (.cons (.int _) (.cons (.int _) .nil))))) (.cons (.lst (SqL.of u3) (.cons (.str _) (.cons (.str _) (.cons (.str _) (.cons (.str _) .nil))))) (.cons (.lst (SqL.of u4) (.cons (e1.same S6) (.cons (e2.same S6) .nil))) (.cons (.lst (SqL.of u5) (.cons (e2.same S6) (.cons (e3.same S6) .nil))) .nil))))⟩
    subst eJ
    rintro σ G5 ⟨p8, rfl, s1, l8⟩
    replace e1 := e1.same s1
    replace e2 := e2.same s1
    replace e3 := e3.same s1
    replace k0 := k0.trans (Kp.same s1)
    replace hh0 := hh0.same s1
    replace l7 := l7.s s1
    obtain ⟨w1, w2, w3⟩ := dat74 a0 a1 b0 b1 m1 m2 m3
    walk_at "w"
    all_goals (try refine ⟨_, rfl, l7.dp, w1, w2, w3, ?_⟩)
    obtain ⟨x8, h8, g8⟩ := l8
    walk_at "w"
    intro c1 nc1
    walk_at "w"
    intro c2 nc2
    walk_at "w"
    all_goals (try refine ⟨up1 nc2 (up1 nc1 h8), upd_same, by rw [g8.len]; show 6 ≤ sizeLine; decide, fun c3 nc3 => ?_⟩)
    have S3 : Same G5 (upd (upd (upd G5 c1 (.lst [v3, v1])) c2 (.lst [.ref c1])) c3 (.lst (x8 ++ [.ref c1]))) := ((same1 nc1 : Same G5 _).up nc2).up nc3
    have dd : DpE K (upd (upd (upd G5 c1 (.lst [v3, v1])) c2 (.lst [.ref c1])) c3 (.lst (x8 ++ [.ref c1]))) (.ref c3) (.list (ds4 a b d1 d2 ++ [.list [d2, d3]] ++ [.list [d3, d1]])) := .lst (SqL.of upd_same) (apE (g8.same S3) (.cons (.lst (SqL.of (up1 nc3 (up1 nc2 upd_same))) (.cons (e3.same S3) (.cons (e1.same S3) .nil))) .nil))
    have eL : ds4 a b d1 d2 ++ [.list [d2, d3]] ++ [.list [d3, d1]] = ds4 a b d1 d2 ++ [.list [d2, d3], .list [d3, d1]] := by rw [List.append_assoc]; rfl
    rw [eL] at dd
    generalize upd (upd (upd G5 c1 (.lst [v3, v1])) c2 (.lst [.ref c1])) c3 (.lst (x8 ++ [.ref c1])) = G6 at dd S3 ⊢
    walk_at "w"
    all_goals (try refine ⟨_, rfl, dd, w1, w2, w3, ?_⟩)
    walk_at "w"
    rw [decide_eq_true rfl]
    exact k _ (hh0.same S3) (k0.trans (Kp.same S3))
theorem ok_law {P : Program} {w : World} {K : PySem.W.Frag} {mg : Str → Option Value} {base : Heap} {φ : Fds} (T : Txt P K mg φ)   : FnG P w K mg base CX0 4 (He.fAd K ("law", none)) φ.law p_law (sp_law K) := by
  obtain ⟨_, B0v, B0⟩ := b_l_hand_of_2 T
  obtain ⟨e_bs_NoText_init_1, v_bs_NoText_init_1, b_bs_NoText_init_1⟩ := bs_NoText_init_1 T
  obtain ⟨_, B1v, B1⟩ := b_l_take_2 T
  obtain ⟨_, B2v, B2⟩ := b_l_thing_1 T
  obtain ⟨_, B3v, B3⟩ := b_l_values_right_1 T
  obtain ⟨_, B4v, B4⟩ := b_l_kinds_right_1 T
  obtain ⟨_, B5v, B5⟩ := b_l_families_1 T
  refine okG T.f_law sc_law (fun vs H Q E h => ?_) (fun cdv A outer s H vs Q E hr gd h => ?_)
  · obtain ⟨a, ns, rfl, hS, hl, kk⟩ := h; rfl
  · obtain ⟨a, ns, rfl, hS, hl, kk⟩ := h
    refine ⟨_, PSs.nox (pss_cons (ps_for PassesOwn.never rfl (pi_range1 rfl T.z_range (pa_cons (pe_op op_add pe_int (pe_callB (id := "min") (call_min2 rfl) (by rfl) T.z_min (by decide +kernel) (pa_cons pe_int (pa_cons (pe_callB (id := "len") (lenS (K := K)) (by rfl) T.z_len PySem.boot_len (pa_cons (pv 0) pa_nil)) pa_nil)))) pa_nil)) (pg_name (i := 1) sc_law.nd rfl (Or.inl rfl))
      (pss_cons (ps_set (i := 2) sc_law.nd rfl (Or.inl rfl) (pe_call (ok_l_hand_of (K := K) T) (hr.mono (by decide)) rfl T.g_l_hand_of T.f_l_hand_of.kp B0 B0v pass0 (pa_cons (pv 0) (pa_cons (pv 1) pa_nil))))
      (pss_cons (ps_cut (ps_set (i := 3) sc_law.nd rfl (Or.inl rfl) (pe_lst (pa_cons (pe_ofmk (SkE.pmk_own1 PySem.F.excBase_ValueError T.xf_NoMeasure.e T.g_NoMeasure T.xf_NoMeasure.k (raises_own T.xf_NoMeasure.b T.xf_NoMeasure.t) rfl pe_str)) (pa_cons (pe_ofmk (SkE.pmk_own1 PySem.F.excBase_ValueError T.xf_NoStretch.e T.g_NoStretch T.xf_NoStretch.k (raises_own T.xf_NoStretch.b T.xf_NoStretch.t) rfl pe_str)) (pa_cons (pe_ofmk (SkE.pmk_own1 PySem.F.excBase_ValueError T.xf_NoLadder.e T.g_NoLadder T.xf_NoLadder.k (raises_own T.xf_NoLadder.b T.xf_NoLadder.t) rfl pe_str)) (pa_cons (pe_ofmk (SkE.pmk_own1 PySem.F.excBase_ValueError T.xf_NoLine.e T.g_NoLine T.xf_NoLine.k (raises_own T.xf_NoLine.b T.xf_NoLine.t) rfl pe_str)) (pa_cons (pe_ofmk (pmk_err1 baseVE T.sc_Slip.ox T.si_Slip.it T.si_Slip.ty (ok_Slip_init T) (hr.mono (by decide)) (bs_Slip_init T) rfl T.g_Slip (pa_cons (pe_call (ok_l_take (K := K) T) (hr.mono (by decide)) rfl T.g_l_take T.f_l_take.kp B1 B1v pass0 (pa_cons (pv 2) (pa_cons pe_int pa_nil))) pa_nil))) (pa_cons (pe_ofmk (pmk_err2 baseVE T.sc_NoText.ox T.si_NoText.it T.si_NoText.ty (ok_NoText_init T) (hr.mono (by decide)) b_bs_NoText_init_1 v_bs_NoText_init_1 rfl T.g_NoText (pa_cons pe_int pa_nil))) pa_nil)))))))))
      (pss_cons (ps_cut (ps_set (i := 3) sc_law.nd rfl (Or.inl rfl) (pe_op op_cat (pv 3) (pe_lst (pa_cons (pe_ofmk (pmk_err1 baseLE T.sc_NoSize.ox T.si_NoSize.it T.si_NoSize.ty (ok_NoSize_init T) (hr.mono (by decide)) (bs_NoSize_init T) rfl T.g_NoSize (pa_cons (pe_call (ok_l_thing (K := K) T) (hr.mono (by decide)) rfl T.g_l_thing T.f_l_thing.kp B2 B2v pass0 (pa_cons (pv 2) pa_nil)) pa_nil))) (pa_cons (pe_ofmk (pmk_err1 baseLE T.sc_NoLand.ox T.si_NoLand.it T.si_NoLand.ty (ok_NoLand_init T) (hr.mono (by decide)) (bs_NoLand_init T) rfl T.g_NoLand (pa_cons (pe_call (ok_l_thing (K := K) T) (hr.mono (by decide)) rfl T.g_l_thing T.f_l_thing.kp B2 B2v pass0 (pa_cons (pv 2) pa_nil)) pa_nil))) (pa_cons (pe_ofmk (pmk_err1 baseLE T.sc_LandTwice.ox T.si_LandTwice.it T.si_LandTwice.ty (ok_LandTwice_init T) (hr.mono (by decide)) (bs_LandTwice_init T) rfl T.g_LandTwice (pa_cons pe_str pa_nil))) pa_nil)))))))
      (pss_cons (ps_cut (ps_set (i := 3) sc_law.nd rfl (Or.inl rfl) (pe_op op_cat (pv 3) (pe_lst (pa_cons (pe_ofmk (SkE.pmk_own1 PySem.F.excBase_ZeroDivisionError T.xf_NoBottom.e T.g_NoBottom T.xf_NoBottom.k (raises_own T.xf_NoBottom.b T.xf_NoBottom.t) rfl pe_str)) (pa_cons (pe_ofmk (SkE.pmk_own1 PySem.F.excBase_IndexError T.xf_NothingBack.e T.g_NothingBack T.xf_NothingBack.k (raises_own T.xf_NothingBack.b T.xf_NothingBack.t) rfl pe_str)) pa_nil))))))
      (pss_cons (ps_if (PW.pt (pw_or (pt_not (pt_val (pe_call (ok_l_kinds_right (K := K) T) (hr.mono (by decide)) rfl T.g_l_kinds_right T.f_l_kinds_right.kp B4 B4v pass0 (pa_cons (pv 3) pa_nil)))) (pw_or1 (pt_not (pt_val (pe_callG (ok_l_values_right (K := K) T) gd (hr.mono (by decide)) rfl T.g_l_values_right T.f_l_values_right.kp B3 B3v pass0 (pa_cons (pv 2) pa_nil)))))))
      (pss_one (ps_ret pe_bl))
      pss_nil)
      (pss_cons (ps_if (pt_cmpR (neDK (K := K) hr.units) (pe_call (ok_l_families (K := K) T) (hr.mono (by decide)) rfl T.g_l_families T.f_l_families.kp B5 B5v pass0 (pa_cons (pe_ofmk (SkE.pmk_own1 PySem.F.excBase_ValueError T.xf_LadderError.e T.g_LadderError T.xf_LadderError.k (raises_own T.xf_LadderError.b T.xf_LadderError.t) rfl pe_str)) pa_nil)) (pe_lst (pa_cons pe_bl (pa_cons pe_bl (pa_cons pe_bl (pa_cons pe_bl (pa_cons pe_bl (pa_cons pe_bl pa_nil))))))) (nomark _))
      (pss_one (ps_ret pe_bl))
      pss_nil)
      (pss_one (ps_if (pt_cmpR (neDK (K := K) hr.units) (pe_call (ok_l_families (K := K) T) (hr.mono (by decide)) rfl T.g_l_families T.f_l_families.kp B5 B5v pass0 (pa_cons (pe_ofmk (SkE.pmk_own1 PySem.F.excBase_LookupError T.xf_LandError.e T.g_LandError T.xf_LandError.k (raises_own T.xf_LandError.b T.xf_LandError.t) rfl pe_str)) pa_nil)) (pe_lst (pa_cons pe_bl (pa_cons pe_bl (pa_cons pe_bl (pa_cons pe_bl (pa_cons pe_bl (pa_cons pe_bl pa_nil))))))) (nomark _))
      (pss_one (ps_ret pe_bl))
      pss_nil)))))))))
      (pss_one (ps_ret pe_bl))), ?_⟩
    walk_at "w"
    refine for_range (fun i σ H' => (∃ v1 v2 v3 : Option V, σ = [some (.ref a), v1, v2, v3]) ∧ Same H H') ⟨⟨_, _, _, rfl⟩, Same.refl _⟩ ?_ ?_
    · rintro i σ H1 hi ⟨⟨v1, v2, v3, rfl⟩, s1⟩
      have hi4 : i < 100 := by
        refine Nat.lt_of_lt_of_le hi ?_
        split <;> omega
      clear hi
      have hS1 := s1.seq hS
      walk_at "w"
      refine ⟨ns, i, by show [V.ref a, V.int (0 + (i : Int))] = _; rw [Int.zero_add], hS1, by omega, fun h H2 nh s2 hh0 => ?_⟩
      walk_at "w"
      obtain ⟨J, eJ⟩ : ∃ J, J = LW K H2 a h (.int (0 + (i : Int))) 6 1 := ⟨_, rfl⟩
      refine ⟨J, ?_, ?_⟩
      · walk_at "w"
        intro q1 nq1
        obtain ⟨t1, hh1, r1⟩ := mkN (h := h) (C := He.ga K "NoMeasure") nq1 hh0 T.xc_NoMeasure
        generalize upd _ q1 _ = G1 at t1 hh1 r1 ⊢
        have u1 := kp_d (h := h) (Kp.same t1)
        walk_at "w"
        intro q2 nq2
        obtain ⟨t2, hh2, r2⟩ := mkN (h := h) (C := He.ga K "NoStretch") nq2 hh1 T.xc_NoStretch
        generalize upd _ q2 _ = G2 at t2 hh2 r2 ⊢
        have u2 := kp_d (h := h) (Kp.same t2)
        walk_at "w"
        intro q3 nq3
        obtain ⟨t3, hh3, r3⟩ := mkN (h := h) (C := He.ga K "NoLadder") nq3 hh2 T.xc_NoLadder
        generalize upd _ q3 _ = G3 at t3 hh3 r3 ⊢
        have u3 := kp_d (h := h) (Kp.same t3)
        walk_at "w"
        intro q4 nq4
        obtain ⟨t4, hh4, r4⟩ := mkN (h := h) (C := He.ga K "NoLine") nq4 hh3 T.xc_NoLine
        generalize upd _ q4 _ = G4 at t4 hh4 r4 ⊢
        have u4 := kp_d (h := h) (Kp.same t4)
        walk_at "w"
        intro z5 F5 zl5 zh5 fh5 fk5
        have w5 := kp_d fk5
        walk_at "w"
        have hh4 := fh5
        intro dx5 nd5 q5 nq5
        obtain ⟨t5, hh5, r5⟩ := mkD (h := h) (C := He.ga K "Slip") nd5 nq5 hh4 T.xc_Slip
        generalize upd (upd _ dx5 _) q5 _ = G5 at t5 hh5 r5 ⊢
        have u5 := kp_d (h := h) (Kp.same t5)
        walk_at "w"
        intro dx6 nd6 q6 nq6
        obtain ⟨t6, hh6, r6⟩ := mkD (h := h) (C := He.ga K "NoText") nd6 nq6 hh5 T.xc_NoText
        generalize upd (upd _ dx6 _) q6 _ = G6 at t6 hh6 r6 ⊢
        have u6 := kp_d (h := h) (Kp.same t6)
        walk_at "w"
        intro l nl
        walk_at "w"
        subst eJ
        have ul : Same (delH G6 h) (delH (upd G6 l (.lst [.ref q1, .ref q2, .ref q3, .ref q4, .ref q5, .ref q6])) h) := kp_d (Kp.same (same1 nl))
        exact ⟨l, [q1, q2, q3, q4, q5, q6], rfl, by rw [delH_ne (hh6.ne nl)]; exact upd_same, rfl, .cons (r1.s (((((((u2).trans u3).trans u4).trans w5).trans u5).trans u6).trans ul)) (.cons (r2.s ((((((u3).trans u4).trans w5).trans u5).trans u6).trans ul)) (.cons (r3.s (((((u4).trans w5).trans u5).trans u6).trans ul)) (.cons (r4.s ((((w5).trans u5).trans u6).trans ul)) (.cons (r5.s ((u6).trans ul)) (.cons (r6.s (ul)) (.nil)))))), hh6.same (same1 nl), (((((((Kp.same t1).trans (Kp.same t2)).trans (Kp.same t3)).trans (Kp.same t4)).trans fk5).trans (Kp.same t5)).trans (Kp.same t6)).trans (Kp.same (same1 nl))⟩
      subst eJ
      rintro σ G ⟨q, xs, rfl, hq, lx, ea, hg, kg⟩
      obtain ⟨J, eJ⟩ : ∃ J, J = LW K H2 a h (.int (0 + (i : Int))) 9 3 := ⟨_, rfl⟩
      refine ⟨J, ?_, ?_⟩
      · walk_at "w"
        intro v1 dd1 F1 ev1 em1 fh1 fk1
        have w1 := kp_d fk1
        walk_at "w"
        have hh0 := fh1
        intro dx1 nd1 q1 nq1
        obtain ⟨t1, hh1, r1⟩ := mkD (h := h) (C := He.ga K "NoSize") nd1 nq1 hh0 T.xc_NoSize
        generalize upd (upd _ dx1 _) q1 _ = G1 at t1 hh1 r1 ⊢
        have u1 := kp_d (h := h) (Kp.same t1)
        walk_at "w"
        intro v2 dd2 F2 ev2 em2 fh2 fk2
        have w2 := kp_d fk2
        walk_at "w"
        have hh1 := fh2
        intro dx2 nd2 q2 nq2
        obtain ⟨t2, hh2, r2⟩ := mkD (h := h) (C := He.ga K "NoLand") nd2 nq2 hh1 T.xc_NoLand
        generalize upd (upd _ dx2 _) q2 _ = G2 at t2 hh2 r2 ⊢
        have u2 := kp_d (h := h) (Kp.same t2)
        walk_at "w"
        intro dx3 nd3 q3 nq3
        obtain ⟨t3, hh3, r3⟩ := mkD (h := h) (C := He.ga K "LandTwice") nd3 nq3 hh2 T.xc_LandTwice
        generalize upd (upd _ dx3 _) q3 _ = G3 at t3 hh3 r3 ⊢
        have u3 := kp_d (h := h) (Kp.same t3)
        walk_at "w"
        have HQ := d_same _ _ ((((((w1).trans u1).trans w2).trans u2).trans u3) _ _ hq)
        intro l nl
        walk_at "w"
        all_goals (try refine ⟨up1 nl HQ, upd_same, by rw [List.length_map, lx]; show 9 ≤ sizeLine; decide, fun l2 nl2 => ?_⟩)
        walk_at "w"
        subst eJ
        have sl : Same G3 (upd (upd G3 l (.lst [.ref q1, .ref q2, .ref q3])) l2 (.lst (xs.map V.ref ++ [.ref q1, .ref q2, .ref q3]))) := (same1 nl : Same G3 _).up nl2
        have ul := kp_d (h := h) (Kp.same sl)
        have hl2 : HandAt (upd G3 l (.lst [.ref q1, .ref q2, .ref q3])) h _ := hh3.same (same1 nl)
        exact ⟨l2, xs ++ [q1, q2, q3], rfl, by rw [delH_ne (hl2.ne nl2), List.map_append]; exact upd_same, by rw [List.length_append, lx]; rfl, (ea.s ((((((w1).trans u1).trans w2).trans u2).trans u3).trans ul)).app (j := 6) (by rw [lx]) (.cons (r1.s ((((w2).trans u2).trans u3).trans ul)) (.cons (r2.s ((u3).trans ul)) (.cons (r3.s (ul)) (.nil)))), hh3.same sl, ((((((kg).trans fk1).trans (Kp.same t1)).trans fk2).trans (Kp.same t2)).trans (Kp.same t3)).trans (Kp.same sl)⟩
      subst eJ
      rintro σ G ⟨q, xs, rfl, hq, lx, ea, hg, kg⟩
      obtain ⟨J, eJ⟩ : ∃ J, J = LW K H2 a h (.int (0 + (i : Int))) 11 3 := ⟨_, rfl⟩
      refine ⟨J, ?_, ?_⟩
      · walk_at "w"
        have hh0 := hg
        intro q1 nq1
        obtain ⟨t1, hh1, r1⟩ := mkN (h := h) (C := He.ga K "NoBottom") nq1 hh0 T.xc_NoBottom
        generalize upd _ q1 _ = G1 at t1 hh1 r1 ⊢
        have u1 := kp_d (h := h) (Kp.same t1)
        walk_at "w"
        intro q2 nq2
        obtain ⟨t2, hh2, r2⟩ := mkN (h := h) (C := He.ga K "NothingBack") nq2 hh1 T.xc_NothingBack
        generalize upd _ q2 _ = G2 at t2 hh2 r2 ⊢
        have u2 := kp_d (h := h) (Kp.same t2)
        walk_at "w"
        have HQ := d_same _ _ (((u1).trans u2) _ _ hq)
        intro l nl
        walk_at "w"
        all_goals (try refine ⟨up1 nl HQ, upd_same, by rw [List.length_map, lx]; show 11 ≤ sizeLine; decide, fun l2 nl2 => ?_⟩)
        walk_at "w"
        subst eJ
        have sl : Same G2 (upd (upd G2 l (.lst [.ref q1, .ref q2])) l2 (.lst (xs.map V.ref ++ [.ref q1, .ref q2]))) := (same1 nl : Same G2 _).up nl2
        have ul := kp_d (h := h) (Kp.same sl)
        have hl2 : HandAt (upd G2 l (.lst [.ref q1, .ref q2])) h _ := hh2.same (same1 nl)
        exact ⟨l2, xs ++ [q1, q2], rfl, by rw [delH_ne (hl2.ne nl2), List.map_append]; exact upd_same, by rw [List.length_append, lx]; rfl, (ea.s (((u1).trans u2).trans ul)).app (j := 9) (by rw [lx]) (.cons (r1.s ((u2).trans ul)) (.cons (r2.s (ul)) (.nil))), hh2.same sl, (((kg).trans (Kp.same t1)).trans (Kp.same t2)).trans (Kp.same sl)⟩
      subst eJ
      rintro σ G ⟨q, xs, rfl, hq, lx, ea, hg, kg⟩
      have sG : Same H G := s1.trans (s2.ofKp nh kg)
      walk_at "w"
      all_goals (try refine ⟨xs, rfl, d_same _ _ hq, lx, fun j b e => by have z := (ea.at e).s d_same; rw [Nat.zero_add] at z; exact z, fun G1 t1 => ?_⟩)
      have hg1 := hg.same t1
      walk_at "w"
      intro G2 hg2 k2
      have sH : Same H G2 := s1.trans (s2.ofKp nh ((kg.trans (Kp.same t1)).trans k2))
      walk_at "w"
      intro q3 nq3
      obtain ⟨t3, hg3, r3⟩ := mkN (h := h) (C := He.ga K "LadderError") nq3 hg2 T.xc_LadderError
      generalize upd _ q3 _ = G3 at t3 hg3 r3 ⊢
      walk_at "w"
      refine ⟨_, rfl, r3.s d_same, kfL T, fun p3 F3 u3 y3 => ?_⟩
      walk_at "w"
      intro l3 nl3
      have c3 : F3 p3 = some (.lst (((List.range 6).map fmL).map V.bl)) := y3
      have b3 := up1 nl3 c3 (u := .lst [V.bl true, V.bl true, V.bl false, V.bl false, V.bl false, V.bl false])
      have e3 : upd F3 l3 (.lst [V.bl true, V.bl true, V.bl false, V.bl false, V.bl false, V.bl false]) l3 = some (.lst (((List.range 6).map fmL).map V.bl)) := upd_same
      first | refine neB ((List.range 6).map fmL) b3 e3 ?_ | refine ⟨_, rfl, neB ((List.range 6).map fmL) b3 e3 ?_⟩
      have v3 : Same G2 (upd F3 l3 (.lst [V.bl true, V.bl true, V.bl false, V.bl false, V.bl false, V.bl false])) := (t3.trans u3).up nl3
      have hh3 := hg2.same v3
      generalize upd F3 l3 (.lst [V.bl true, V.bl true, V.bl false, V.bl false, V.bl false, V.bl false]) = E3 at v3 hh3 ⊢
      walk_at "w"
      intro q5 nq5
      obtain ⟨t5, hg5, r5⟩ := mkN (h := h) (C := He.ga K "LandError") nq5 hh3 T.xc_LandError
      generalize upd _ q5 _ = G5 at t5 hg5 r5 ⊢
      walk_at "w"
      refine ⟨_, rfl, r5.s d_same, kfN T, fun p5 F5 u5 y5 => ?_⟩
      walk_at "w"
      intro l5 nl5
      have c5 : F5 p5 = some (.lst (((List.range 6).map fmN).map V.bl)) := y5
      have b5 := up1 nl5 c5 (u := .lst [V.bl false, V.bl false, V.bl true, V.bl true, V.bl false, V.bl false])
      have e5 : upd F5 l5 (.lst [V.bl false, V.bl false, V.bl true, V.bl true, V.bl false, V.bl false]) l5 = some (.lst (((List.range 6).map fmN).map V.bl)) := upd_same
      first | refine neB ((List.range 6).map fmN) b5 e5 ?_ | refine ⟨_, rfl, neB ((List.range 6).map fmN) b5 e5 ?_⟩
      have v5 : Same E3 (upd F5 l5 (.lst [V.bl false, V.bl false, V.bl true, V.bl true, V.bl false, V.bl false])) := (t5.trans u5).up nl5
      have hh5 := hh3.same v5
      generalize upd F5 l5 (.lst [V.bl false, V.bl false, V.bl true, V.bl true, V.bl false, V.bl false]) = E5 at v5 hh5 ⊢
      walk_at "w"
      exact ⟨⟨_, _, _, rfl⟩, sH.trans (v3.trans v5)⟩
    · rintro σ H1 ⟨⟨v1, v2, v3, rfl⟩, s1⟩
      walk_at "w"
      exact kk _
end K74

open PySem PySem.W PySem.Calls PyProof.Rows
set_option maxRecDepth 100000 in
set_option maxHeartbeats 0 in
theorem PySem.Challenge.cw_sizeladders_k74_whole_errors_by_hand_holds : PySem.Challenge.rw_sizeladders_k74_whole_errors_by_hand.Holds := by
  exact K74.pre fun T => K74.ok_law T
