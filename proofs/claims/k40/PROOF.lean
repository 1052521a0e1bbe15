import PyProof.Rows.All
import Wide.All
import OpenK.AllK
import Wide.FinOn
import KE.KStateDown
import HandS.ForMost
import HandS.More
import HandS.WordsExc
import HandS.Defaults
import HandS.MakeKw
import HandS.MakeKwOnly
import HandS.Wide
import HandS.IsInst
import HandS.Flow
import HandS.Style
import HandS.OwnEq
import HandS.Head0
import HandS.Head1
import HandS.Head2
import HandS.HeadEnd
import HandS.HeadHook1
import HandS.HeadHook2
import HandS.ExcIs
import HandS.ExcOwn
import HandS.TryOnly
import HandS.ExcBuiltin
import HandS.FStr
import HandS.Text
import HandS.Codes
import HandS.StrMore
import HandS.Walk
import HandS.Zip
import HandS.Conv
import HandS.Iter
import KE.GoesEnum
import KE.DataMinMax
import HandS.SortKw
import HandS.TupAny
import HandS.FStrTup
import HandS.Deep
import HandS.SetFor
import HandS.Strs
import PyProof.ReprHeadsTuple
import PyProof.ReprNest
import KE.KFmtOwn
import HandS.RevRange
import HandS.ExcInit
import HandS.Nested
import KE.KExcSuper
import HandS.ExcField
import HandS.ExcValue
import PyProof.RowDictHeap
import HandS.TupLe
import KE.KSortKeyAny
import PyProof.Rows.SortShellAny
import PySem.Challenge.RW_sizeladders_k40_partings_shown_or_not
set_option Elab.async false
set_option linter.all false
set_option maxRecDepth 100000
set_option maxHeartbeats 4000000
namespace My
open PySem PySem.Spec PyProof.Rows L2
/-! ### operators of great numbers -/
section
variable {X : Cx}
theorem op_fd : OpR X (binaryOp .FloorDiv) (rI (fun _ j => j ≠ 0 ∧ j.natAbs.log2 < 9000) fun i j => .int (i.fdiv j)) :=
  opI fun _ _ _ _ _ _ _ hc q => floordiv_int hc.1 q (.inl (PyProof.noPylong_of_log2 hc.2))
theorem op_mulA : OpR X (binaryOp .Mult) (rI (fun i j => CMul i j ∨ CMulW i j) fun i j => .int (i * j)) :=
  opI fun _ _ _ _ _ _ _ hc q => mul_int q (hc.elim (fun h => h.ok) (fun h => h.ok))
/-! ### cuts: what is wanted behind a piece, said by a word of one's own -/
def tCutS (t : TS) : TS := fun D σ H => ∃ J : L2.St → Hp → Prop, t { D with nx := J } σ H ∧ ∀ σ' H', J σ' H' → D.nx σ' H'
theorem ps_cut {st : Stmt} {t : TS} (h : PS X st t) : PS X st (tCutS t) := by
  refine ⟨fun pins s σ H D I hw => ?_⟩
  obtain ⟨J, h1, h2⟩ := hw
  refine thn (h.run pins s σ H _ I h1) fun f s' q => ?_
  cases f with
  | next => obtain ⟨σ', H', I', q'⟩ := q; exact ⟨σ', H', I', h2 _ _ q'⟩
  | brk => exact q
  | cont => exact q
  | ret u => exact q
def tCutE (t : TE) : TE := fun σ H Q => ∃ J : V → Hp → Prop, t σ H J ∧ ∀ v H', J v H' → Q v H'
theorem pe_cut {e : Expr} {t : TE} (h : PE X e t) : PE X e (tCutE t) := by
  refine ⟨fun pins s σ H Q I hw => ?_⟩
  obtain ⟨J, h1, h2⟩ := hw
  exact thn (h.run pins s σ H _ I h1) fun u s' ⟨v, H', I', r, q'⟩ => ⟨v, H', I', r, h2 _ _ q'⟩
/-! ### calls by keywords -/
variable {CX : CXT} {k n : Nat} {f C : Addr} {fd : FuncData} {ps ks : List Str} {sp : Sp} {E : XK} {x m : Str} {p pos apos : Pos} {o e : Expr} {es : List Expr} {kws : List Keyword} {ta : TE} {t tk : TA} {g : List Value → List Value → List Value} {gV : List V → List V → List V}
end
/-! ### heaps -/
theorem up1 {H : Hp} {p x : Addr} {o u : HO} (hp : H p = none) (hx : H x = some o) : upd H p u x = some o := by
  rw [upd_ne (ne_of_none hx hp)]; exact hx
theorem same1 {H : Hp} {p : Addr} {u : HO} (hp : H p = none) : Same H (upd H p u) := fun _ _ e => up1 hp e
theorem _root_.L2.Same.sqt {K : PySem.W.Frag} {H H' : Hp} {a : Addr} {xs : List V} (e : Same H H') (h : SqT K H a xs) : SqT K H' a xs := by
  rcases h with (h | ⟨o, h⟩) | h
  · exact .inl (.inl (e _ _ h))
  · exact .inl (.inr ⟨o, e _ _ h⟩)
  · exact .inr h
/-- all stays but what stands at h -/
def Kp (h : Addr) (H H' : Hp) : Prop := ∀ b o, H b = some o → b ≠ h → H' b = some o
theorem Kp.refl (h : Addr) (H : Hp) : Kp h H H := fun _ _ e _ => e
theorem Kp.trans {h : Addr} {H H1 H2 : Hp} (a : Kp h H H1) (b : Kp h H1 H2) : Kp h H H2 := fun c o e n => b c o (a c o e n) n
theorem Kp.same {h : Addr} {H H1 : Hp} (a : Same H H1) : Kp h H H1 := fun c o e _ => a c o e
theorem Kp.up {h p : Addr} {H H1 : Hp} {u : HO} (a : Kp h H H1) (hp : H1 p = none) : Kp h H (upd H1 p u) := fun c o e n => up1 hp (a c o e n)
theorem Kp.set {h : Addr} {H H1 : Hp} {u : HO} (a : Kp h H H1) : Kp h H (upd H1 h u) := fun c o e n => by
  rw [upd_ne n]; exact a c o e n
/-- a list other than that at h, the script among them -/
theorem Kp.seq {K : PySem.W.Frag} {h a : Addr} {H H1 : Hp} {xs : List V} (k : Kp h H H1) (n : a ≠ h) (s : SqL K H a xs) : SqL K H1 a xs := by
  rcases s with (s | ⟨o, s⟩) | s
  · exact .inl (.inl (k _ _ s n))
  · exact .inl (.inr ⟨o, k _ _ s n⟩)
  · exact .inr s
/-! ### the hand: a list of three ints, drawn from -/
def HandAt (H : Hp) (h : Addr) (n : Nat) : Prop := ∃ a b c : Int, H h = some (.lst [.int a, .int b, .int c]) ∧ 0 ≤ a ∧ 0 ≤ b ∧ b < 4611686018427387904 ∧ 0 ≤ c ∧ c ≤ n
theorem HandAt.mono {H : Hp} {h : Addr} {n m : Nat} (a : HandAt H h n) (l : n ≤ m) : HandAt H h m := by
  obtain ⟨x, y, z, h1, h2, h3, h4, h5, h6⟩ := a
  exact ⟨x, y, z, h1, h2, h3, h4, h5, by omega⟩
theorem HandAt.same {H H' : Hp} {h : Addr} {n : Nat} (a : HandAt H h n) (s : Same H H') : HandAt H' h n := by
  obtain ⟨x, y, z, h1, h2⟩ := a
  exact ⟨x, y, z, s _ _ h1, h2⟩
theorem HandAt.up {H : Hp} {h p : Addr} {u : HO} {n : Nat} (a : HandAt H h n) (hp : H p = none) : HandAt (upd H p u) h n := a.same (same1 hp)
theorem HandAt.ne {H : Hp} {h p : Addr} {n : Nat} (a : HandAt H h n) (hp : H p = none) : p ≠ h := by
  obtain ⟨x, y, z, h1, _⟩ := a
  exact (ne_of_none h1 hp).symm
def notHand : HO → Bool
  | .lst _ => false
  | _ => true
theorem HandAt.apart {H : Hp} {h p : Addr} {o : HO} {n : Nat} (a : HandAt H h n) (hp : H p = some o) (ho : notHand o = true) : p ≠ h := by
  obtain ⟨x, y, z, h1, _⟩ := a
  exact ne_of hp h1 (by intro e; rw [e] at ho; cases ho)
def sp_take : Sp := fun vs H Q _ => ∃ (h : Addr) (n : Nat) (m : Int), vs = [.ref h, .int m] ∧ HandAt H h n ∧ n < 1000000 ∧ 0 < m ∧ m.natAbs.log2 < 9000 ∧
  ∀ (d : Int) (H' : Hp), 0 ≤ d → d < m → HandAt H' h (n + 1) → Kp h H H' → Q (.int d) H'
def sp_hand (K : PySem.W.Frag) : Sp := fun vs H Q _ => ∃ (a : Addr) (ns : List Int) (k : Nat), vs = [.ref a, .int k] ∧ SqL K H a (ns.map V.int) ∧ k ≤ 1000 ∧
  ∀ (p : Addr) (H' : Hp), H p = none → Same H H' → HandAt H' p 0 → Q (.ref p) H'
/-! ### numbers -/
abbrev Sz (k : Nat) (z : Int) : Prop := z.natAbs < 2 ^ k
theorem Sz.mono {a b : Nat} {z : Int} (h : Sz a z) (l : a ≤ b) : Sz b z := Nat.lt_of_lt_of_le h (Nat.pow_le_pow_right (by decide) l)
theorem Sz.mul {a b : Nat} {x y : Int} (h : Sz a x) (g : Sz b y) : Sz (a + b) (x * y) := wide_lt h g
theorem Sz.neg {a : Nat} {x : Int} (h : Sz a x) : Sz a (-x) := by
  show (-x).natAbs < 2 ^ a
  rw [Int.natAbs_neg]; exact h
theorem Sz.add {a : Nat} {x y : Int} (h : Sz a x) (g : Sz a y) : Sz (a + 1) (x + y) := by
  show (x + y).natAbs < 2 ^ (a + 1)
  have h1 : x.natAbs < 2 ^ a := h
  have h2 : y.natAbs < 2 ^ a := g
  rw [Nat.pow_succ]; omega
theorem Sz.sub {a : Nat} {x y : Int} (h : Sz a x) (g : Sz a y) : Sz (a + 1) (x - y) := by
  show (x - y).natAbs < 2 ^ (a + 1)
  have h1 : x.natAbs < 2 ^ a := h
  have h2 : y.natAbs < 2 ^ a := g
  rw [Nat.pow_succ]; omega
theorem Sz.le {a : Nat} {x y : Int} (h : Sz a x) (l : y.natAbs ≤ x.natAbs) : Sz a y := Nat.lt_of_le_of_lt l h
theorem Sz.cmul {a b : Nat} {x y : Int} (h : Sz a x) (g : Sz b y) (h0 : 0 < a) (h1 : 0 < b) (l : a + b ≤ 1000000) : CMul x y ∨ CMulW x y := .inr (wide_mul h g h0 h1 l)
theorem Sz.log {a : Nat} {x : Int} (h : Sz a x) (h0 : 0 < a) (l : a ≤ 9000) : x.natAbs.log2 < 9000 := Nat.lt_of_lt_of_le (PySem.Flt.log2_lt_of h0 h) l
theorem dI {i j : Int} : decide (V.int i = V.int j) = decide (i = j) := by
  rw [dec_int, Bool.beq_eq_decide_eq]
/-- t / u is a / b in lowest terms -/
structure Fr (t u a b : Int) : Prop where
  pos : 0 < u
  eq : t * b = a * u
  co : Int.gcd t u = 1
  lt : t.natAbs ≤ a.natAbs
  lu : u.natAbs ≤ b.natAbs
def sgn (b : Int) : Int := if 0 < b then 1 else -1
theorem gcd_step {g s : Int} (hs : 0 < s) (hg : 0 ≤ g) : Int.gcd s (g % s) = Int.gcd g s := by
  obtain ⟨m, rfl⟩ := Int.eq_ofNat_of_zero_le hg
  obtain ⟨n, rfl⟩ := Int.eq_ofNat_of_zero_le (Int.le_of_lt hs)
  show Nat.gcd n (m % n) = Nat.gcd m n
  rw [Nat.gcd_comm m n, Nat.gcd_comm n (m % n), ← Nat.gcd_rec]
theorem fr_mk {a b c : Int} (hb : b ≠ 0) (hc : c = sgn b * (Int.gcd a b : Int)) : c ≠ 0 ∧ c.natAbs ≤ b.natAbs ∧ Fr (a.fdiv c) (b.fdiv c) a b := by
  have g0 : 0 < Int.gcd a b := Int.gcd_pos_of_ne_zero_right a hb
  have gd : (Int.gcd a b : Int) ∣ a := Int.gcd_dvd_left ..
  have gb : (Int.gcd a b : Int) ∣ b := Int.gcd_dvd_right ..
  have hs : sgn b = 1 ∨ sgn b = -1 := by unfold sgn; split <;> simp
  have cd : c ∣ a := by
    rcases hs with e | e <;> rw [hc, e]
    · rw [Int.one_mul]; exact gd
    · rw [Int.neg_one_mul]; exact (Int.neg_dvd).mpr gd
  have cb : c ∣ b := by
    rcases hs with e | e <;> rw [hc, e]
    · rw [Int.one_mul]; exact gb
    · rw [Int.neg_one_mul]; exact (Int.neg_dvd).mpr gb
  have cn : c.natAbs = Int.gcd a b := by
    rcases hs with e | e <;> rw [hc, e]
    · rw [Int.one_mul, Int.natAbs_natCast]
    · rw [Int.neg_one_mul, Int.natAbs_neg, Int.natAbs_natCast]
  have c0 : c ≠ 0 := by
    intro e; rw [e] at cn; simp at cn; omega
  have ta : a.fdiv c * c = a := Int.fdiv_mul_cancel cd
  have tb : b.fdiv c * c = b := Int.fdiv_mul_cancel cb
  have c1 : 1 ≤ c.natAbs := by omega
  have na : a.natAbs = (a.fdiv c).natAbs * c.natAbs := by rw [← Int.natAbs_mul, ta]
  have nb : b.natAbs = (b.fdiv c).natAbs * c.natAbs := by rw [← Int.natAbs_mul, tb]
  refine ⟨c0, ?_, ?_, ?_, ?_, ?_, ?_⟩
  · rw [cn]
    exact Nat.le_of_dvd (by omega) (Int.gcd_dvd_natAbs_right a b)
  · rcases Int.lt_trichotomy b 0 with h | h | h
    · have e : sgn b = -1 := by unfold sgn; rw [if_neg (by omega)]
      have cneg : c < 0 := by rw [hc, e]; omega
      rcases Int.lt_or_le 0 (b.fdiv c) with z | z
      · exact z
      · have : 0 ≤ b.fdiv c * c := Int.mul_nonneg_of_nonpos_of_nonpos z (by omega)
        omega
    · exact absurd h hb
    · have e : sgn b = 1 := by unfold sgn; rw [if_pos h]
      have cpos : 0 < c := by rw [hc, e]; omega
      rcases Int.lt_or_le 0 (b.fdiv c) with z | z
      · exact z
      · have : b.fdiv c * c ≤ 0 := Int.mul_nonpos_of_nonpos_of_nonneg z (by omega)
        omega
  · have : a.fdiv c * (b.fdiv c * c) = a.fdiv c * c * b.fdiv c := by
      rw [Int.mul_assoc, Int.mul_comm c]
    rw [tb, ta] at this
    exact this
  · have e : Int.gcd a b = Int.gcd (a.fdiv c) (b.fdiv c) * c.natAbs := by
      have := Int.gcd_mul_right (a.fdiv c) c (b.fdiv c)
      rw [ta, tb] at this
      exact this
    rw [← cn] at e
    have e2 : 1 * c.natAbs = Int.gcd (a.fdiv c) (b.fdiv c) * c.natAbs := by rw [Nat.one_mul]; exact e
    exact (Nat.eq_of_mul_eq_mul_right (by omega) e2).symm
  · rw [na]; exact Nat.le_mul_of_pos_right _ (by omega)
  · rw [nb]; exact Nat.le_mul_of_pos_right _ (by omega)
/-! ### a Measure -/
def mf (t u : Int) : List (Str × V) := [("top", .int t), ("bottom", .int u)]
theorem ne_tb : ¬ (("top" : Str) = "bottom") := by decide +kernel
theorem mf_put (t u : Int) : putF "bottom" (.int u) (putF "top" (.int t) []) = mf t u := by
  show (if ("top" : Str) = "bottom" then [(("top" : Str), V.int u)] else (("top" : Str), V.int t) :: putF "bottom" (V.int u) []) = mf t u
  rw [if_neg ne_tb] <;> rfl
theorem mf_top (t u : Int) : (mf t u).lookup ("top" : Str) = some (.int t) := by
  rw [← mf_put, lookup_putF, if_neg ne_tb, lookup_putF, if_pos rfl]
theorem mf_bottom (t u : Int) : (mf t u).lookup ("bottom" : Str) = some (.int u) := by
  rw [← mf_put, lookup_putF, if_pos rfl]
theorem mf_no (t u : Int) {m : Str} (h1 : ¬ m = "top") (h2 : ¬ m = "bottom") : (mf t u).lookup m = none := by
  rw [← mf_put, lookup_putF, if_neg h2, lookup_putF, if_neg h1] <;> rfl
def MAt (C : Addr) (H : Hp) (p : Addr) (t u : Int) : Prop := ∃ dx, H p = some (.ins C dx (mf t u))
theorem MAt.same {C p : Addr} {H H' : Hp} {t u : Int} (m : MAt C H p t u) (s : Same H H') : MAt C H' p t u := by
  obtain ⟨dx, h⟩ := m; exact ⟨dx, s _ _ h⟩
theorem MAt.kp {C p h : Addr} {H H' : Hp} {t u : Int} {n : Nat} (m : MAt C H p t u) (hh : HandAt H h n) (s : Kp h H H') : MAt C H' p t u := by
  obtain ⟨dx, e⟩ := m; exact ⟨dx, s _ _ e (hh.apart e rfl)⟩
def sp_minit (C : Addr) : Sp := fun vs H Q _ => ∃ (p dx : Addr) (a b : Int), vs = [.ref p, .int a, .int b] ∧ H p = some (.ins C dx []) ∧ b ≠ 0 ∧ b.natAbs.log2 < 9000 ∧
  ∀ (t u : Int) (H' : Hp), Fr t u a b → H' p = some (.ins C dx (mf t u)) → (∀ c o, H c = some o → c ≠ p → H' c = some o) → Q .non H'
theorem made {C : Addr} {H : Hp} {Q : VK} {E : XK} {a b : Int} (hb : b ≠ 0) (hl : b.natAbs.log2 < 9000) (k : ∀ (p : Addr) (t u : Int) (H' : Hp), H p = none → Same H H' → MAt C H' p t u → Fr t u a b → Q (.ref p) H') :
    ∀ x dx, H x = none → H dx = none → dx ≠ x → sp_minit C [.ref x, .int a, .int b] (upd (upd H dx (.own x)) x (.ins C dx [])) (fun v H2 => v = .non ∧ Q (.ref x) H2) E := by
  intro x dx nx nd ne
  refine ⟨x, dx, a, b, rfl, upd_same, hb, hl, fun t u H' fr hx kp => ⟨rfl, ?_⟩⟩
  refine k x t u H' nx (fun c o e => ?_) ⟨dx, hx⟩ fr
  have n1 : c ≠ x := ne_of_none e nx
  refine kp c o ?_ n1
  rw [upd_ne n1]
  exact up1 nd e
def sp_whole : Sp := fun vs H Q _ => ∃ n : Int, vs = [.int n] ∧ Q (.bl true) H
def sp_common : Sp := fun vs H Q _ => ∃ a b : Int, vs = [.int a, .int b] ∧ Q (.int (Int.gcd a b : Int)) H
def lessA (t u t' u' : Int) (al : Bool) : Bool := decide (t * u' < t' * u) || (al && decide (t * u' = t' * u))
def sp_below (C : Addr) : Sp := fun vs H Q _ => ∃ (p q : Addr) (t u t' u' : Int) (al : Bool), vs = [.ref p, .ref q, .bl al] ∧ MAt C H p t u ∧ MAt C H q t' u' ∧ Sz 9000 t ∧ Sz 9000 u ∧ Sz 9000 t' ∧ Sz 9000 u' ∧ Q (.bl (lessA t u t' u' al)) H
theorem Kp.get {h q : Addr} {H H' : Hp} {o : HO} {n : Nat} (k : Kp h H H') (hh : HandAt H h n) (e : H q = some o) (no : notHand o = true) : H' q = some o := k _ _ e (hh.apart e no)
theorem _root_.L2.Same.get {q : Addr} {H H' : Hp} {o : HO} (k : Same H H') (e : H q = some o) : H' q = some o := k _ _ e
theorem _root_.L2.Same.ofKp {h : Addr} {H H1 H2 : Hp} (s : Same H H1) (nh : H h = none) (k : Kp h H1 H2) : Same H H2 := fun c o e => k c o (s c o e) (ne_of_none e nh)
theorem _root_.L2.Same.up {p : Addr} {H H1 : Hp} {u : HO} (s : Same H H1) (hp : H1 p = none) : Same H (upd H1 p u) := s.trans (same1 hp)
theorem isTrueN {b : Bool} (h : ¬ b = true) : b = false := by cases b <;> simp_all
theorem sgn_cases (b : Int) : sgn b = 1 ∨ sgn b = -1 := by unfold sgn; split <;> simp
/-! ### rules with the written part by its name (for the blocks of comprehensions) -/
section
variable {X : Cx} {K : PySem.W.Frag}
theorem ixl (hK : X.K = K := by rfl) : IxR X (rIxL K) := by subst hK; exact ix_list
theorem ixt (hK : X.K = K := by rfl) : IxR X (rIxT K) := by subst hK; exact ix_tup
theorem isi (hK : X.K = K := by rfl) : CallR X (.builtin "isinstance") (rIsi K) := by subst hK; exact call_isi
def rLenS (K : PySem.W.Frag) : List V → Hp → VK → Prop := fun xs H Q => ∃ p ys, xs = [.ref p] ∧ (SqL K H p ys ∨ SqT K H p ys) ∧ Q (.int (ys.length : Int)) H
theorem lenS (hK : X.K = K := by rfl) : CallR X (.builtin "len") (rLenS K) := by subst hK; exact call_len_seq
theorem allK (hK : X.K = K := by rfl) (hc : X.calm = true := by rfl) : CallR X (.builtin "all") (rAll K) := by subst hK; exact cr_all hc
theorem inK (hK : X.K = K := by rfl) : OpR X (compareOp .In) (rIn K false) := by subst hK; exact op_in_seq
theorem slL (hK : X.K = K := by rfl) : SlR X (rSlL K) := by subst hK; exact sl_list
theorem slT (hK : X.K = K := by rfl) : SlR X (rSlT K) := by subst hK; exact sl_tup
theorem catT (hK : X.K = K := by rfl) : OpR X (binaryOp .Add) (rCatT K) := by subst hK; exact op_catT
theorem fldK {e : Expr} {f : Str} {pos : Pos} {ta : TE} (he : PE X e ta) (hb : attributeBase e f X.env (eval e X.env) = eval e X.env) (hK : X.K = K := by rfl) : PE X (.Attribute e f pos) (tFld K ta f) := by subst hK; exact pe_fld he hb
end
theorem yesT {te : TE} {σ : L2.St} {H : Hp} {N : VK} {M : Hp → Prop} (h : te σ H N) : tYes σ H (fun b H3 => if b = true then te σ H3 N else M H3) := by
  show (if true = true then te σ H N else M H)
  rw [if_pos rfl]; exact h
theorem made_same {H H' : Hp} {x dx C : Addr} (nx : H x = none) (nd : H dx = none) (kp : ∀ c o, (upd (upd H dx (.own x)) x (.ins C dx [])) c = some o → c ≠ x → H' c = some o) : Same H H' := fun c o e => by
  have n1 : c ≠ x := ne_of_none e nx
  refine kp c o ?_ n1
  rw [upd_ne n1]
  exact up1 nd e
/-! ### the head's facts, and more of them -/
def obsM (n : Nat) (fa : List He.Fa) (fn : List He.DefD) (ex : List (PySem.W.Frag → Bool)) (g : Addr → Option Obj) : He.AlD × Bool := (He.obsDG n fa fn g, ex.all fun f => f (He.frG g (He.asD g n)))
def hookM (n : Nat) (fa : List He.Fa) (fn : List He.DefD) (ex : List (PySem.W.Frag → Bool)) : PySem.W.Hook where
  α := He.AlD × Bool
  obs := fun s => obsM n fa fn ex s.heap.get?
  val := fun _ => (He.valD fn, true)
  says := fun _ h => ∃ K : PySem.W.Frag, K.In h ∧ He.SaysD fa fn K ∧ (ex.all fun f => f K) = true
  of := fun _ _ e => ⟨_, He.frG_in, congrArg (fun z : He.AlD × Bool => z.1) e, congrArg (fun z : He.AlD × Bool => z.2) e⟩
  keeps := fun _ _ _ ⟨K, hK, c⟩ k => ⟨K, PySem.W.Frag.In.keeps hK k, c⟩
theorem obsM_eq {n : Nat} {fa : List He.Fa} {fn : List He.DefD} {ex : List (PySem.W.Frag → Bool)} {g : Addr → Option Obj} {s : Shared} (h : ∀ a, g a = s.heap.get? a) : obsM n fa fn ex g = (hookM n fa fn ex).obs s := by
  have e : g = s.heap.get? := funext h
  rw [e] <;> rfl
theorem ex_at {ex : List (PySem.W.Frag → Bool)} {K : PySem.W.Frag} (c : (ex.all fun f => f K) = true) (i : Nat) {f : PySem.W.Frag → Bool} (h : ex[i]? = some f) : f K = true := List.all_eq_true.mp c f (List.mem_of_getElem? h)
/-- what isinstance asks of an own class -/
structure IsC (K : PySem.W.Frag) (C : Addr) : Prop where
  ha : PySem.W.findIn K (.ref C) "__class__" = some (some (.builtin "object.__class__"))
  hn : PySem.W.specialIn K (.builtin "object.__class__") "__get__" = some (some (.builtin "getset_descriptor.__get__"))
  htk : PySem.W.takesIn K (.builtin "object.__class__") = some true
  hm : PySem.W.mroIn K C (.type "object") = some true
def isCB (x : Str) : PySem.W.Frag → Bool := fun K => He.eqO (PySem.W.findIn K (.ref (He.ga K x)) "__class__") (some (some (.builtin "object.__class__"))) && (He.eqO (PySem.W.specialIn K (.builtin "object.__class__") "__get__") (some (some (.builtin "getset_descriptor.__get__"))) &&
  (decide (PySem.W.takesIn K (.builtin "object.__class__") = some true) && decide (PySem.W.mroIn K (He.ga K x) (.type "object") = some true)))
theorem isC_ok {x : Str} {K : PySem.W.Frag} (c : isCB x K = true) : IsC K (He.ga K x) := by
  obtain ⟨c1, c⟩ := He.ba c
  obtain ⟨c2, c⟩ := He.ba c
  obtain ⟨c3, c4⟩ := He.ba c
  exact ⟨He.eqO_ok c1, He.eqO_ok c2, of_decide_eq_true c3, of_decide_eq_true c4⟩
/-- a class by name: an own one, a built-in one -/
def cv (K : PySem.W.Frag) : Str ⊕ String → Value
  | .inl x => .ref (He.ga K x)
  | .inr n => .type n
def kitF (a b : Str ⊕ String) (r : Bool) : PySem.W.Frag → Bool := fun K => decide (PySem.W.kitOne K (cv K a) (cv K b) = some r)
theorem kitF_ok {a b : Str ⊕ String} {r : Bool} {K : PySem.W.Frag} (c : kitF a b r K = true) : PySem.W.kitOne K (cv K a) (cv K b) = some r := of_decide_eq_true c
theorem tyM {K : PySem.W.Frag} {H : Hp} {a C dx : Addr} {fs : List (Str × V)} (e : H a = some (.ins C dx fs)) (cl : Cls K C) (i : IsC K C) : TyX K H (.ref a) (.ref C) := .base (.ins e cl i.ha i.hn i.htk i.hm)
/-! ### sums and parts of Measures -/
/-- the same fraction once more -/
theorem Fr.of {t u a b c d : Int} (f : Fr t u a b) (hb : b ≠ 0) (e : a * d = c * b) : t * d = c * u := by
  have h1 := f.eq
  have h2 : (t * d) * b = (c * u) * b := by
    calc (t * d) * b = (t * b) * d := by simp only [Int.mul_assoc, Int.mul_comm, Int.mul_left_comm]
      _ = (a * u) * d := by rw [h1]
      _ = (a * d) * u := by simp only [Int.mul_assoc, Int.mul_comm, Int.mul_left_comm]
      _ = (c * b) * u := by rw [e]
      _ = (c * u) * b := by simp only [Int.mul_assoc, Int.mul_comm, Int.mul_left_comm]
  exact Int.eq_of_mul_eq_mul_right hb h2
/-- what stood at the start stands (by another name than the steps') -/
structure Old (H H' : Hp) : Prop where
  s : Same H H'
theorem Old.refl (H : Hp) : Old H H := ⟨Same.refl _⟩
theorem Old.up {p : Addr} {H H1 : Hp} {u : HO} (a : Old H H1) (hp : H1 p = none) : Old H (upd H1 p u) := ⟨a.s.up hp⟩
theorem Old.then {H H1 H2 : Hp} (a : Old H H1) (b : Same H1 H2) : Old H H2 := ⟨a.s.trans b⟩
theorem Old.kp {h : Addr} {H H1 H2 : Hp} (a : Old H H1) (nh : H h = none) (k : Kp h H1 H2) : Old H H2 := ⟨a.s.ofKp nh k⟩
theorem Old.put {h : Addr} {H H1 : Hp} {u : HO} (a : Old H H1) (nh : H h = none) : Old H (upd H1 h u) := ⟨fun c o e => by rw [upd_ne (ne_of_none e nh)]; exact a.s _ _ e⟩
/-- a list is changed, what is no list stays -/
theorem up2 {H : Hp} {l x : Addr} {xs : List V} {o u : HO} (hl : H l = some (.lst xs)) (hx : H x = some o) (no : notHand o = true) : upd H l u x = some o := by
  rw [upd_ne (ne_of hx hl (by intro e; rw [e] at no; cases no))]; exact hx
end My
namespace My
open PySem PySem.Spec PyProof.Rows L2
/-! ### fractions as pairs, stretches as ends -/
abbrev Q2 := Int × Int
def ltq (a b : Q2) : Bool := decide (a.1 * b.2 < b.1 * a.2)
def eqq (a b : Q2) : Bool := decide (a.1 * b.2 = b.1 * a.2)
def someB : Option Q2 → Option Q2 → Bool → Bool → Bool
  | some a, some b, ia, ib => ltq a b || (eqq a b && ia && ib)
  | _, _, _, _ => true
def Re (a b : Q2) : Prop := 0 < a.2 ∧ 0 < b.2 ∧ a.1 * b.2 = b.1 * a.2
def ReO : Option Q2 → Option Q2 → Prop
  | none, none => True
  | some a, some b => Re a b
  | _, _ => False
theorem Re.symm {a b : Q2} (h : Re a b) : Re b a := ⟨h.2.1, h.1, h.2.2.symm⟩
theorem Re.refl {a : Q2} (h : 0 < a.2) : Re a a := ⟨h, h, rfl⟩
theorem ReO.symm : ∀ {a b : Option Q2}, ReO a b → ReO b a
  | none, none, _ => trivial
  | some _, some _, h => Re.symm h
  | none, some _, h => h.elim
  | some _, none, h => h.elim
theorem pos_key {a b c d : Q2} (h : Re a c) (g : Re b d) : (a.1 * b.2) * (c.2 * d.2) = (c.1 * d.2) * (a.2 * b.2) := by
  have := h.2.2
  grind
theorem pos_key' {a b c d : Q2} (h : Re a c) (g : Re b d) : (b.1 * a.2) * (c.2 * d.2) = (d.1 * c.2) * (a.2 * b.2) := by
  have := g.2.2
  grind
theorem ltq_congr {a b c d : Q2} (h : Re a c) (g : Re b d) : ltq a b = ltq c d := by
  unfold ltq
  have k1 := pos_key h g
  have k2 := pos_key' h g
  have p1 : 0 < c.2 * d.2 := Int.mul_pos h.2.1 g.2.1
  have p2 : 0 < a.2 * b.2 := Int.mul_pos h.1 g.1
  refine decide_eq_decide.mpr ⟨fun x => ?_, fun x => ?_⟩
  · have := Int.mul_lt_mul_of_pos_right x p1
    rw [k1, k2] at this
    exact Int.lt_of_mul_lt_mul_right this (Int.le_of_lt p2)
  · have := Int.mul_lt_mul_of_pos_right x p2
    rw [← k1, ← k2] at this
    exact Int.lt_of_mul_lt_mul_right this (Int.le_of_lt p1)
theorem eqq_congr {a b c d : Q2} (h : Re a c) (g : Re b d) : eqq a b = eqq c d := by
  unfold eqq
  have k1 := pos_key h g
  have k2 := pos_key' h g
  have p1 : 0 < c.2 * d.2 := Int.mul_pos h.2.1 g.2.1
  have p2 : 0 < a.2 * b.2 := Int.mul_pos h.1 g.1
  refine decide_eq_decide.mpr ⟨fun x => ?_, fun x => ?_⟩
  · rw [x] at k1
    rw [k1] at k2
    exact Int.eq_of_mul_eq_mul_right (by omega) k2
  · rw [x] at k1
    rw [← k2] at k1
    exact Int.eq_of_mul_eq_mul_right (by omega) k1
theorem someB_congr : ∀ {a b c d : Option Q2} {i j : Bool}, ReO a c → ReO b d → someB a b i j = someB c d i j
  | some a, some b, some c, some d, i, j, h, g => by
    show (ltq a b || (eqq a b && i && j)) = (ltq c d || (eqq c d && i && j))
    rw [ltq_congr h g, eqq_congr h g]
  | none, some _, none, some _, _, _, _, _ => rfl
  | none, none, none, none, _, _, _, _ => rfl
  | some _, none, some _, none, _, _, _, _ => rfl
  | some _, _, none, _, _, _, h, _ => h.elim
  | none, _, some _, _, _, _, h, _ => h.elim
  | some _, some _, some _, none, _, _, _, g => g.elim
  | some _, none, some _, some _, _, _, _, g => g.elim
  | none, some _, none, none, _, _, _, g => g.elim
  | none, none, none, some _, _, _, _, g => g.elim
theorem lt_tri (a b : Q2) : (ltq a b = true ∧ eqq a b = false ∧ ltq b a = false) ∨ (ltq a b = false ∧ eqq a b = true ∧ ltq b a = false) ∨ (ltq a b = false ∧ eqq a b = false ∧ ltq b a = true) := by
  unfold ltq eqq
  rcases Int.lt_trichotomy (a.1 * b.2) (b.1 * a.2) with h | h | h
  · exact .inl ⟨decide_eq_true h, decide_eq_false (by omega), decide_eq_false (by omega)⟩
  · exact .inr (.inl ⟨decide_eq_false (by omega), decide_eq_true h, decide_eq_false (by omega)⟩)
  · exact .inr (.inr ⟨decide_eq_false (by omega), decide_eq_false (by omega), decide_eq_true h⟩)
/-- in lowest terms, its numbers of less than four thousand bits -/
structure Low (a : Q2) : Prop where
  pos : 0 < a.2
  co : Int.gcd a.1 a.2 = 1
  s1 : Sz 4000 a.1
  s2 : Sz 4000 a.2
def LowO : Option Q2 → Prop
  | none => True
  | some a => Low a
theorem dvd_co {a b c : Int} (h : a ∣ b * c) (g : Int.gcd a b = 1) : a ∣ c := by
  have h1 : a.natAbs ∣ b.natAbs * c.natAbs := by rw [← Int.natAbs_mul]; exact Int.natAbs_dvd_natAbs.mpr h
  exact Int.natAbs_dvd_natAbs.mp (Nat.Coprime.dvd_of_dvd_mul_left g h1)
theorem low_eq {a b : Q2} (h : Low a) (g : Low b) (e : a.1 * b.2 = b.1 * a.2) : a = b := by
  have h1 := h.pos
  have g1 := g.pos
  have d1 : a.2 ∣ b.2 := by
    have : a.2 ∣ a.1 * b.2 := ⟨b.1, by rw [e, Int.mul_comm]⟩
    exact dvd_co this (by rw [Int.gcd_comm]; exact h.co)
  have d2 : b.2 ∣ a.2 := by
    have : b.2 ∣ b.1 * a.2 := ⟨a.1, by rw [← e, Int.mul_comm]⟩
    exact dvd_co this (by rw [Int.gcd_comm]; exact g.co)
  have e2 : a.2 = b.2 := Int.le_antisymm (Int.le_of_dvd g1 d1) (Int.le_of_dvd h1 d2)
  rw [e2] at e
  exact Prod.ext (Int.eq_of_mul_eq_mul_right (by omega) e) e2
theorem low_eqq {a b : Q2} (h : Low a) (g : Low b) : (decide (a.1 = b.1) && decide (a.2 = b.2)) = eqq a b := by
  unfold eqq
  by_cases e : a.1 * b.2 = b.1 * a.2
  · rw [decide_eq_true e, low_eq h g e]; simp
  · rw [decide_eq_false e]
    cases z1 : decide (a.1 = b.1) with
    | false => rfl
    | true =>
      cases z2 : decide (a.2 = b.2) with
      | false => rfl
      | true =>
        exact absurd (by rw [of_decide_eq_true z1, of_decide_eq_true z2]) e
/-! ### their values -/
/-- None, or the tuple of an end's two numbers -/
def EndV (k : Nat) (H : Hp) (v : V) : Option Q2 → Prop
  | none => v = .non
  | some a => ∃ p, v = .ref p ∧ H p = some (.tup [.int a.1, .int a.2]) ∧ 0 < a.2 ∧ Sz k a.1 ∧ Sz k a.2
theorem EndV.mono {k j : Nat} (l : k ≤ j) {H : Hp} {v : V} : ∀ {e : Option Q2}, EndV k H v e → EndV j H v e
  | none, h => h
  | some _, ⟨p, h1, h2, h3, h4, h5⟩ => ⟨p, h1, h2, h3, h4.mono l, h5.mono l⟩
def MsV (C : Addr) (H : Hp) (v : V) : Option Q2 → Prop
  | none => v = .non
  | some a => ∃ p, v = .ref p ∧ MAt C H p a.1 a.2
theorem EndV.same {k : Nat} {H H' : Hp} {v : V} : ∀ {e : Option Q2}, EndV k H v e → Same H H' → EndV k H' v e
  | none, h, _ => h
  | some _, ⟨p, h1, h2, h3⟩, s => ⟨p, h1, s _ _ h2, h3⟩
theorem EndV.kp {j : Nat} {H H' : Hp} {h : Addr} {n : Nat} {v : V} : ∀ {e : Option Q2}, EndV j H v e → HandAt H h n → Kp h H H' → EndV j H' v e
  | none, h, _, _ => h
  | some _, ⟨p, h1, h2, h3⟩, hh, k => ⟨p, h1, k.get hh h2 rfl, h3⟩
theorem MsV.same {C : Addr} {H H' : Hp} {v : V} : ∀ {e : Option Q2}, MsV C H v e → Same H H' → MsV C H' v e
  | none, h, _ => h
  | some _, ⟨p, h1, h2⟩, s => ⟨p, h1, h2.same s⟩
theorem MsV.kp {C : Addr} {H H' : Hp} {h : Addr} {n : Nat} {v : V} : ∀ {e : Option Q2}, MsV C H v e → HandAt H h n → Kp h H H' → MsV C H' v e
  | none, h, _, _ => h
  | some _, ⟨p, h1, h2⟩, hh, k => ⟨p, h1, h2.kp hh k⟩
/-! ### a Stretch -/
def sf (l h : V) (li hi : Bool) : List (Str × V) := [("low", l), ("high", h), ("low_in", .bl li), ("high_in", .bl hi)]
theorem sf_put (l h : V) (li hi : Bool) : putF "high_in" (.bl hi) (putF "low_in" (.bl li) (putF "high" h (putF "low" l []))) = sf l h li hi := by
  have e1 : putF ("high" : Str) h (putF ("low" : Str) l []) = ([("low", l), ("high", h)] : List (Str × V)) := by
    show (if ("low" : Str) = "high" then [(("low" : Str), h)] else (("low" : Str), l) :: putF "high" h []) = _
    rw [if_neg (by decide +kernel)] <;> rfl
  have e2 : putF ("low_in" : Str) (.bl li) [("low", l), ("high", h)] = ([("low", l), ("high", h), ("low_in", .bl li)] : List (Str × V)) := by
    show (if ("low" : Str) = "low_in" then _ else (("low" : Str), l) :: (if ("high" : Str) = "low_in" then _ else (("high" : Str), h) :: putF "low_in" (V.bl li) [])) = _
    rw [if_neg (by decide +kernel), if_neg (by decide +kernel)] <;> rfl
  have e3 : putF ("high_in" : Str) (.bl hi) [("low", l), ("high", h), ("low_in", .bl li)] = sf l h li hi := by
    show (if ("low" : Str) = "high_in" then _ else (("low" : Str), l) :: (if ("high" : Str) = "high_in" then _ else (("high" : Str), h) :: (if ("low_in" : Str) = "high_in" then _ else (("low_in" : Str), V.bl li) :: putF "high_in" (V.bl hi) []))) = _
    rw [if_neg (by decide +kernel), if_neg (by decide +kernel), if_neg (by decide +kernel)] <;> rfl
  rw [e1, e2, e3]
theorem sf_low (l h : V) (li hi : Bool) : (sf l h li hi).lookup ("low" : Str) = some l := by
  rw [← sf_put, lookup_putF, if_neg (by decide +kernel), lookup_putF, if_neg (by decide +kernel), lookup_putF, if_neg (by decide +kernel), lookup_putF, if_pos rfl]
theorem sf_high (l h : V) (li hi : Bool) : (sf l h li hi).lookup ("high" : Str) = some h := by
  rw [← sf_put, lookup_putF, if_neg (by decide +kernel), lookup_putF, if_neg (by decide +kernel), lookup_putF, if_pos rfl]
theorem sf_low_in (l h : V) (li hi : Bool) : (sf l h li hi).lookup ("low_in" : Str) = some (.bl li) := by
  rw [← sf_put, lookup_putF, if_neg (by decide +kernel), lookup_putF, if_pos rfl]
theorem sf_high_in (l h : V) (li hi : Bool) : (sf l h li hi).lookup ("high_in" : Str) = some (.bl hi) := by
  rw [← sf_put, lookup_putF, if_pos rfl]
theorem sf_no (l h : V) (li hi : Bool) {m : Str} (h1 : ¬ m = "low") (h2 : ¬ m = "high") (h3 : ¬ m = "low_in") (h4 : ¬ m = "high_in") : (sf l h li hi).lookup m = none := by
  rw [← sf_put, lookup_putF, if_neg h4, lookup_putF, if_neg h3, lookup_putF, if_neg h2, lookup_putF, if_neg h1] <;> rfl
/-- a Stretch at p: its ends, whether they are in -/
structure StAt (CM CS : Addr) (H : Hp) (p : Addr) (lo hi : Option Q2) (li hj : Bool) : Prop where
  ob : ∃ dx l h, H p = some (.ins CS dx (sf l h li hj)) ∧ MsV CM H l lo ∧ MsV CM H h hi
  l1 : LowO lo
  l2 : LowO hi
  n1 : lo = none → li = false
  n2 : hi = none → hj = false
theorem StAt.same {CM CS p : Addr} {H H' : Hp} {lo hi : Option Q2} {li hj : Bool} (a : StAt CM CS H p lo hi li hj) (s : Same H H') : StAt CM CS H' p lo hi li hj := by
  obtain ⟨⟨dx, l, h, h1, h2, h3⟩, a1, a2, a3, a4⟩ := a
  exact ⟨⟨dx, l, h, s _ _ h1, h2.same s, h3.same s⟩, a1, a2, a3, a4⟩
theorem StAt.kp {CM CS p h : Addr} {H H' : Hp} {n : Nat} {lo hi : Option Q2} {li hj : Bool} (a : StAt CM CS H p lo hi li hj) (hh : HandAt H h n) (s : Kp h H H') : StAt CM CS H' p lo hi li hj := by
  obtain ⟨⟨dx, l, h, h1, h2, h3⟩, a1, a2, a3, a4⟩ := a
  exact ⟨⟨dx, l, h, s.get hh h1 rfl, h2.kp hh s, h3.kp hh s⟩, a1, a2, a3, a4⟩
theorem cmpBack_of {X : Cx} {pins : List (Addr × Obj)} {σ : L2.St} {Q : VK} {u : Value} {s' : Shared} (h : EP X pins σ Q u s') : PySem.W.CmpBack (EP X pins σ Q) u s' := by
  have h0 := h
  obtain ⟨v, H', I', r, q⟩ := h
  cases v with
  | non => cases r; exact h0
  | bl _ => cases r; exact h0
  | int _ => obtain ⟨t, rfl⟩ := r; exact h0
  | str _ => obtain ⟨t, rfl⟩ := r; exact h0
  | byt _ => obtain ⟨t, rfl⟩ := r; exact h0
  | flt _ => obtain ⟨t, rfl⟩ := r; exact h0
  | ref _ => cases r; exact h0
  | ty _ => cases r; exact h0
/-- == by an own __eq__, of two instances of one class -/
theorem op_eqI {X : Cx} {CX : CXT} {n : Nat} {C f : Addr} {fd : FuncData} {ps : List Str} {sp : Sp} {E : XK} (F : FnOk X.prog X.w X.K X.mg X.base CX n f fd ps sp) (hr : Room n X.A) {ds : List Value} (hm : Meth X.K C "__eq__" f) (hb : Binds X.K fd ps ds) (hd : Vals [] ds) (hx : Passes CX X E) :
    OpR X (compareOp .Eq) (fun x y H Q => ∃ a b dx dy fs gs, x = .ref a ∧ y = .ref b ∧ H a = some (.ins C dx fs) ∧ H b = some (.ins C dy gs) ∧ sp [.ref a, .ref b] H Q E) := by
  intro pins s σ H x y v u Q I rx ry hq
  obtain ⟨a, b, dx, dy, fs, gs, rfl, rfl, ha, hb', hsp⟩ := hq
  cases rx
  cases ry
  show wpAny (model X.prog X.w) X.A (richCompare .Eq (.ref a) (.ref b)) (EP X pins σ Q) X.xe s
  obtain ⟨mA, J, _⟩ := ins_get I.hok ha
  obtain ⟨mB, J', _⟩ := ins_get I.hok hb'
  obtain ⟨od, J, _⟩ := J.look
  obtain ⟨od', J', _⟩ := J'.look
  obtain ⟨m, hF⟩ := I.fr
  refine PySem.W.cmp_K (op := .Eq) (tb := .ref C) hr.units0 hF I.ok.mod.kin J J'.type (by simp [PySem.W.notFirst]) hm.at_ hm.fn ?_
  refine thn ?_ fun u s' => cmpBack_of
  exact run_fn (us := [.ref a, .ref b]) (vs := [.ref a, .ref b]) F hr hb hd hx I (.cons rfl (.cons rfl .nil)) hsp
/-! ### promises -/
/-- the tuple of two ends and two truths, between which something is -/
structure EndsAt (H : Hp) (p : Addr) (ea eb : Option Q2) (ia ib : Bool) : Prop where
  ob : ∃ va vb, H p = some (.tup [va, vb, .bl ia, .bl ib]) ∧ EndV 140 H va ea ∧ EndV 140 H vb eb
  so : someB ea eb ia ib = true
theorem EndsAt.same {H H' : Hp} {p : Addr} {ea eb : Option Q2} {ia ib : Bool} (a : EndsAt H p ea eb ia ib) (s : Same H H') : EndsAt H' p ea eb ia ib := by
  obtain ⟨⟨va, vb, h1, h2, h3⟩, h4⟩ := a
  exact ⟨⟨va, vb, s _ _ h1, h2.same s, h3.same s⟩, h4⟩
theorem EndsAt.kp {H H' : Hp} {p h : Addr} {n : Nat} {ea eb : Option Q2} {ia ib : Bool} (a : EndsAt H p ea eb ia ib) (hh : HandAt H h n) (s : Kp h H H') : EndsAt H' p ea eb ia ib := by
  obtain ⟨⟨va, vb, h1, h2, h3⟩, h4⟩ := a
  exact ⟨⟨va, vb, s.get hh h1 rfl, h2.kp hh s, h3.kp hh s⟩, h4⟩
def sp_isend (CM : Addr) : Sp := fun vs H Q _ => ∃ (v : V) (m : Option Q2), vs = [v] ∧ MsV CM H v m ∧ Q (.bl true) H
def sp_meq (CM : Addr) : Sp := fun vs H Q _ => ∃ (p q : Addr) (a b : Q2), vs = [.ref p, .ref q] ∧ MAt CM H p a.1 a.2 ∧ MAt CM H q b.1 b.2 ∧ Q (.bl (decide (a.1 = b.1) && decide (a.2 = b.2))) H
def sp_empty (CM : Addr) : Sp := fun vs H Q _ => ∃ (l h : V) (lo hi : Option Q2) (li hj : Bool), vs = [l, h, .bl li, .bl hj] ∧ MsV CM H l lo ∧ MsV CM H h hi ∧ LowO lo ∧ LowO hi ∧ Q (.bl (!someB lo hi li hj)) H
def sp_sinit (CM CS : Addr) : Sp := fun vs H Q _ => ∃ (p dx : Addr) (l h : V) (lo hi : Option Q2) (li hj : Bool), vs = [.ref p, l, h, .bl li, .bl hj] ∧ H p = some (.ins CS dx []) ∧ MsV CM H l lo ∧ MsV CM H h hi ∧ LowO lo ∧ LowO hi ∧ someB lo hi li hj = true ∧
  ∀ H', H' p = some (.ins CS dx (sf l h (li && lo.isSome) (hj && hi.isSome))) → (∀ q o, H q = some o → q ≠ p → H' q = some o) → Q .non H'
theorem MsV.put {CM p C dx : Addr} {H : Hp} {v : V} {o : HO} (hp : H p = some (.ins C dx [])) : ∀ {m : Option Q2}, MsV CM H v m → MsV CM (upd H p o) v m
  | none, h => h
  | some _, ⟨q, h1, ⟨dy, h2⟩⟩ => ⟨q, h1, ⟨dy, by
      rw [upd_ne (ne_of h2 hp (by intro e; injection e with _ _ e; cases e))]; exact h2⟩⟩
theorem StAt.mk' {CM CS p dx : Addr} {H H' : Hp} {l h : V} {lo hi : Option Q2} {li hj : Bool} (h1 : H' p = some (.ins CS dx (sf l h (li && lo.isSome) (hj && hi.isSome)))) (s : Same H H') (ml : MsV CM H l lo) (mh : MsV CM H h hi) (l1 : LowO lo) (l2 : LowO hi) :
    StAt CM CS H' p lo hi (li && lo.isSome) (hj && hi.isSome) :=
  ⟨⟨dx, l, h, h1, ml.same s, mh.same s⟩, l1, l2, fun e => by rw [e]; simp, fun e => by rw [e]; simp⟩
theorem ReO.isS : ∀ {a b : Option Q2}, ReO a b → a.isSome = b.isSome
  | none, none, _ => rfl
  | some _, some _, _ => rfl
  | none, some _, h => h.elim
  | some _, none, h => h.elim
/-! ### what two stretches have in common -/
def cutLo : Option Q2 → Bool → Option Q2 → Bool → Option Q2 × Bool
  | none, _, n, j => (n, j)
  | some a, i, none, _ => (some a, i)
  | some a, i, some b, j => if ltq a b then (some b, j) else if eqq a b then (some a, i && j) else (some a, i)
def cutHi : Option Q2 → Bool → Option Q2 → Bool → Option Q2 × Bool
  | none, _, n, j => (n, j)
  | some a, i, none, _ => (some a, i)
  | some a, i, some b, j => if ltq b a then (some b, j) else if eqq a b then (some a, i && j) else (some a, i)
/-- the same end, and in or not alike where there is one -/
def Alike (x y : Option Q2 × Bool) : Prop := ReO x.1 y.1 ∧ (x.1.isSome = true → x.2 = y.2)
theorem Alike.flag {x y : Option Q2 × Bool} (h : Alike x y) : (x.2 && x.1.isSome) = (y.2 && y.1.isSome) := by
  obtain ⟨h1, h2⟩ := h
  rw [← h1.isS]
  cases e : x.1.isSome with
  | true => rw [h2 e]
  | false => simp
theorem Alike.someB {x y z w : Option Q2 × Bool} (h : Alike x y) (g : Alike z w) : My.someB x.1 z.1 x.2 z.2 = My.someB y.1 w.1 y.2 w.2 := by
  obtain ⟨x, i⟩ := x
  obtain ⟨y, j⟩ := y
  obtain ⟨z, k⟩ := z
  obtain ⟨w, l⟩ := w
  obtain ⟨h1, h2⟩ := h
  obtain ⟨g1, g2⟩ := g
  rw [someB_congr h1 g1]
  cases x with
  | none => cases y with
    | none => rfl
    | some _ => exact h1.elim
  | some a => cases z with
    | none => cases w with
      | none => cases y <;> rfl
      | some _ => exact g1.elim
    | some b =>
      have e1 : i = j := h2 rfl
      have e2 : k = l := g2 rfl
      rw [e1, e2]
theorem Alike.norm {a b : Option Q2} {i : Bool} (h : ReO a b) : Alike (a, i && b.isSome) (b, i) := ⟨h, fun e => by
  have e1 : a.isSome = true := e
  rw [h.isS] at e1
  show (i && b.isSome) = i
  rw [e1]; simp⟩
theorem cutLo_alike {x y z w : Option Q2 × Bool} (h : Alike x y) (g : Alike z w) : Alike (cutLo x.1 x.2 z.1 z.2) (cutLo y.1 y.2 w.1 w.2) := by
  obtain ⟨x, i⟩ := x
  obtain ⟨y, j⟩ := y
  obtain ⟨z, k⟩ := z
  obtain ⟨w, l⟩ := w
  obtain ⟨h1, h2⟩ := h
  obtain ⟨g1, g2⟩ := g
  cases x with
  | none => cases y with
    | none => exact ⟨g1, g2⟩
    | some _ => exact h1.elim
  | some a => cases y with
    | none => exact h1.elim
    | some a' => cases z with
      | none => cases w with
        | none => exact ⟨h1, h2⟩
        | some _ => exact g1.elim
      | some b => cases w with
        | none => exact g1.elim
        | some b' =>
          have e1 : i = j := h2 rfl
          have e2 : k = l := g2 rfl
          show Alike (if ltq a b then (some b, k) else if eqq a b then (some a, i && k) else (some a, i)) (if ltq a' b' then (some b', l) else if eqq a' b' then (some a', j && l) else (some a', j))
          rw [ltq_congr h1 g1, eqq_congr h1 g1, e1, e2]
          split
          · exact ⟨g1, fun _ => rfl⟩
          · split
            · exact ⟨h1, fun _ => rfl⟩
            · exact ⟨h1, fun _ => rfl⟩
theorem cutHi_alike {x y z w : Option Q2 × Bool} (h : Alike x y) (g : Alike z w) : Alike (cutHi x.1 x.2 z.1 z.2) (cutHi y.1 y.2 w.1 w.2) := by
  obtain ⟨x, i⟩ := x
  obtain ⟨y, j⟩ := y
  obtain ⟨z, k⟩ := z
  obtain ⟨w, l⟩ := w
  obtain ⟨h1, h2⟩ := h
  obtain ⟨g1, g2⟩ := g
  cases x with
  | none => cases y with
    | none => exact ⟨g1, g2⟩
    | some _ => exact h1.elim
  | some a => cases y with
    | none => exact h1.elim
    | some a' => cases z with
      | none => cases w with
        | none => exact ⟨h1, h2⟩
        | some _ => exact g1.elim
      | some b => cases w with
        | none => exact g1.elim
        | some b' =>
          have e1 : i = j := h2 rfl
          have e2 : k = l := g2 rfl
          show Alike (if ltq b a then (some b, k) else if eqq a b then (some a, i && k) else (some a, i)) (if ltq b' a' then (some b', l) else if eqq a' b' then (some a', j && l) else (some a', j))
          rw [ltq_congr g1 h1, eqq_congr h1 g1, e1, e2]
          split
          · exact ⟨g1, fun _ => rfl⟩
          · split
            · exact ⟨h1, fun _ => rfl⟩
            · exact ⟨h1, fun _ => rfl⟩
theorem cutLo_low {a b : Option Q2} {i j : Bool} (h : LowO a) (g : LowO b) : LowO (cutLo a i b j).1 := by
  cases a with
  | none => exact g
  | some a => cases b with
    | none => exact h
    | some b =>
      show LowO (if ltq a b then (some b, j) else if eqq a b then (some a, i && j) else (some a, i)).1
      split
      · exact g
      · split <;> exact h
theorem cutHi_low {a b : Option Q2} {i j : Bool} (h : LowO a) (g : LowO b) : LowO (cutHi a i b j).1 := by
  cases a with
  | none => exact g
  | some a => cases b with
    | none => exact h
    | some b =>
      show LowO (if ltq b a then (some b, j) else if eqq a b then (some a, i && j) else (some a, i)).1
      split
      · exact g
      · split <;> exact h
def sp_cutEnd (CM CS : Addr) (f : Option Q2 → Option Q2 → Bool → Bool → Option Q2 → Option Q2 → Bool → Bool → Option Q2 × Bool) : Sp := fun vs H Q _ => ∃ (p q : Addr) (m1 m2 n1 n2 : Option Q2) (i1 i2 j1 j2 : Bool), vs = [.ref p, .ref q] ∧ StAt CM CS H p m1 m2 i1 i2 ∧ StAt CM CS H q n1 n2 j1 j2 ∧
  ∀ (r : Addr) (v : V) (H' : Hp), Same H H' → H' r = some (.tup [v, .bl (f m1 m2 i1 i2 n1 n2 j1 j2).2]) → MsV CM H' v (f m1 m2 i1 i2 n1 n2 j1 j2).1 → Q (.ref r) H'
/-- a Stretch, or None where nothing is between -/
def CutV (CM CS : Addr) (H : Hp) (v : V) (lo hi : Option Q2 × Bool) : Prop :=
  (someB lo.1 hi.1 lo.2 hi.2 = true ∧ ∃ r, v = .ref r ∧ StAt CM CS H r lo.1 hi.1 (lo.2 && lo.1.isSome) (hi.2 && hi.1.isSome)) ∨ (someB lo.1 hi.1 lo.2 hi.2 = false ∧ v = .non)
def sp_cutS (CM CS : Addr) : Sp := fun vs H Q _ => ∃ (p q : Addr) (m1 m2 n1 n2 : Option Q2) (i1 i2 j1 j2 : Bool), vs = [.ref p, .ref q] ∧ StAt CM CS H p m1 m2 i1 i2 ∧ StAt CM CS H q n1 n2 j1 j2 ∧
  ∀ (v : V) (H' : Hp), Same H H' → CutV CM CS H' v (cutLo m1 i1 n1 j1) (cutHi m2 i2 n2 j2) → Q v H'
/-- the law's own: a tuple of four, or None -/
def DueV (H : Hp) (v : V) (lo hi : Option Q2 × Bool) : Prop :=
  (someB lo.1 hi.1 lo.2 hi.2 = true ∧ ∃ r, v = .ref r ∧ EndsAt H r lo.1 hi.1 lo.2 hi.2) ∨ (someB lo.1 hi.1 lo.2 hi.2 = false ∧ v = .non)
theorem DueV.same {H H' : Hp} {v : V} {lo hi : Option Q2 × Bool} (h : DueV H v lo hi) (s : Same H H') : DueV H' v lo hi := by
  rcases h with ⟨h1, r, h2, h3⟩ | h
  · exact .inl ⟨h1, r, h2, h3.same s⟩
  · exact .inr h
theorem CutV.same {CM CS : Addr} {H H' : Hp} {v : V} {lo hi : Option Q2 × Bool} (h : CutV CM CS H v lo hi) (s : Same H H') : CutV CM CS H' v lo hi := by
  rcases h with ⟨h1, r, h2, h3⟩ | h
  · exact .inl ⟨h1, r, h2, h3.same s⟩
  · exact .inr h
/-- what is told is what is due -/
def Match (CM CS : Addr) (H : Hp) (found due : V) : Prop :=
  (found = .non ∧ due = .non) ∨ ∃ (r d : Addr) (lo hi ea eb : Option Q2) (ia ib : Bool), found = .ref r ∧ due = .ref d ∧ EndsAt H d ea eb ia ib ∧ StAt CM CS H r lo hi (ia && ea.isSome) (ib && eb.isSome) ∧ ReO lo ea ∧ ReO hi eb
theorem Match.same {CM CS : Addr} {H H' : Hp} {f d : V} (h : Match CM CS H f d) (s : Same H H') : Match CM CS H' f d := by
  rcases h with h | ⟨r, d, lo, hi, ea, eb, ia, ib, h1, h2, h3, h4, h5, h6⟩
  · exact .inl h
  · exact .inr ⟨r, d, lo, hi, ea, eb, ia, ib, h1, h2, h3.same s, h4.same s, h5, h6⟩
theorem Re.trans {a b c : Q2} (h : Re a b) (g : Re b c) : Re a c := by
  obtain ⟨h1, h2, h3⟩ := h
  obtain ⟨g1, g2, g3⟩ := g
  refine ⟨h1, g2, Int.eq_of_mul_eq_mul_right (show b.2 ≠ 0 by omega) ?_⟩
  grind
theorem ReO.trans : ∀ {a b c : Option Q2}, ReO a b → ReO b c → ReO a c
  | none, none, none, _, _ => trivial
  | some _, some _, some _, h, g => Re.trans h g
  | none, some _, _, h, _ => h.elim
  | some _, none, _, h, _ => h.elim
  | none, none, some _, _, g => g.elim
  | some _, some _, none, _, g => g.elim
def PosO : Option Q2 → Prop
  | none => True
  | some a => 0 < a.2
theorem ReO.refl : ∀ {a : Option Q2}, PosO a → ReO a a
  | none, _ => trivial
  | some _, h => Re.refl h
theorem Alike.trans {x y z : Option Q2 × Bool} (h : Alike x y) (g : Alike y z) : Alike x z := ⟨h.1.trans g.1, fun e => (h.2 e).trans (g.2 (by rw [← h.1.isS]; exact e))⟩
theorem StAt.raw {CM CS p : Addr} {H : Hp} {lo hi : Option Q2} {li hj : Bool} (a : StAt CM CS H p lo hi li hj) {m : Str} (h1 : ¬ m = "low") (h2 : ¬ m = "high") (h3 : ¬ m = "low_in") (h4 : ¬ m = "high_in") : ∃ dx fs, H p = some (.ins CS dx fs) ∧ fs.lookup m = none := by
  obtain ⟨⟨dx, l, h, e, _⟩, _⟩ := a
  exact ⟨dx, _, e, sf_no _ _ _ _ h1 h2 h3 h4⟩
theorem EndsAt.due {H : Hp} {p : Addr} {ea eb : Option Q2} {ia ib : Bool} (a : EndsAt H p ea eb ia ib) : DueV H (.ref p) (ea, ia) (eb, ib) := .inl ⟨a.so, p, rfl, a⟩
/-! ### what a stretch holds -/
def loIn : Option Q2 → Bool → Q2 → Bool
  | none, _, _ => true
  | some a, i, x => ltq a x || (i && eqq a x)
def hiIn : Option Q2 → Bool → Q2 → Bool
  | none, _, _ => true
  | some b, j, x => ltq x b || (j && eqq x b)
theorem ltq_trans {a b c : Q2} (hb : 0 < b.2) (ha : 0 < a.2) (hc : 0 < c.2) (h : ltq a b = true) (g : ltq b c = true) : ltq a c = true := by
  unfold ltq at *
  have h := of_decide_eq_true h
  have g := of_decide_eq_true g
  refine decide_eq_true ?_
  have h2 := Int.mul_lt_mul_of_pos_right h hc
  have g2 := Int.mul_lt_mul_of_pos_right g ha
  have e1 : b.1 * a.2 * c.2 = b.1 * c.2 * a.2 := by simp only [Int.mul_assoc, Int.mul_comm, Int.mul_left_comm]
  rw [e1] at h2
  have k := Int.lt_trans h2 g2
  have e2 : a.1 * b.2 * c.2 = a.1 * c.2 * b.2 := by simp only [Int.mul_assoc, Int.mul_comm, Int.mul_left_comm]
  have e3 : c.1 * b.2 * a.2 = c.1 * a.2 * b.2 := by simp only [Int.mul_assoc, Int.mul_comm, Int.mul_left_comm]
  rw [e2, e3] at k
  exact Int.lt_of_mul_lt_mul_right k (Int.le_of_lt hb)
theorem eqq_re {a b : Q2} (ha : 0 < a.2) (hb : 0 < b.2) (h : eqq a b = true) : Re a b := ⟨ha, hb, of_decide_eq_true h⟩
theorem loIn_up {a b x : Q2} {i j : Bool} (ha : 0 < a.2) (hb : 0 < b.2) (hx : 0 < x.2) (h : ltq a b = true) (g : (ltq b x || (j && eqq b x)) = true) : (ltq a x || (i && eqq a x)) = true := by
  have e : ltq a x = true := by
    cases e1 : ltq b x with
    | true => exact ltq_trans hb ha hx h e1
    | false =>
      rw [e1, Bool.false_or] at g
      have e2 := (Bool.and_eq_true_iff.mp g).2
      rw [← ltq_congr (Re.refl ha) (eqq_re hb hx e2)]
      exact h
  rw [e]; rfl
theorem hiIn_up {a b x : Q2} {i j : Bool} (ha : 0 < a.2) (hb : 0 < b.2) (hx : 0 < x.2) (h : ltq b a = true) (g : (ltq x b || (j && eqq x b)) = true) : (ltq x a || (i && eqq x a)) = true := by
  have e : ltq x a = true := by
    cases e1 : ltq x b with
    | true => exact ltq_trans hb hx ha e1 h
    | false =>
      rw [e1, Bool.false_or] at g
      have e2 := (Bool.and_eq_true_iff.mp g).2
      rw [ltq_congr (eqq_re hx hb e2) (Re.refl ha)]
      exact h
  rw [e]; rfl
theorem cutLo_in {a b : Option Q2} {i j : Bool} {x : Q2} (ha : PosO a) (hb : PosO b) (hx : 0 < x.2) : loIn (cutLo a i b j).1 (cutLo a i b j).2 x = (loIn a i x && loIn b j x) := by
  cases a with
  | none => rfl
  | some a => cases b with
    | none => exact (Bool.and_true _).symm
    | some b =>
      show loIn (if ltq a b then (some b, j) else if eqq a b then (some a, i && j) else (some a, i)).1 (if ltq a b then (some b, j) else if eqq a b then (some a, i && j) else (some a, i)).2 x = ((ltq a x || (i && eqq a x)) && (ltq b x || (j && eqq b x)))
      rcases lt_tri a b with ⟨h1, h2, h3⟩ | ⟨h1, h2, h3⟩ | ⟨h1, h2, h3⟩
      · rw [h1]
        show (ltq b x || (j && eqq b x)) = _
        cases e : (ltq b x || (j && eqq b x)) with
        | false => simp
        | true => rw [loIn_up ha hb hx h1 e]; rfl
      · rw [h1, h2]
        show (ltq a x || (i && j && eqq a x)) = _
        have r := eqq_re ha hb h2
        rw [← ltq_congr r (Re.refl hx), ← eqq_congr r (Re.refl hx)]
        cases ltq a x <;> cases eqq a x <;> cases i <;> cases j <;> rfl
      · rw [h1, h2]
        show (ltq a x || (i && eqq a x)) = _
        cases e : (ltq a x || (i && eqq a x)) with
        | false => rfl
        | true => rw [loIn_up hb ha hx h3 e]; rfl
theorem cutHi_in {a b : Option Q2} {i j : Bool} {x : Q2} (ha : PosO a) (hb : PosO b) (hx : 0 < x.2) : hiIn (cutHi a i b j).1 (cutHi a i b j).2 x = (hiIn a i x && hiIn b j x) := by
  cases a with
  | none => rfl
  | some a => cases b with
    | none => exact (Bool.and_true _).symm
    | some b =>
      show hiIn (if ltq b a then (some b, j) else if eqq a b then (some a, i && j) else (some a, i)).1 (if ltq b a then (some b, j) else if eqq a b then (some a, i && j) else (some a, i)).2 x = ((ltq x a || (i && eqq x a)) && (ltq x b || (j && eqq x b)))
      rcases lt_tri a b with ⟨h1, h2, h3⟩ | ⟨h1, h2, h3⟩ | ⟨h1, h2, h3⟩
      · rw [h3, h2]
        show (ltq x a || (i && eqq x a)) = _
        cases e : (ltq x a || (i && eqq x a)) with
        | false => rfl
        | true => rw [hiIn_up hb ha hx h1 e]; rfl
      · rw [h3, h2]
        show (ltq x a || (i && j && eqq x a)) = _
        have r := eqq_re ha hb h2
        rw [← ltq_congr (Re.refl hx) r, ← eqq_congr (Re.refl hx) r]
        cases ltq x a <;> cases eqq x a <;> cases i <;> cases j <;> rfl
      · rw [h3]
        show (ltq x b || (j && eqq x b)) = _
        cases e : (ltq x b || (j && eqq x b)) with
        | false => simp
        | true => rw [hiIn_up ha hb hx h3 e]; rfl
/-! ### sums, once more, by the size of the new bottom -/
def sp_bin2 (C : Addr) (f g : Int → Int → Int → Int → Int) : Sp := fun vs H Q _ => ∃ (p q : Addr) (t u t' u' : Int), vs = [.ref p, .ref q] ∧ MAt C H p t u ∧ MAt C H q t' u' ∧ 0 < u ∧ 0 < u' ∧ Sz 100000 t ∧ Sz 100000 u ∧ Sz 100000 t' ∧ Sz 100000 u' ∧ Sz 9000 (u * u') ∧
  ∀ (r : Addr) (t2 u2 : Int) (H' : Hp), H r = none → Same H H' → MAt C H' r t2 u2 → Fr t2 u2 (f t u t' u') (g t u t' u') → Q (.ref r) H'
def sp_part2 (C : Addr) : Sp := fun vs H Q _ => ∃ (p : Addr) (t u m : Int), vs = [.ref p, .int m] ∧ MAt C H p t u ∧ 0 < u ∧ m ≠ 0 ∧ Sz 100000 t ∧ Sz 100000 u ∧ Sz 100000 m ∧ Sz 9000 (u * m) ∧
  ∀ (r : Addr) (t2 u2 : Int) (H' : Hp), H r = none → Same H H' → MAt C H' r t2 u2 → Fr t2 u2 t (u * m) → Q (.ref r) H'
/-- a Measure that the stretch holds -/
structure Held (CM : Addr) (H : Hp) (r : Addr) (x : Q2) (lo hi : Option Q2) (li hj : Bool) : Prop where
  at_ : MAt CM H r x.1 x.2
  pos : 0 < x.2
  s1 : Sz 15000 x.1
  s2 : Sz 15000 x.2
  low : loIn lo li x = true
  high : hiIn hi hj x = true
/-- a Measure in both, or None -/
def ShV (CM : Addr) (H : Hp) (v : V) (m1 m2 n1 n2 : Option Q2) (i1 i2 j1 j2 : Bool) : Prop :=
  (someB (cutLo m1 i1 n1 j1).1 (cutHi m2 i2 n2 j2).1 (cutLo m1 i1 n1 j1).2 (cutHi m2 i2 n2 j2).2 = true ∧ ∃ r x, v = .ref r ∧ Held CM H r x m1 m2 i1 i2 ∧ Held CM H r x n1 n2 j1 j2) ∨
  (someB (cutLo m1 i1 n1 j1).1 (cutHi m2 i2 n2 j2).1 (cutLo m1 i1 n1 j1).2 (cutHi m2 i2 n2 j2).2 = false ∧ v = .non)
theorem Held.same {CM r : Addr} {H H' : Hp} {x : Q2} {lo hi : Option Q2} {li hj : Bool} (a : Held CM H r x lo hi li hj) (s : Same H H') : Held CM H' r x lo hi li hj := ⟨a.at_.same s, a.pos, a.s1, a.s2, a.low, a.high⟩
theorem ShV.same {CM : Addr} {H H' : Hp} {v : V} {m1 m2 n1 n2 : Option Q2} {i1 i2 j1 j2 : Bool} (a : ShV CM H v m1 m2 n1 n2 i1 i2 j1 j2) (s : Same H H') : ShV CM H' v m1 m2 n1 n2 i1 i2 j1 j2 := by
  rcases a with ⟨e, r, x, h1, h2, h3⟩ | h
  · exact .inl ⟨e, r, x, h1, h2.same s, h3.same s⟩
  · exact .inr h
theorem eqq_self (a : Q2) : eqq a a = true := decide_eq_true rfl
/-! ### lists of points, made in comprehensions -/
/-- all but lists stays -/
def Nl (H H' : Hp) : Prop := ∀ c o, H c = some o → notHand o = true → H' c = some o
theorem Nl.of {H H' : Hp} (s : Same H H') : Nl H H' := fun c o e _ => s c o e
theorem Nl.put {H : Hp} {l : Addr} {xs : List V} {u : HO} (h : H l = some (.lst xs)) : Nl H (upd H l u) := fun c o e no => up2 h e no
theorem EndV.nl {k : Nat} {H H' : Hp} {v : V} : ∀ {e : Option Q2}, EndV k H v e → Nl H H' → EndV k H' v e
  | none, h, _ => h
  | some _, ⟨p, h1, h2, h3⟩, s => ⟨p, h1, s _ _ h2 rfl, h3⟩
def PtV (k : Nat) (H : Hp) (v : V) : Prop := ∃ a : Q2, EndV k H v (some a)
theorem PtV.nl {k : Nat} {H H' : Hp} {v : V} (h : PtV k H v) (s : Nl H H') : PtV k H' v := by
  obtain ⟨a, h⟩ := h
  exact ⟨a, h.nl s⟩
def sp_points (sq : Hp → Addr → List V → Prop) : Sp := fun vs H Q _ => ∃ (h p : Addr) (n : Nat) (xs : List V), vs = [.ref h, .ref p] ∧ HandAt H h n ∧ n < 1000 ∧ sq H p xs ∧ xs.length ≤ 6 ∧ (∀ x ∈ xs, ∃ e, EndV 140 H x e) ∧
  ∀ (l : Addr) (ys : List V) (H' : Hp), H' l = some (.lst ys) → ys.length ≤ 100 → (∀ y ∈ ys, PtV 1000 H' y) → l ≠ h → HandAt H' h (n + 9) → Kp h H H' → Q (.ref l) H'
end My
namespace My
open PySem PySem.Spec PyProof.Rows L2
/-! ### errors -/
section
variable {P : Program} {w : World} {K : PySem.W.Frag} {mg : Str → Option Value} {base : Heap} {k : Nat} {f : Addr} {fd : FuncData} {ps : List Str}
/-- a def that lets nothing out keeps its promise where more may be let out -/
theorem lift {CX : CXT} {sp : Sp} (F : FnOk P w K mg base CX0 k f fd ps sp) : FnOk P w K mg base CX k f fd ps sp :=
  ⟨F.len, fun A outer s H args us vs Q E hr he hb hv hs => codeAny_mono (F.run A outer s H args us vs Q E hr he hb hv hs) fun r s' hq => by
    cases r with
    | error e => exact False.elim hq
    | ok fl => cases fl <;> exact hq⟩
end
section
variable {X : Cx} {CX : CXT} {k : Nat} {f C : Addr} {fd : FuncData} {ps : List Str} {sp : Sp} {dvs : List V} {ds : List Value} {x : Str} {p pos : Pos} {e : Expr} {es : List Expr} {t : TA} {E : L2.St → XK}
end
/-! ### several clauses, each with the error by the same name; nothing leaves -/
/-! ### facts of error classes -/
/-! ### things of any kind -/
/-- a thing that is no Measure and no Stretch; h: not the hand -/
def Thing (h : Addr) (H : Hp) (v : V) : Prop := v = .non ∨ (∃ b, v = .bl b) ∨ (∃ i, v = .int i) ∨ (∃ z, v = .str z) ∨ (∃ a xs, v = .ref a ∧ a ≠ h ∧ H a = some (.lst xs)) ∨ (∃ a xs, v = .ref a ∧ H a = some (.tup xs)) ∨ (∃ a kvs, v = .ref a ∧ H a = some (.dK kvs))
theorem Thing.same {h : Addr} {H H' : Hp} {v : V} (t : Thing h H v) (s : Same H H') : Thing h H' v := by
  rcases t with t | t | t | t | ⟨a, xs, e, n, t⟩ | ⟨a, xs, e, t⟩ | ⟨a, xs, e, t⟩
  · exact .inl t
  · exact .inr (.inl t)
  · exact .inr (.inr (.inl t))
  · exact .inr (.inr (.inr (.inl t)))
  · exact .inr (.inr (.inr (.inr (.inl ⟨a, xs, e, n, s _ _ t⟩))))
  · exact .inr (.inr (.inr (.inr (.inr (.inl ⟨a, xs, e, s _ _ t⟩)))))
  · exact .inr (.inr (.inr (.inr (.inr (.inr ⟨a, xs, e, s _ _ t⟩)))))
theorem Thing.kp {h : Addr} {n : Nat} {H H' : Hp} {v : V} (t : Thing h H v) (hh : HandAt H h n) (s : Kp h H H') : Thing h H' v := by
  rcases t with t | t | t | t | ⟨a, xs, e, n, t⟩ | ⟨a, xs, e, t⟩ | ⟨a, xs, e, t⟩
  · exact .inl t
  · exact .inr (.inl t)
  · exact .inr (.inr (.inl t))
  · exact .inr (.inr (.inr (.inl t)))
  · exact .inr (.inr (.inr (.inr (.inl ⟨a, xs, e, n, s _ _ t n⟩))))
  · exact .inr (.inr (.inr (.inr (.inr (.inl ⟨a, xs, e, s.get hh t rfl⟩)))))
  · exact .inr (.inr (.inr (.inr (.inr (.inr ⟨a, xs, e, s.get hh t rfl⟩)))))
/-- its class, as isinstance asks it -/
theorem Thing.ty {K : PySem.W.Frag} {h : Addr} {H : Hp} {v : V} (t : Thing h H v) : ∃ n : String, TyX K H v (.type n) ∧ (n = "NoneType" ∨ n = "bool" ∨ n = "int" ∨ n = "str" ∨ n = "list" ∨ n = "tuple" ∨ n = "dict") := by
  rcases t with rfl | ⟨b, rfl⟩ | ⟨i, rfl⟩ | ⟨z, rfl⟩ | ⟨a, xs, rfl, n, t⟩ | ⟨a, xs, rfl, t⟩ | ⟨a, xs, rfl, t⟩
  · exact ⟨_, .base .non, .inl rfl⟩
  · exact ⟨_, .base (.bl b), .inr (.inl rfl)⟩
  · exact ⟨_, .base (.int i), .inr (.inr (.inl rfl))⟩
  · exact ⟨_, .base (.str z), .inr (.inr (.inr (.inl rfl)))⟩
  · exact ⟨_, .base (.lst t), .inr (.inr (.inr (.inr (.inl rfl))))⟩
  · exact ⟨_, .base (.tup t), .inr (.inr (.inr (.inr (.inr (.inl rfl)))))⟩
  · exact ⟨_, .base (.dK t), .inr (.inr (.inr (.inr (.inr (.inr rfl)))))⟩
theorem Thing.of_lst {h a : Addr} {H : Hp} {xs : List V} (n : a ≠ h) (e : H a = some (.lst xs)) : Thing h H (.ref a) := .inr (.inr (.inr (.inr (.inl ⟨a, xs, rfl, n, e⟩))))
theorem Thing.of_tup {h a : Addr} {H : Hp} {xs : List V} (e : H a = some (.tup xs)) : Thing h H (.ref a) := .inr (.inr (.inr (.inr (.inr (.inl ⟨a, xs, rfl, e⟩)))))
theorem Thing.of_dct {h a : Addr} {H : Hp} {xs : List (Key × V)} (e : H a = some (.dK xs)) : Thing h H (.ref a) := .inr (.inr (.inr (.inr (.inr (.inr ⟨a, xs, rfl, e⟩)))))
end My
namespace My
open PySem PySem.Spec PyProof.Rows L2
/-! ### == and != by an own __eq__, beside things of any kind -/
section
open AutoSeq1 (wpAny_loadPart')
variable {prog : Program} {w : World} {A : Around} {E : Value → Shared → Prop} {s : Shared}
end
/-- a value of a built-in kind -/
inductive Bk (H : Hp) : V → String → Prop where
  | non : Bk H .non "NoneType"
  | bl (b : Bool) : Bk H (.bl b) "bool"
  | int (i : Int) : Bk H (.int i) "int"
  | str (z : Str) : Bk H (.str z) "str"
  | lst {a : Addr} {xs : List V} (e : H a = some (.lst xs)) : Bk H (.ref a) "list"
  | tup {a : Addr} {xs : List V} (e : H a = some (.tup xs)) : Bk H (.ref a) "tuple"
theorem Bk.ty {K : PySem.W.Frag} {H : Hp} {x : V} {T : String} (b : Bk H x T) : TyX K H x (.type T) := by
  cases b with
  | non => exact .base .non
  | bl b => exact .base (.bl b)
  | int i => exact .base (.int i)
  | str z => exact .base (.str z)
  | lst e => exact .base (.lst e)
  | tup e => exact .base (.tup e)
theorem Bk.same {H H' : Hp} {x : V} {T : String} (b : Bk H x T) (s : Same H H') : Bk H' x T := by
  cases b with
  | non => exact .non
  | bl b => exact .bl b
  | int i => exact .int i
  | str z => exact .str z
  | lst e => exact .lst (s _ _ e)
  | tup e => exact .tup (s _ _ e)
/-- the kinds that no own class stands under -/
def kinds : List String := ["NoneType", "bool", "int", "str", "list", "tuple"]
theorem Bk.mem {H : Hp} {x : V} {T : String} (b : Bk H x T) : T ∈ kinds := by
  cases b <;> simp [kinds]
/-- what == and != ask of a class with an own __eq__ and no own __ne__ -/
structure EqC (K : PySem.W.Frag) (C : Addr) : Prop where
  ne : PySem.W.findIn K (.ref C) "__ne__" = some (some (.builtin "object.__ne__"))
  ob : PySem.W.mroIn K C (.type "object") = some true
  sub : ∀ T, T ∈ kinds → PySem.W.subIn K (.ref C) (.type T) = some false
  nf : ∀ T, T ∈ kinds → PySem.W.notFirst K C (.type T) = true
  kit : ∀ T, T ∈ kinds → PySem.W.kitOne K (.type T) (.ref C) = some false
def eqCB (x : Str) : PySem.W.Frag → Bool := fun K => He.eqO (PySem.W.findIn K (.ref (He.ga K x)) "__ne__") (some (some (.builtin "object.__ne__"))) && (decide (PySem.W.mroIn K (He.ga K x) (.type "object") = some true) &&
  ((kinds.all fun T => decide (PySem.W.subIn K (.ref (He.ga K x)) (.type T) = some false)) && ((kinds.all fun T => PySem.W.notFirst K (He.ga K x) (.type T)) && (kinds.all fun T => decide (PySem.W.kitOne K (.type T) (.ref (He.ga K x)) = some false)))))
theorem eqC_ok {x : Str} {K : PySem.W.Frag} (c : eqCB x K = true) : EqC K (He.ga K x) := by
  obtain ⟨c1, c⟩ := He.ba c
  obtain ⟨c2, c⟩ := He.ba c
  obtain ⟨c3, c⟩ := He.ba c
  obtain ⟨c4, c5⟩ := He.ba c
  exact ⟨He.eqO_ok c1, of_decide_eq_true c2, fun T h => of_decide_eq_true (List.all_eq_true.mp c3 T h), fun T h => List.all_eq_true.mp c4 T h, fun T h => of_decide_eq_true (List.all_eq_true.mp c5 T h)⟩
section
variable {X : Cx} {pins : List (Addr × Obj)} {σ : L2.St} {H : Hp} {s : Shared} {A : Around} {E : Value → Shared → Prop}
end
/-- how == answers: x == y tells b, and nothing changes -/
abbrev Eqb := V → V → Hp → Bool → Prop
def RcB (X : Cx) (n : Nat) (D : Eqb) : Prop := ∀ (A : Around) (pins : List (Addr × Obj)) (s : Shared) (σ : L2.St) (H : Hp) (x y : V) (u v : Value) (b : Bool), Sub X n A → Inv X pins σ H s → RelV x u → RelV y v → D x y H b →
  wpAny (model X.prog X.w) A (richCompare .Eq u v) (fun r s' => r = .bool b ∧ Inv X pins σ H s') X.xe s
def EqB (X : Cx) (n : Nat) (D : Eqb) : Prop := ∀ (A : Around) (pins : List (Addr × Obj)) (s : Shared) (σ : L2.St) (H : Hp) (x y : V) (u v : Value) (b : Bool), Sub X n A → Inv X pins σ H s → RelV x u → RelV y v → D x y H b →
  wpAny (model X.prog X.w) A (eqBool u v) (fun r s' => r = b ∧ Inv X pins σ H s') X.xe s
def spEqB (R : Eqb) : Sp := fun vs H Q _ => ∃ x y b, vs = [x, y] ∧ R x y H b ∧ Q (.bl b) H
/-- the own object first -/
def DOwn (K : PySem.W.Frag) (C : Addr) (R : Eqb) : Eqb := fun x y H b => ∃ a dx fs tb, x = .ref a ∧ H a = some (.ins C dx fs) ∧ TyX K H y tb ∧ PySem.W.notFirst K C tb = true ∧ (x = y → b = true) ∧ R x y H b
/-- the own object behind a thing of a built-in kind -/
def DRef (C : Addr) (R : Eqb) : Eqb := fun x y H b => ∃ a dx fs T, y = .ref a ∧ H a = some (.ins C dx fs) ∧ Bk H x T ∧ (x = y → b = true) ∧ R y x H b
def DOr (D D' : Eqb) : Eqb := fun x y H b => D x y H b ∨ D' x y H b
section
variable {X : Cx} {n : Nat} {CX : CXT} {C f : Addr} {fd : FuncData} {ps : List Str} {R D D' : Eqb} {E : XK}
theorem RcB.mono {m : Nat} (h : RcB X n D) (l : n ≤ m) : RcB X m D := fun A pins s σ H x y u v b sb I rx ry d => h A pins s σ H x y u v b (sb.mono l) I rx ry d
theorem EqB.mono {m : Nat} (h : EqB X n D) (l : n ≤ m) : EqB X m D := fun A pins s σ H x y u v b sb I rx ry d => h A pins s σ H x y u v b (sb.mono l) I rx ry d
theorem RcB.or (h : RcB X n D) (h' : RcB X n D') : RcB X n (DOr D D') := fun A pins s σ H x y u v b sb I rx ry d => d.elim (h A pins s σ H x y u v b sb I rx ry) (h' A pins s σ H x y u v b sb I rx ry)
theorem EqB.or (h : EqB X n D) (h' : EqB X n D') : EqB X n (DOr D D') := fun A pins s σ H x y u v b sb I rx ry d => d.elim (h A pins s σ H x y u v b sb I rx ry) (h' A pins s σ H x y u v b sb I rx ry)
theorem eqFn_at (F : FnOk X.prog X.w X.K X.mg X.base CX n f fd ps (spEqB R)) (hb : Binds X.K fd ps []) (hx : Passes CX X E) {A : Around} {pins : List (Addr × Obj)} {s : Shared} {σ : L2.St} {H : Hp} {x y : V} {u v : Value} {b : Bool}
    (sb : Sub X n A) (I : Inv X pins σ H s) (rx : RelV x u) (ry : RelV y v) (d : R x y H b) : wpAny (model X.prog X.w) A (call (.ref f) [u, v]) (fun r s' => r = .bool b ∧ Inv X pins σ H s') X.xe s := by
  have hsp : spEqB R [x, y] H (fun z H' => z = .bl b ∧ H' = H) E := ⟨x, y, b, rfl, d, rfl, rfl⟩
  have e := I.env0
  have e0 : Env0 X.prog X.w X.K X.mg X.base A X.stack s H := ⟨by rw [sb.fr]; exact e.frames, e.mod, e.bs, e.bsz, e.funs, e.frf, e.hok, e.bare⟩
  have hl := F.len _ _ _ _ hsp
  have r2 : Vals [x, y] [u, v] := .cons rx (.cons ry .nil)
  have hbs := hb s [u, v] I.kIn (by simpa using hl)
  rw [List.append_nil] at hbs
  refine wpAny_call (codeAny_mono (F.run A X.stack s H ⟨[u, v], []⟩ [u, v] [x, y] _ E sb.room e0 hbs r2 hsp) fun r s' hq => ?_)
  cases r with
  | error e => exact hx pins σ H s e s' I hq
  | ok fl =>
    cases fl with
    | ret w =>
      obtain ⟨z, H', I', rz, ez, eh⟩ := I.after hq
      subst ez eh
      exact ⟨rz, I'⟩
    | next => exact False.elim hq
    | brk => exact False.elim hq
    | cont => exact False.elim hq
theorem rcB_own (F : FnOk X.prog X.w X.K X.mg X.base CX n f fd ps (spEqB R)) (hm : Meth X.K C "__eq__" f) (hb : Binds X.K fd ps []) (hx : Passes CX X E) : RcB X n (DOwn X.K C R) := by
  intro A pins s σ H x y u v b sb I rx ry d
  obtain ⟨a, dx, fs, tb, rfl, ha, ty, nf, _, d⟩ := d
  cases rx
  obtain ⟨mA, J, _⟩ := ins_get I.hok ha
  obtain ⟨od, J, _⟩ := J.look
  obtain ⟨m, hF⟩ := I.fr
  obtain ⟨P, Z, p, _⟩ := kit_of I ry ty
  refine PySem.W.cmp_K (op := .Eq) (tb := tb) sb.room.units0 hF I.ok.mod.kin J (Z.ty _ _ I.kIn p) nf hm.at_ hm.fn ?_
  refine thn (eqFn_at F hb hx sb I (x := V.ref a) rfl ry d) fun r s' q => ?_
  obtain ⟨rfl, I'⟩ := q
  exact ⟨rfl, I'⟩
def rEqB (D : Eqb) : R2 := fun x y H Q => ∃ b, D x y H b ∧ Q (.bl b) H
theorem op_eqB (h : RcB X n D) (hr : Room n X.A) : OpR X (compareOp .Eq) (rEqB D) := by
  intro pins s σ H x y u v Q I rx ry hq
  obtain ⟨b, d, q⟩ := hq
  show wpAny (model X.prog X.w) X.A (richCompare .Eq u v) (EP X pins σ Q) X.xe s
  refine thn (h X.A pins s σ H x y u v b ⟨hr, rfl⟩ I rx ry d) fun r s' z => ?_
  obtain ⟨rfl, I'⟩ := z
  exact ⟨.bl b, H, I', rfl, q⟩
/-- x != y, by the own == of x turned about -/
theorem op_neB (F : FnOk X.prog X.w X.K X.mg X.base CX n f fd ps (spEqB R)) (hm : Meth X.K C "__eq__" f) (c : EqC X.K C) (hb : Binds X.K fd ps []) (hx : Passes CX X E) (hr : Room (n + 1) X.A) :
    OpR X (compareOp .NotEq) (fun x y H Q => ∃ b, DOwn X.K C R x y H b ∧ Q (.bl (!b)) H) := by
  intro pins s σ H x y u v Q I rx ry hq
  obtain ⟨b, ⟨a, dx, fs, tb, rfl, ha, ty, nf, _, d⟩, q⟩ := hq
  cases rx
  show wpAny (model X.prog X.w) X.A (richCompare .NotEq (.ref a) v) (EP X pins σ Q) X.xe s
  obtain ⟨mA, J, _⟩ := ins_get I.hok ha
  obtain ⟨od, J, _⟩ := J.look
  obtain ⟨P, Z, p, _⟩ := kit_of I ry ty
  have sb : Sub X (n + 1) X.A := ⟨hr, rfl⟩
  have call1 : wpAny (model X.prog X.w) X.A (call (.builtin "object.__ne__") [.ref a, v]) (fun r s' => r = .bool (!b) ∧ Inv X pins σ H s') X.xe s := by
    refine wpAny_call (codeAny_call_builtin PySem.F.slot_object_ne.plain PySem.F.cmpEntry_ne (PySem.W.check_slot PySem.F.cmpKind_ne PySem.F.cmpSplit_ne (J.type.andThen (PySem.W.looks_mroIn I.kIn c.ob)) (PySem.F.cmpArgs_ne _ _) ?_))
    unfold Builtin.«object.__ne__»
    refine wpAny_bind (wpAny_pure ?_)
    refine wpAny_bind (wpAny_cRoomFor sb.in1.room.units0 ?_)
    refine wpAny_bind (PySem.W.ifBound_K I.kIn J hm.at_ hm.fn (thn (eqFn_at F hb hx sb.in1 I (x := V.ref a) rfl ry d) fun r s' q => ?_))
    obtain ⟨rfl, I'⟩ := q
    exact wpAny_bind (wpAny_truthy_bool (wpAny_pure ⟨rfl, I'⟩))
  have one : wpAny (model X.prog X.w) X.A (tryCompare (.ref a) (cmpInfo .NotEq).2.1 v) (fun r s' => r = some (.bool (!b)) ∧ Inv X pins σ H s') X.xe s := by
    unfold tryCompare
    refine wpAny_bind (m := callSpecialIfBound? (.ref a) _ [v]) ?_
    simp only [callSpecialIfBound?, bindSpecialIfBound?]
    refine wpAny_holding (wpAny_bind (wpAny_bind (wpAny_bind (J.type.here ((PySem.W.looks_findIn I.kIn c.ne).here ?_)))))
    refine wpAny_bind (wpAny_askSetting (wpAny_ite ?_))
    have fin : wpAny (model X.prog X.w) X.A (call (.builtin "object.__ne__") ([.ref a] ++ [v]) >>= fun z => pure (some z)) (fun o s1 => wpAny (model X.prog X.w) X.A (match o with | some .notImplemented | none => pure none | some z => pure (some z)) (fun r s' => r = some (.bool (!b)) ∧ Inv X pins σ H s') X.xe s1) X.xe s := by
      refine wpAny_bind (thn call1 fun r s' z => ?_)
      obtain ⟨rfl, I'⟩ := z
      exact wpAny_pure (wpAny_pure ⟨rfl, I'⟩)
    split
    · exact wpAny_bind ((PySem.W.Looks.of_pure (PySem.F.slot_object_ne.bind (.ref a))).here (wpAny_pure (by exact fin)))
    · exact wpAny_tryCatch (wpAny_bind ((PySem.W.Looks.of_pure (PySem.F.slot_object_ne.bind (.ref a))).here (wpAny_pure (by exact fin))))
  unfold richCompare
  simp only [oneThing_ref]
  refine wpAny_holding (wpAny_bind (wpAny_cRoomFor hr.units0 ?_))
  refine wpAny_bind (J.type.here (wpAny_bind ((Z.ty _ _ I.kIn p).here ?_)))
  have ends : ∀ s', Inv X pins σ H s' → EP X pins σ Q (.bool (!b)) s' := fun s' I' => ⟨.bl (!b), H, I', rfl, q⟩
  split
  · rename_i z
    have e : PySem.W.subIn X.K tb (.ref C) = some false := by
      rcases Bool.or_eq_true_iff.mp nf with e | e
      · rw [beq_iff_eq.mp e] at z; simp at z
      · exact beq_iff_eq.mp e
    refine wpAny_bind ((PySem.W.looks_subIn I.kIn e).here ?_)
    simp only [Bool.false_eq_true, if_false]
    refine wpAny_bind (thn one fun r s' z => ?_)
    obtain ⟨rfl, I'⟩ := z
    exact wpAny_pure (ends s' I')
  · refine wpAny_bind (wpAny_pure ?_)
    simp only [Bool.false_eq_true, if_false]
    refine wpAny_bind (thn one fun r s' z => ?_)
    obtain ⟨rfl, I'⟩ := z
    exact wpAny_pure (ends s' I')
/-! ### in, by an own == -/
def InB (D : Eqb) (x : V) (H : Hp) : List V → Bool → Prop
  | [], b => b = false
  | y :: r, b => (D y x H true ∧ b = true) ∨ (D y x H false ∧ InB D x H r b)
open AutoSeq1 (wpAny_loadPart') in
open AutoSeq1 (wpAny_loadPart') in
/-- a text beside a thing of a built-in kind -/
def DTxt : Eqb := fun x y H b => ∃ (z : Str) (T : String), x = .str z ∧ Bk H y T ∧ b = decide (y = .str z)
end
/-! ### Measures alike, beside Measures and things of built-in kinds -/
def REq (K : PySem.W.Frag) (C : Addr) : Eqb := fun x y H b => ∃ p t u, x = .ref p ∧ MAt C H p t u ∧ ((∃ q t' u', y = .ref q ∧ MAt C H q t' u' ∧ b = (decide (t = t') && decide (u = u'))) ∨ ∃ tv, TyX K H y tv ∧ PySem.W.kitOne K tv (.ref C) = some false ∧ b = false)
inductive Like (C : Addr) (H : Hp) (p : Addr) : V → Bool → Prop where
  | ms {q : Addr} {t u t' u' : Int} (a : MAt C H p t u) (b : MAt C H q t' u') : Like C H p (.ref q) (decide (t = t') && decide (u = u'))
  | kd {y : V} {T : String} {t u : Int} (a : MAt C H p t u) (b : Bk H y T) : Like C H p y false
theorem Like.same {C p : Addr} {H H' : Hp} {y : V} {b : Bool} (h : Like C H p y b) (s : Same H H') : Like C H' p y b := by
  cases h with
  | ms a b => exact .ms (a.same s) (b.same s)
  | kd a k => exact .kd (a.same s) (k.same s)
theorem mf_inj {t u t' u' : Int} (h : mf t u = mf t' u') : t = t' ∧ u = u' := by
  unfold mf at h
  injection h with h1 h2
  injection h2 with h3 _
  exact ⟨V.int.inj (congrArg Prod.snd h1), V.int.inj (congrArg Prod.snd h3)⟩
theorem MAt.uniq {C p : Addr} {H : Hp} {t u t' u' : Int} (a : MAt C H p t u) (b : MAt C H p t' u') : t = t' ∧ u = u' := by
  obtain ⟨d, a⟩ := a
  obtain ⟨d', b⟩ := b
  rw [a] at b
  have e := HO.ins.inj (Option.some.inj b)
  exact mf_inj e.2.2
theorem Bk.notIns {C p dx : Addr} {H : Hp} {T : String} {fs : List (Str × V)} (b : Bk H (.ref p) T) (e : H p = some (.ins C dx fs)) : False := by
  cases b with
  | lst z => rw [z] at e; cases e
  | tup z => rw [z] at e; cases e
section
variable {K : PySem.W.Frag} {C p : Addr} {H : Hp} {y : V} {b : Bool}
theorem nf_self : PySem.W.notFirst K C (.ref C) = true := by simp [PySem.W.notFirst]
theorem Like.fwd (cl : Cls K C) (ii : IsC K C) (ec : EqC K C) (h : Like C H p y b) : DOwn K C (REq K C) (.ref p) y H b := by
  cases h with
  | @ms q t u t' u' a b =>
    obtain ⟨da, ha⟩ := _root_.id a
    obtain ⟨db, hb⟩ := _root_.id b
    refine ⟨p, da, _, _, rfl, ha, tyM hb cl ii, nf_self, fun e => ?_, p, t, u, rfl, a, .inl ⟨q, t', u', rfl, b, rfl⟩⟩
    cases e
    obtain ⟨rfl, rfl⟩ := a.uniq b
    simp
  | @kd _ T t u a k =>
    obtain ⟨da, ha⟩ := _root_.id a
    refine ⟨p, da, _, _, rfl, ha, k.ty, ec.nf T k.mem, fun e => ?_, p, t, u, rfl, a, .inr ⟨_, k.ty, ec.kit T k.mem, rfl⟩⟩
    subst e
    exact (k.notIns ha).elim
theorem Like.bwd (cl : Cls K C) (ii : IsC K C) (ec : EqC K C) (h : Like C H p y b) : DOr (DOwn K C (REq K C)) (DRef C (REq K C)) y (.ref p) H b := by
  cases h with
  | @ms q t u t' u' a b =>
    obtain ⟨da, ha⟩ := _root_.id a
    obtain ⟨db, hb⟩ := _root_.id b
    have e2 : (decide (t = t') && decide (u = u')) = (decide (t' = t) && decide (u' = u)) := by
      rw [decide_eq_decide.mpr (eq_comm (a := t)), decide_eq_decide.mpr (eq_comm (a := u))]
    rw [e2]
    refine .inl ⟨q, db, _, _, rfl, hb, tyM ha cl ii, nf_self, fun e => ?_, q, t', u', rfl, b, .inl ⟨p, t, u, rfl, a, rfl⟩⟩
    cases e
    obtain ⟨rfl, rfl⟩ := a.uniq b
    simp
  | @kd _ T t u a k =>
    obtain ⟨da, ha⟩ := _root_.id a
    refine .inr ⟨p, da, _, T, rfl, ha, k, fun e => ?_, p, t, u, rfl, a, .inr ⟨_, k.ty, ec.kit T k.mem, rfl⟩⟩
    subst e
    exact (k.notIns ha).elim
theorem Like.non (ec : EqC K C) (h : Like C H p y b) : DOr (DOwn K C (REq K C)) (DRef C (REq K C)) .non (.ref p) H false := by
  have go : ∀ {t u : Int}, MAt C H p t u → DOr (DOwn K C (REq K C)) (DRef C (REq K C)) .non (.ref p) H false := fun {t u} a => by
    obtain ⟨da, ha⟩ := _root_.id a
    exact .inr ⟨p, da, _, _, rfl, ha, .non, (fun e => nomatch e), p, t, u, rfl, a, .inr ⟨_, (Bk.non (H := H)).ty, ec.kit _ (Bk.non (H := H)).mem, rfl⟩⟩
  cases h with
  | ms a _ => exact go a
  | kd a _ => exact go a
/-- one in [None, y] -/
theorem Like.inl (cl : Cls K C) (ii : IsC K C) (ec : EqC K C) (h : Like C H p y b) : InB (DOr (DOwn K C (REq K C)) (DRef C (REq K C))) (.ref p) H [.non, y] b := by
  refine .inr ⟨h.non ec, ?_⟩
  cases b with
  | true => exact .inl ⟨h.bwd cl ii ec, rfl⟩
  | false => exact .inr ⟨h.bwd cl ii ec, rfl⟩
/-- y in (one, z) -/
theorem Like.inr {z : Str} (cl : Cls K C) (ii : IsC K C) (ec : EqC K C) (h : Like C H p y b) (hz : y ≠ .str z) : InB (DOr (DOr (DOwn K C (REq K C)) (DRef C (REq K C))) DTxt) y H [.ref p, .str z] b := by
  have key : ∀ {c : Bool}, Like C H p y c → DOr (DOr (DOwn K C (REq K C)) (DRef C (REq K C))) DTxt (.str z) y H false := fun {c} h => by
    cases h with
    | @ms q t u t' u' a b =>
      obtain ⟨dq, hq⟩ := _root_.id b
      exact .inl (.inr ⟨q, dq, _, _, rfl, hq, .str z, (fun e => nomatch e), q, t', u', rfl, b, .inr ⟨_, (Bk.str (H := H) z).ty, ec.kit _ (Bk.str (H := H) z).mem, rfl⟩⟩)
    | @kd _ T t u a k => exact .inr ⟨z, T, rfl, k, (decide_eq_false hz).symm⟩
  cases b with
  | true => exact .inl ⟨.inl (.inl (h.fwd cl ii ec)), rfl⟩
  | false => exact .inr ⟨.inl (.inl (h.fwd cl ii ec)), .inr ⟨key h, rfl⟩⟩
end
end My
namespace My
open PySem PySem.Spec PyProof.Rows L2
/-! ### texts: str and repr of own objects, pieces of f-strings, divmod -/
section
variable {X : Cx} {n : Nat} {CX : CXT} {C f : Addr} {fd : FuncData} {ps : List Str} {sp : Sp} {E : XK}
/-- an own def is called from within a built-in one -/
theorem fn_at (F : FnOk X.prog X.w X.K X.mg X.base CX n f fd ps sp) (hb : Binds X.K fd ps []) (hx : Passes CX X E) {A : Around} {pins : List (Addr × Obj)} {s : Shared} {σ : L2.St} {H : Hp} {vs : List V} {us : List Value} {Q : VK}
    (sb : Sub X n A) (I : Inv X pins σ H s) (r : Vals vs us) (h : sp vs H Q E) : wpAny (model X.prog X.w) A (call (.ref f) us) (fun u s' => ∃ v H', Inv X pins σ H' s' ∧ RelV v u ∧ Q v H') X.xe s := by
  have e := I.env0
  have e0 : Env0 X.prog X.w X.K X.mg X.base A X.stack s H := ⟨by rw [sb.fr]; exact e.frames, e.mod, e.bs, e.bsz, e.funs, e.frf, e.hok, e.bare⟩
  have hl := F.len _ _ _ _ h
  have hbs := hb s us I.kIn (by rw [List.append_nil, ← r.length]; exact hl)
  rw [List.append_nil] at hbs
  refine wpAny_call (codeAny_mono (F.run A X.stack s H ⟨us, []⟩ us vs _ E sb.room e0 hbs r h) fun r s' hq => ?_)
  cases r with
  | error e => exact hx pins σ H s e s' I hq
  | ok fl =>
    cases fl with
    | ret w =>
      obtain ⟨z, H', I', rz, q⟩ := I.after hq
      exact ⟨z, H', I', rz, q⟩
    | next => exact False.elim hq
    | brk => exact False.elim hq
    | cont => exact False.elim hq
/-- what a text of an own object asks: the def tells a text -/
def tOwn (C : Addr) (sp : Sp) (E : XK) : V → Hp → VK → Prop := fun x H Q => ∃ a dx fs, x = .ref a ∧ H a = some (.ins C dx fs) ∧ sp [.ref a] H (fun v H' => ∃ z : Str, v = .str z ∧ Q (.str z) H') E
theorem call_strO (F : FnOk X.prog X.w X.K X.mg X.base CX n f fd ps sp) (hm : Meth X.K C "__str__" f) (hb : Binds X.K fd ps []) (hx : Passes CX X E) (hr : Room (n + 2) X.A) : CallR X (.type "str") (fun xs H Q => ∃ x, xs = [x] ∧ tOwn C sp E x H Q) := by
  intro pins s σ H xs us Q I r h
  obtain ⟨x, rfl, a, dx, fs, rfl, ha, h⟩ := h
  obtain ⟨u, rfl, r1⟩ := vals1 r
  cases (show u = Value.ref a from r1)
  obtain ⟨mA, J, _⟩ := ins_get I.hok ha
  obtain ⟨od, J, _⟩ := J.look
  have sb : Sub X (n + 2) X.A := ⟨hr, rfl⟩
  refine PySem.W.kso_call sb.in1.in1.room.units0 I.kIn J hm.at_ hm.fn ?_
  refine thn (fn_at F hb hx sb.in1.in1 I (vs := [.ref a]) (.cons rfl .nil) h) fun u s' q => ?_
  obtain ⟨v, H', I', rv, z, rfl, q⟩ := q
  obtain ⟨t, rfl⟩ := rv
  exact ⟨.str z, H', I', ⟨t, rfl⟩, q⟩
theorem call_dm : CallR X (.builtin "divmod") (fun xs H Q => ∃ i j, xs = [.int i, .int j] ∧ 0 < j ∧ j.natAbs.log2 < 9000 ∧ ∀ p, H p = none → Q (.ref p) (upd H p (.tup [.int (i / j), .int (i % j)]))) := by
  intro pins s σ H xs us Q I r h
  obtain ⟨i, j, rfl, h1, h2, q⟩ := h
  obtain ⟨u, w', rfl, ⟨t, rfl⟩, ⟨t', rfl⟩⟩ := vals2 r
  refine divmod_int (by omega) ?_ (.inl (PyProof.noPylong_of_log2 h2))
  rw [Int.fdiv_eq_ediv_of_nonneg i (by omega), Int.fmod_eq_emod_of_nonneg i (by omega)]
  have hn : H s.heap.objs.size = none := I.hok.fresh (Nat.le_refl _)
  refine ⟨.ref s.heap.objs.size, _, ?_, rfl, q _ hn⟩
  refine I.laid (fun b o e => Heap.get?_push_of_some _ e) (Nat.le_refl _) ⟨by show 2 ≤ sizeLine; rw [sizeLine_eq]; decide, [.int (i / j) s.toks, .int (i % j) (s.toks + 1)], .cons ⟨_, rfl⟩ (.cons ⟨_, rfl⟩ .nil), ?_⟩
  exact ⟨_, Heap.get?_push_size s.heap rfl, rfl, 0, rfl⟩
theorem bnil {K : PySem.W.Frag} {fd : FuncData} {ps : List Str} {ds : List Value} (v : Vals [] ds) (b : Binds K fd ps ds) : Binds K fd ps [] := by
  cases v
  exact b
end
/-! ### the text of a number, of a Measure -/
def iT (i : Int) : Str := Str.ofString (toString i)
theorem Sz.log' {a : Nat} {x : Int} (h : Sz a x) (h0 : 0 < a) (l : a ≤ 1920) : x.natAbs.log2 < 1920 := Nat.lt_of_lt_of_le (PySem.Flt.log2_lt_of h0 h) l
theorem iT_len {i : Int} (h : Sz 1900 i) : (iT i).length ≤ 1921 := by
  have e := int_text_length_le (k := 1920) (by decide) (h.log' (by decide) (by decide))
  unfold iT
  rw [PySem.ofString_length]
  omega
def wTxt (a u : Int) : Str := if a % u = 0 then iT (a / u) else if a / u = 0 then Str.empty ++ iT (a % u) ++ "/" ++ iT u else Str.empty ++ iT (a / u) ++ " " ++ iT (a % u) ++ "/" ++ iT u
def mTxt (t u : Int) : Str := if t < 0 then Str.empty ++ "-" ++ wTxt (-t) u else wTxt t u
def mRep (t u : Int) : Str := Str.empty ++ "Measure(" ++ iT t ++ ", " ++ iT u ++ ")"
theorem Sz.ediv {k : Nat} {a u : Int} (h : Sz k a) (h0 : 0 ≤ a) (hu : 0 < u) : Sz k (a / u) := h.le (by
  have h1 := Int.ediv_nonneg h0 (Int.le_of_lt hu)
  have h2 := Int.ediv_le_self u h0
  omega)
theorem Sz.emod {k : Nat} {a u : Int} (h : Sz k u) (hu : 0 < u) : Sz k (a % u) := h.le (by
  have h1 := Int.emod_nonneg a (show u ≠ 0 by omega)
  have h2 := Int.emod_lt_of_pos a hu
  omega)
theorem wTxt_len {a u : Int} (ha : Sz 1900 a) (hu : Sz 1900 u) (h0 : 0 ≤ a) (h1 : 0 < u) : (wTxt a u).length ≤ 6000 := by
  have l1 := iT_len (ha.ediv h0 h1)
  have l2 := iT_len (hu.emod (a := a) h1)
  have l3 := iT_len hu
  have e0 : Str.empty.length = 0 := rfl
  have e1 : (Str.ofString "/").length = 1 := rfl
  have e2 : (Str.ofString " ").length = 1 := rfl
  unfold wTxt
  split
  · omega
  · split
    · simp only [Str.length_append]; omega
    · simp only [Str.length_append]; omega
end My
namespace My
open PySem PySem.Spec PyProof.Rows L2
/-! ### Stretches alike -/
def optEq : Option Q2 → Option Q2 → Bool
  | none, none => true
  | some a, some b => eqq a b
  | _, _ => false
theorem optEq_self (a : Option Q2) : optEq a a = true := by
  cases a with
  | none => rfl
  | some a => exact eqq_self a
theorem eqq_comm' (a b : Q2) : eqq a b = eqq b a := by
  unfold eqq
  exact decide_eq_decide.mpr eq_comm
theorem optEq_comm (a b : Option Q2) : optEq a b = optEq b a := by
  cases a with
  | none => cases b <;> rfl
  | some a =>
    cases b with
    | none => rfl
    | some b => exact eqq_comm' a b
def eqS (lo hi : Option Q2) (li hj : Bool) (lo' hi' : Option Q2) (li' hj' : Bool) : Bool := optEq lo lo' && (optEq hi hi' && (decide (V.bl li = V.bl li') && decide (V.bl hj = V.bl hj')))
theorem eqS_self (lo hi : Option Q2) (li hj : Bool) : eqS lo hi li hj lo hi li hj = true := by
  unfold eqS
  rw [optEq_self, optEq_self, decide_eq_true rfl, decide_eq_true rfl]
  rfl
theorem eqS_comm (lo hi : Option Q2) (li hj : Bool) (lo' hi' : Option Q2) (li' hj' : Bool) : eqS lo hi li hj lo' hi' li' hj' = eqS lo' hi' li' hj' lo hi li hj := by
  unfold eqS
  rw [optEq_comm lo, optEq_comm hi, decide_eq_decide.mpr (eq_comm (a := V.bl li)), decide_eq_decide.mpr (eq_comm (a := V.bl hj))]
section
variable {K : PySem.W.Frag} {CM CS p : Addr} {H : Hp}
def REqS (K : PySem.W.Frag) (CM CS : Addr) : Eqb := fun x y H b => ∃ p lo hi li hj, x = .ref p ∧ StAt CM CS H p lo hi li hj ∧ ((∃ q lo' hi' li' hj', y = .ref q ∧ StAt CM CS H q lo' hi' li' hj' ∧ b = eqS lo hi li hj lo' hi' li' hj') ∨
  ∃ tv, TyX K H y tv ∧ PySem.W.kitOne K tv (.ref CS) = some false ∧ b = false)
inductive LikeS (CM CS : Addr) (H : Hp) (p : Addr) : V → Bool → Prop where
  | st {q : Addr} {lo hi lo' hi' : Option Q2} {li hj li' hj' : Bool} (a : StAt CM CS H p lo hi li hj) (b : StAt CM CS H q lo' hi' li' hj') : LikeS CM CS H p (.ref q) (eqS lo hi li hj lo' hi' li' hj')
  | kd {y : V} {T : String} {lo hi : Option Q2} {li hj : Bool} (a : StAt CM CS H p lo hi li hj) (b : Bk H y T) : LikeS CM CS H p y false
  | ms {q : Addr} {t u : Int} {lo hi : Option Q2} {li hj : Bool} (a : StAt CM CS H p lo hi li hj) (b : MAt CM H q t u) : LikeS CM CS H p (.ref q) false
theorem LikeS.same {H' : Hp} {y : V} {b : Bool} (h : LikeS CM CS H p y b) (s : Same H H') : LikeS CM CS H' p y b := by
  cases h with
  | st a b => exact .st (a.same s) (b.same s)
  | kd a k => exact .kd (a.same s) (k.same s)
  | ms a m => exact .ms (a.same s) (m.same s)
theorem MsV.uniq {v : V} {e f : Option Q2} (a : MsV CM H v e) (b : MsV CM H v f) : e = f := by
  cases e with
  | none =>
    cases a
    cases f with
    | none => rfl
    | some y => obtain ⟨q, z, _⟩ := b; exact nomatch z
  | some x =>
    obtain ⟨p, rfl, hp⟩ := a
    cases f with
    | none => exact nomatch (show V.ref p = V.non from b)
    | some y =>
      obtain ⟨q, z, hq⟩ := b
      cases z
      obtain ⟨h1, h2⟩ := hp.uniq hq
      rw [show x = (x.1, x.2) from rfl, show y = (y.1, y.2) from rfl, h1, h2]
theorem sf_inj {l h l' h' : V} {i j i' j' : Bool} (e : sf l h i j = sf l' h' i' j') : l = l' ∧ h = h' ∧ i = i' ∧ j = j' := by
  have g : ∀ m : Str, (sf l h i j).lookup m = (sf l' h' i' j').lookup m := fun m => by rw [e]
  have g1 := g "low"
  have g2 := g "high"
  have g3 := g "low_in"
  have g4 := g "high_in"
  rw [sf_low, sf_low] at g1
  rw [sf_high, sf_high] at g2
  rw [sf_low_in, sf_low_in] at g3
  rw [sf_high_in, sf_high_in] at g4
  exact ⟨Option.some.inj g1, Option.some.inj g2, V.bl.inj (Option.some.inj g3), V.bl.inj (Option.some.inj g4)⟩
theorem StAt.uniq {lo hi lo' hi' : Option Q2} {li hj li' hj' : Bool} (a : StAt CM CS H p lo hi li hj) (b : StAt CM CS H p lo' hi' li' hj') : lo = lo' ∧ hi = hi' ∧ li = li' ∧ hj = hj' := by
  obtain ⟨⟨d, l, h, h1, h2, h3⟩, _⟩ := a
  obtain ⟨⟨d', l', h', k1, k2, k3⟩, _⟩ := b
  rw [h1] at k1
  have e := HO.ins.inj (Option.some.inj k1)
  obtain ⟨rfl, rfl, rfl, rfl⟩ := sf_inj e.2.2
  exact ⟨h2.uniq k2, h3.uniq k3, rfl, rfl⟩
theorem st_notM {q : Addr} {lo hi : Option Q2} {li hj : Bool} {t u : Int} (a : StAt CM CS H p lo hi li hj) (m : MAt CM H p t u) : False := by
  obtain ⟨⟨d, l, hh, h1, _⟩, _⟩ := a
  obtain ⟨dm, hm⟩ := m
  rw [h1] at hm
  have e := (HO.ins.inj (Option.some.inj hm)).2.2
  have e2 := congrArg (fun fs : List (Str × V) => fs.lookup ("top" : Str)) e
  have e3 : (sf l hh li hj).lookup ("top" : Str) = none := sf_no _ _ _ _ (by decide +kernel) (by decide +kernel) (by decide +kernel) (by decide +kernel)
  have e4 := mf_top t u
  rw [show (sf l hh li hj).lookup ("top" : Str) = (mf t u).lookup ("top" : Str) from e2, e4] at e3
  cases e3
/-- what is asked of the two classes -/
structure Two (K : PySem.W.Frag) (CM CS : Addr) : Prop where
  clM : Cls K CM
  iiM : IsC K CM
  ecM : EqC K CM
  clS : Cls K CS
  iiS : IsC K CS
  ecS : EqC K CS
  nMS : PySem.W.notFirst K CM (.ref CS) = true
  nSM : PySem.W.notFirst K CS (.ref CM) = true
  kMS : PySem.W.kitOne K (.ref CM) (.ref CS) = some false
  kSM : PySem.W.kitOne K (.ref CS) (.ref CM) = some false
def DAllS (K : PySem.W.Frag) (CM CS : Addr) : Eqb := DOr (DOr (DOwn K CS (REqS K CM CS)) (DRef CS (REqS K CM CS))) (DOwn K CM (REq K CM))
theorem LikeS.fwd {y : V} {b : Bool} (T : Two K CM CS) (h : LikeS CM CS H p y b) : DOwn K CS (REqS K CM CS) (.ref p) y H b := by
  cases h with
  | @st q lo hi lo' hi' li hj li' hj' a b =>
    obtain ⟨⟨d, l, hh, h1, _⟩, _⟩ := _root_.id a
    obtain ⟨⟨d', l', hh', k1, _⟩, _⟩ := _root_.id b
    refine ⟨p, d, _, _, rfl, h1, tyM k1 T.clS T.iiS, nf_self, fun e => ?_, p, lo, hi, li, hj, rfl, a, .inl ⟨q, lo', hi', li', hj', rfl, b, rfl⟩⟩
    cases e
    obtain ⟨rfl, rfl, rfl, rfl⟩ := a.uniq b
    exact eqS_self _ _ _ _
  | @kd _ Ty lo hi li hj a k =>
    obtain ⟨⟨d, l, hh, h1, _⟩, _⟩ := _root_.id a
    refine ⟨p, d, _, _, rfl, h1, k.ty, T.ecS.nf Ty k.mem, fun e => ?_, p, lo, hi, li, hj, rfl, a, .inr ⟨_, k.ty, T.ecS.kit Ty k.mem, rfl⟩⟩
    subst e
    exact (k.notIns h1).elim
  | @ms q t u lo hi li hj a m =>
    obtain ⟨⟨d, l, hh, h1, _⟩, _⟩ := _root_.id a
    obtain ⟨dm, hm⟩ := _root_.id m
    have ty := tyM hm T.clM T.iiM
    refine ⟨p, d, _, _, rfl, h1, ty, T.nSM, fun e => ?_, p, lo, hi, li, hj, rfl, a, .inr ⟨_, ty, T.kMS, rfl⟩⟩
    cases e
    exact (st_notM (q := p) a m).elim
theorem LikeS.bwd {y : V} {b : Bool} (T : Two K CM CS) (h : LikeS CM CS H p y b) : DAllS K CM CS y (.ref p) H b := by
  cases h with
  | @st q lo hi lo' hi' li hj li' hj' a b =>
    rw [eqS_comm]
    exact .inl (.inl (LikeS.fwd T (.st b a)))
  | @kd _ Ty lo hi li hj a k =>
    obtain ⟨⟨d, l, hh, h1, _⟩, _⟩ := _root_.id a
    refine .inl (.inr ⟨p, d, _, Ty, rfl, h1, k, fun e => ?_, p, lo, hi, li, hj, rfl, a, .inr ⟨_, k.ty, T.ecS.kit Ty k.mem, rfl⟩⟩)
    subst e
    exact (k.notIns h1).elim
  | @ms q t u lo hi li hj a m =>
    obtain ⟨⟨d, l, hh, h1, _⟩, _⟩ := _root_.id a
    obtain ⟨dm, hm⟩ := _root_.id m
    have ty := tyM h1 T.clS T.iiS
    refine .inr ⟨q, dm, _, _, rfl, hm, ty, T.nMS, fun e => ?_, q, t, u, rfl, m, .inr ⟨_, ty, T.kSM, rfl⟩⟩
    cases e
    exact (st_notM (q := p) a m).elim
theorem LikeS.inl {y : V} {b : Bool} (T : Two K CM CS) (h : LikeS CM CS H p y b) : InB (DAllS K CM CS) (.ref p) H [.non, y] b := by
  have go : ∀ {lo hi li hj}, StAt CM CS H p lo hi li hj → DAllS K CM CS .non (.ref p) H false := fun {lo hi li hj} a => LikeS.bwd T (.kd a .non)
  have nn : DAllS K CM CS .non (.ref p) H false := by
    cases h with
    | st a _ => exact go a
    | kd a _ => exact go a
    | ms a _ => exact go a
  refine .inr ⟨nn, ?_⟩
  cases b with
  | true => exact .inl ⟨h.bwd T, rfl⟩
  | false => exact .inr ⟨h.bwd T, rfl⟩
end
/-! ### texts of Stretches -/
/-- the tuple of two ends and two truths -/
def EndsK (k : Nat) (H : Hp) (v : V) (ea eb : Option Q2) (ia ib : Bool) : Prop := ∃ p va vb, v = .ref p ∧ H p = some (.tup [va, vb, .bl ia, .bl ib]) ∧ EndV k H va ea ∧ EndV k H vb eb
theorem EndsK.nl {k : Nat} {H H' : Hp} {v : V} {ea eb : Option Q2} {ia ib : Bool} (a : EndsK k H v ea eb ia ib) (s : Nl H H') : EndsK k H' v ea eb ia ib := by
  obtain ⟨p, va, vb, h0, h1, h2, h3⟩ := a
  exact ⟨p, va, vb, h0, s _ _ h1 rfl, h2.nl s, h3.nl s⟩
theorem EndsK.same {k : Nat} {H H' : Hp} {v : V} {ea eb : Option Q2} {ia ib : Bool} (a : EndsK k H v ea eb ia ib) (s : Same H H') : EndsK k H' v ea eb ia ib := a.nl (Nl.of s)
theorem EndsAt.k {H : Hp} {p : Addr} {ea eb : Option Q2} {ia ib : Bool} (a : EndsAt H p ea eb ia ib) : EndsK 150 H (.ref p) ea eb ia ib := by
  obtain ⟨⟨va, vb, h1, h2, h3⟩, _⟩ := a
  exact ⟨p, va, vb, rfl, h1, h2.mono (by decide), h3.mono (by decide)⟩
end My
namespace My
open PySem PySem.Spec PyProof.Rows L2
/-! ### texts by their signs: partings at the last and the first sign -/
/-! ### x.rpartition(sep) -/
/-! ### a leading sign -/
/-! ### the words of a measure's text -/
/-! ### the text of a Measure by its signs -/
end My
namespace My
open PySem PySem.Spec PyProof.Rows L2
/-! ### list.count(True) of truths -/
/-! ### Measures as fractions -/
theorem co_eq {a b : Q2} (h1 : 0 < a.2) (c1 : Int.gcd a.1 a.2 = 1) (g1 : 0 < b.2) (c2 : Int.gcd b.1 b.2 = 1) (e : a.1 * b.2 = b.1 * a.2) : a = b := by
  have d1 : a.2 ∣ b.2 := by
    have : a.2 ∣ a.1 * b.2 := ⟨b.1, by rw [e, Int.mul_comm]⟩
    exact dvd_co this (by rw [Int.gcd_comm]; exact c1)
  have d2 : b.2 ∣ a.2 := by
    have : b.2 ∣ b.1 * a.2 := ⟨a.1, by rw [← e, Int.mul_comm]⟩
    exact dvd_co this (by rw [Int.gcd_comm]; exact c2)
  have e2 : a.2 = b.2 := Int.le_antisymm (Int.le_of_dvd g1 d1) (Int.le_of_dvd h1 d2)
  rw [e2] at e
  exact Prod.ext (Int.eq_of_mul_eq_mul_right (by omega) e) e2
theorem fr_of {t u A B : Int} (hu : 0 < u) (co : Int.gcd t u = 1) (hB : 0 < B) (e : t * B = A * u) : Fr t u A B := by
  have co' : Int.gcd u t = 1 := by rw [Int.gcd_comm]; exact co
  have d2 : u ∣ B := dvd_co (b := t) ⟨A, by rw [e, Int.mul_comm]⟩ co'
  obtain ⟨k, hk⟩ := d2
  have k0 : 0 < k := by
    rcases Int.lt_or_le 0 k with z | z
    · exact z
    · have := Int.mul_nonneg_of_nonpos_of_nonpos (show -u ≤ 0 by omega) z
      have e2 : -u * k = -(u * k) := Int.neg_mul ..
      omega
  have e1 : A = t * k := by
    have : A * u = (t * k) * u := by
      rw [← e, hk]
      simp only [Int.mul_assoc, Int.mul_comm, Int.mul_left_comm]
    exact Int.eq_of_mul_eq_mul_right (by omega) this
  refine ⟨hu, e, co, ?_, ?_⟩
  · rw [e1, Int.natAbs_mul]
    exact Nat.le_mul_of_pos_right _ (by omega)
  · rw [hk, Int.natAbs_mul]
    exact Nat.le_mul_of_pos_right _ (by omega)
def qadd (x y : Q2) : Q2 := (x.1 * y.2 + y.1 * x.2, x.2 * y.2)
def qsub (x y : Q2) : Q2 := (x.1 * y.2 - y.1 * x.2, x.2 * y.2)
def qmul (x y : Q2) : Q2 := (x.1 * y.1, x.2 * y.2)
def qprt (x : Q2) (m : Int) : Q2 := (x.1 * sgn m, x.2 * (m * sgn m))
def qmk (a b : Int) : Q2 := (a * sgn b, b * sgn b)
theorem sgn_pos {m : Int} (h : m ≠ 0) : 0 < m * sgn m := by
  unfold sgn; split
  · omega
  · rw [Int.mul_neg_one]; omega
structure QAt (C : Addr) (H : Hp) (p : Addr) (k : Nat) (x : Q2) : Prop where
  ob : ∃ t u, MAt C H p t u ∧ Fr t u x.1 x.2
  pos : 0 < x.2
  s1 : Sz k x.1
  s2 : Sz k x.2
theorem QAt.same {C p : Addr} {H H' : Hp} {k : Nat} {x : Q2} (h : QAt C H p k x) (s : Same H H') : QAt C H' p k x := by
  obtain ⟨⟨t, u, m, f⟩, h1, h2, h3⟩ := h
  exact ⟨⟨t, u, m.same s, f⟩, h1, h2, h3⟩
theorem QAt.mono {C p : Addr} {H : Hp} {k j : Nat} {x : Q2} (h : QAt C H p k x) (l : k ≤ j) : QAt C H p j x := ⟨h.ob, h.pos, h.s1.mono l, h.s2.mono l⟩
theorem QAt.kp {C p hd : Addr} {H H' : Hp} {n k : Nat} {x : Q2} (h : QAt C H p k x) (hh : HandAt H hd n) (s : Kp hd H H') : QAt C H' p k x := by
  obtain ⟨⟨t, u, m, f⟩, h1, h2, h3⟩ := h
  exact ⟨⟨t, u, m.kp hh s, f⟩, h1, h2, h3⟩
theorem QAt.nl {C p : Addr} {H H' : Hp} {k : Nat} {x : Q2} (h : QAt C H p k x) (s : Nl H H') : QAt C H' p k x := by
  obtain ⟨⟨t, u, ⟨d, m⟩, f⟩, h1, h2, h3⟩ := h
  exact ⟨⟨t, u, ⟨d, s _ _ m rfl⟩, f⟩, h1, h2, h3⟩
section
variable {C p q : Addr} {H : Hp} {Q : VK} {E : XK} {k j : Nat} {x y : Q2}
theorem QAt.raw (h : QAt C H p k x) {m : Str} (h1 : ¬ m = "top") (h2 : ¬ m = "bottom") : ∃ dx fs, H p = some (.ins C dx fs) ∧ fs.lookup m = none := by
  obtain ⟨⟨t, u, ⟨d, m⟩, f⟩, _⟩ := h
  exact ⟨d, _, m, mf_no _ _ h1 h2⟩
theorem q_add (hx : QAt C H p k x) (hy : QAt C H q j y) (l : k + j ≤ 8900) (l0 : 0 < k) (l1 : 0 < j) (f : ∀ (r : Addr) (H' : Hp), Same H H' → QAt C H' r (k + j + 1) (qadd x y) → Q (.ref r) H') :
    sp_bin2 C (fun t u t' u' => t * u' + t' * u) (fun t u t' u' => u * u') [.ref p, .ref q] H Q E := by
  obtain ⟨⟨t, u, m1, f1⟩, px, a1, a2⟩ := hx
  obtain ⟨⟨t', u', m2, f2⟩, py, b1, b2⟩ := hy
  refine ⟨p, q, t, u, t', u', rfl, m1, m2, f1.pos, f2.pos, (a1.le f1.lt).mono (by omega), (a2.le f1.lu).mono (by omega), (b1.le f2.lt).mono (by omega), (b2.le f2.lu).mono (by omega), ((a2.le f1.lu).mul (b2.le f2.lu)).mono (by omega), fun r t2 u2 H' _ s m f3 => ?_⟩
  refine f r H' s ⟨⟨t2, u2, m, fr_of f3.pos f3.co (Int.mul_pos px py) ?_⟩, Int.mul_pos px py, (a1.mul b2).add ((b1.mul a2).mono (by omega)), (a2.mul b2).mono (by omega)⟩
  have e1 := f1.eq
  have e2 := f2.eq
  have e3 := f3.eq
  have z : (t2 * (x.2 * y.2)) * (u * u') = ((x.1 * y.2 + y.1 * x.2) * u2) * (u * u') := by
    have : (t2 * (x.2 * y.2)) * (u * u') = (t2 * (u * u')) * (x.2 * y.2) := by grind
    rw [this, e3]
    have w1 : (t * u' + t' * u) * u2 * (x.2 * y.2) = ((t * x.2) * u' * y.2 + (t' * y.2) * u * x.2) * u2 := by grind
    rw [w1, e1, e2]
    grind
  have pu := Int.mul_pos f1.pos f2.pos
  exact Int.eq_of_mul_eq_mul_right (by omega) z
theorem q_sub (hx : QAt C H p k x) (hy : QAt C H q j y) (l : k + j ≤ 8900) (l0 : 0 < k) (l1 : 0 < j) (f : ∀ (r : Addr) (H' : Hp), Same H H' → QAt C H' r (k + j + 1) (qsub x y) → Q (.ref r) H') :
    sp_bin2 C (fun t u t' u' => t * u' - t' * u) (fun t u t' u' => u * u') [.ref p, .ref q] H Q E := by
  obtain ⟨⟨t, u, m1, f1⟩, px, a1, a2⟩ := hx
  obtain ⟨⟨t', u', m2, f2⟩, py, b1, b2⟩ := hy
  refine ⟨p, q, t, u, t', u', rfl, m1, m2, f1.pos, f2.pos, (a1.le f1.lt).mono (by omega), (a2.le f1.lu).mono (by omega), (b1.le f2.lt).mono (by omega), (b2.le f2.lu).mono (by omega), ((a2.le f1.lu).mul (b2.le f2.lu)).mono (by omega), fun r t2 u2 H' _ s m f3 => ?_⟩
  refine f r H' s ⟨⟨t2, u2, m, fr_of f3.pos f3.co (Int.mul_pos px py) ?_⟩, Int.mul_pos px py, (a1.mul b2).sub ((b1.mul a2).mono (by omega)), (a2.mul b2).mono (by omega)⟩
  have e1 := f1.eq
  have e2 := f2.eq
  have e3 := f3.eq
  have z : (t2 * (x.2 * y.2)) * (u * u') = ((x.1 * y.2 - y.1 * x.2) * u2) * (u * u') := by
    have : (t2 * (x.2 * y.2)) * (u * u') = (t2 * (u * u')) * (x.2 * y.2) := by grind
    rw [this, e3]
    have w1 : (t * u' - t' * u) * u2 * (x.2 * y.2) = ((t * x.2) * u' * y.2 - (t' * y.2) * u * x.2) * u2 := by grind
    rw [w1, e1, e2]
    grind
  have pu := Int.mul_pos f1.pos f2.pos
  exact Int.eq_of_mul_eq_mul_right (by omega) z
theorem q_mul (hx : QAt C H p k x) (hy : QAt C H q j y) (l : k + j ≤ 8900) (l0 : 0 < k) (l1 : 0 < j) (f : ∀ (r : Addr) (H' : Hp), Same H H' → QAt C H' r (k + j + 1) (qmul x y) → Q (.ref r) H') :
    sp_bin2 C (fun t u t' u' => t * t') (fun t u t' u' => u * u') [.ref p, .ref q] H Q E := by
  obtain ⟨⟨t, u, m1, f1⟩, px, a1, a2⟩ := hx
  obtain ⟨⟨t', u', m2, f2⟩, py, b1, b2⟩ := hy
  refine ⟨p, q, t, u, t', u', rfl, m1, m2, f1.pos, f2.pos, (a1.le f1.lt).mono (by omega), (a2.le f1.lu).mono (by omega), (b1.le f2.lt).mono (by omega), (b2.le f2.lu).mono (by omega), ((a2.le f1.lu).mul (b2.le f2.lu)).mono (by omega), fun r t2 u2 H' _ s m f3 => ?_⟩
  refine f r H' s ⟨⟨t2, u2, m, fr_of f3.pos f3.co (Int.mul_pos px py) ?_⟩, Int.mul_pos px py, (a1.mul b1).mono (by omega), (a2.mul b2).mono (by omega)⟩
  have e1 := f1.eq
  have e2 := f2.eq
  have e3 := f3.eq
  have z : (t2 * (x.2 * y.2)) * (u * u') = ((x.1 * y.1) * u2) * (u * u') := by
    have : (t2 * (x.2 * y.2)) * (u * u') = (t2 * (u * u')) * (x.2 * y.2) := by grind
    rw [this, e3]
    have w1 : (t * t') * u2 * (x.2 * y.2) = (t * x.2) * (t' * y.2) * u2 := by grind
    rw [w1, e1, e2]
    grind
  have pu := Int.mul_pos f1.pos f2.pos
  exact Int.eq_of_mul_eq_mul_right (by omega) z
theorem q_prt {m : Int} (hx : QAt C H p k x) (hm : m ≠ 0) (sm : Sz j m) (l : k + j ≤ 8900) (l0 : 0 < k) (l1 : 0 < j) (f : ∀ (r : Addr) (H' : Hp), Same H H' → QAt C H' r (k + j + 1) (qprt x m) → Q (.ref r) H') :
    sp_part2 C [.ref p, .int m] H Q E := by
  obtain ⟨⟨t, u, m1, f1⟩, px, a1, a2⟩ := hx
  have pm := sgn_pos hm
  have sgnN : (sgn m).natAbs = 1 := by rcases sgn_cases m with e | e <;> rw [e] <;> rfl
  refine ⟨p, t, u, m, rfl, m1, f1.pos, hm, (a1.le f1.lt).mono (by omega), (a2.le f1.lu).mono (by omega), sm.mono (by omega), ((a2.le f1.lu).mul sm).mono (by omega), fun r t2 u2 H' _ s mm f3 => ?_⟩
  have z1 : Sz (k + j + 1) (x.1 * sgn m) := (a1.le (y := x.1 * sgn m) (by rw [Int.natAbs_mul, sgnN, Nat.mul_one]; exact Nat.le_refl _)).mono (by omega)
  have z2 : Sz j (m * sgn m) := sm.le (by rw [Int.natAbs_mul, sgnN, Nat.mul_one]; exact Nat.le_refl _)
  refine f r H' s ⟨⟨t2, u2, mm, fr_of f3.pos f3.co (Int.mul_pos px pm) ?_⟩, Int.mul_pos px pm, z1, (a2.mul z2).mono (by omega)⟩
  have e1 := f1.eq
  have e3 := f3.eq
  have hu := f1.pos
  have z : (t2 * (x.2 * (m * sgn m))) * u = ((x.1 * sgn m) * u2) * u := by
    have w0 : (t2 * (x.2 * (m * sgn m))) * u = (t2 * (u * m)) * x.2 * sgn m := by grind
    rw [w0, e3]
    have w1 : t * u2 * x.2 * sgn m = (t * x.2) * u2 * sgn m := by grind
    rw [w1, e1]
    grind
  exact Int.eq_of_mul_eq_mul_right (by omega) z
theorem q_mk {a b t u : Int} {H' : Hp} (m : MAt C H' p t u) (f : Fr t u a b) (hb : b ≠ 0) (sa : Sz k a) (sb : Sz k b) : QAt C H' p k (qmk a b) := by
  have pm := sgn_pos hb
  have sgnN : (sgn b).natAbs = 1 := by rcases sgn_cases b with e | e <;> rw [e] <;> rfl
  refine ⟨⟨t, u, m, fr_of f.pos f.co pm ?_⟩, pm, sa.le (by show (a * sgn b).natAbs ≤ _; rw [Int.natAbs_mul, sgnN, Nat.mul_one]; exact Nat.le_refl _), sb.le (by show (b * sgn b).natAbs ≤ _; rw [Int.natAbs_mul, sgnN, Nat.mul_one]; exact Nat.le_refl _)⟩
  show t * (b * sgn b) = a * sgn b * u
  have e := f.eq
  have : t * (b * sgn b) = (t * b) * sgn b := by grind
  rw [this, e]
  grind
theorem q_below {al : Bool} (hx : QAt C H p k x) (hy : QAt C H q j y) (l : k ≤ 9000) (l1 : j ≤ 9000) (f : Q (.bl (ltq x y || (al && eqq x y))) H) : sp_below C [.ref p, .ref q, .bl al] H Q E := by
  obtain ⟨⟨t, u, m1, f1⟩, px, a1, a2⟩ := hx
  obtain ⟨⟨t', u', m2, f2⟩, py, b1, b2⟩ := hy
  refine ⟨p, q, t, u, t', u', al, rfl, m1, m2, (a1.le f1.lt).mono l, (a2.le f1.lu).mono l, (b1.le f2.lt).mono l1, (b2.le f2.lu).mono l1, ?_⟩
  have r1 : Re (t, u) x := ⟨f1.pos, px, f1.eq⟩
  have r2 : Re (t', u') y := ⟨f2.pos, py, f2.eq⟩
  have e : lessA t u t' u' al = (ltq x y || (al && eqq x y)) := by
    rw [← ltq_congr r1 r2, ← eqq_congr r1 r2]
    rfl
  rw [e]
  exact f
theorem fr_eqq {t u t' u' : Int} (f1 : Fr t u x.1 x.2) (f2 : Fr t' u' y.1 y.2) (px : 0 < x.2) (py : 0 < y.2) : (decide (t = t') && decide (u = u')) = eqq x y := by
  have r1 : Re (t, u) x := ⟨f1.pos, px, f1.eq⟩
  have r2 : Re (t', u') y := ⟨f2.pos, py, f2.eq⟩
  rw [← eqq_congr r1 r2]
  unfold eqq
  by_cases e : t * u' = t' * u
  · rw [decide_eq_true (show (t, u).1 * (t', u').2 = (t', u').1 * (t, u).2 from e)]
    have z := co_eq (a := (t, u)) (b := (t', u')) f1.pos f1.co f2.pos f2.co e
    obtain ⟨rfl, rfl⟩ := Prod.mk.inj z
    simp
  · rw [decide_eq_false (show ¬ (t, u).1 * (t', u').2 = (t', u').1 * (t, u).2 from e)]
    cases z1 : decide (t = t') with
    | false => rfl
    | true =>
      cases z2 : decide (u = u') with
      | false => rfl
      | true => exact absurd (by rw [of_decide_eq_true z1, of_decide_eq_true z2]) e
end
/-! the same, behind the arguments -/
section
variable {C p q : Addr} {H : Hp} {Q : VK} {E : XK} {k j : Nat} {x y : Q2} {σ : L2.St}
theorem q_addT (hx : QAt C H p k x) (hy : QAt C H q j y) (l : k + j ≤ 8900) (l0 : 0 < k) (l1 : 0 < j) (f : ∀ (r : Addr) (H' : Hp), Same H H' → QAt C H' r (k + j + 1) (qadd x y) → Q (.ref r) H') :
    tNil σ H (fun xs H2 => sp_bin2 C (fun t u t' u' => t * u' + t' * u) (fun t u t' u' => u * u') (.ref p :: ((.ref q :: xs) ++ [])) H2 Q E) := q_add (E := E) hx hy l l0 l1 f
theorem q_subT (hx : QAt C H p k x) (hy : QAt C H q j y) (l : k + j ≤ 8900) (l0 : 0 < k) (l1 : 0 < j) (f : ∀ (r : Addr) (H' : Hp), Same H H' → QAt C H' r (k + j + 1) (qsub x y) → Q (.ref r) H') :
    tNil σ H (fun xs H2 => sp_bin2 C (fun t u t' u' => t * u' - t' * u) (fun t u t' u' => u * u') (.ref p :: ((.ref q :: xs) ++ [])) H2 Q E) := q_sub (E := E) hx hy l l0 l1 f
theorem q_mulT (hx : QAt C H p k x) (hy : QAt C H q j y) (l : k + j ≤ 8900) (l0 : 0 < k) (l1 : 0 < j) (f : ∀ (r : Addr) (H' : Hp), Same H H' → QAt C H' r (k + j + 1) (qmul x y) → Q (.ref r) H') :
    tNil σ H (fun xs H2 => sp_bin2 C (fun t u t' u' => t * t') (fun t u t' u' => u * u') (.ref p :: ((.ref q :: xs) ++ [])) H2 Q E) := q_mul (E := E) hx hy l l0 l1 f
theorem q_prt2T (hx : QAt C H p k x) (l : k + 10 ≤ 8900) (l0 : 0 < k) (f : ∀ (r : Addr) (H' : Hp), Same H H' → QAt C H' r (k + 10 + 1) (qprt x 2) → Q (.ref r) H') :
    tNil σ H (fun xs H2 => sp_part2 C (.ref p :: (xs ++ [.int 2])) H2 Q E) := q_prt (E := E) (j := 10) hx (by decide) (by decide) l l0 (by decide) f
theorem q_belowT (hx : QAt C H p k x) (hy : QAt C H q j y) (l : k ≤ 9000) (l1 : j ≤ 9000) (f : Q (.bl (ltq x y)) H) :
    tNil σ H (fun xs H2 => sp_below C (.ref p :: ((.ref q :: xs) ++ [.bl false])) H2 Q E) := q_below (E := E) (al := false) hx hy l l1 (by rw [Bool.false_and, Bool.or_false]; exact f)
theorem q_belowA (hx : QAt C H p k x) (hy : QAt C H q j y) (l : k ≤ 9000) (l1 : j ≤ 9000) (f : Q (.bl (ltq x y || eqq x y)) H) :
    tCons (tC (.bl true)) tNil σ H (fun xs H2 => sp_below C (.ref p :: ((.ref q :: xs) ++ [])) H2 Q E) := q_below (E := E) (al := true) hx hy l l1 (by rw [Bool.true_and]; exact f)
end
/-! ### sums keep the order; the midst lies between -/
def qhalf (x y : Q2) : Q2 := qprt (qadd x y) 2
theorem qhalf_eq (x y : Q2) : qhalf x y = (x.1 * y.2 + y.1 * x.2, x.2 * y.2 * 2) := by
  unfold qhalf qprt qadd
  have : sgn 2 = 1 := by decide
  rw [this, Int.mul_one, Int.mul_one]
theorem half_lo {x y : Q2} (hx : 0 < x.2) (hy : 0 < y.2) : ltq x (qhalf x y) = ltq x y ∧ ltq (qhalf x y) y = ltq x y ∧ eqq (qhalf x y) x = eqq x y ∧ eqq x (qhalf x y) = eqq x y := by
  rw [qhalf_eq]
  unfold ltq eqq
  have e1 : x.1 * (x.2 * y.2 * 2) = (2 * (x.1 * y.2)) * x.2 := by grind
  have e2 : (x.1 * y.2 + y.1 * x.2) * x.2 = (x.1 * y.2 + y.1 * x.2) * x.2 := rfl
  have e3 : y.1 * (x.2 * y.2 * 2) = (2 * (y.1 * x.2)) * y.2 := by grind
  refine ⟨decide_eq_decide.mpr ?_, decide_eq_decide.mpr ?_, decide_eq_decide.mpr ?_, decide_eq_decide.mpr ?_⟩
  · show x.1 * (x.2 * y.2 * 2) < (x.1 * y.2 + y.1 * x.2) * x.2 ↔ _
    rw [e1]
    exact ⟨fun h => by have := Int.lt_of_mul_lt_mul_right h (Int.le_of_lt hx); omega, fun h => Int.mul_lt_mul_of_pos_right (by omega) hx⟩
  · show (x.1 * y.2 + y.1 * x.2) * y.2 < y.1 * (x.2 * y.2 * 2) ↔ _
    rw [e3]
    exact ⟨fun h => by have := Int.lt_of_mul_lt_mul_right h (Int.le_of_lt hy); omega, fun h => Int.mul_lt_mul_of_pos_right (by omega) hy⟩
  · show (x.1 * y.2 + y.1 * x.2) * x.2 = x.1 * (x.2 * y.2 * 2) ↔ _
    rw [e1]
    exact ⟨fun h => by have := Int.eq_of_mul_eq_mul_right (by omega) h; omega, fun h => by rw [h]; grind⟩
  · show x.1 * (x.2 * y.2 * 2) = (x.1 * y.2 + y.1 * x.2) * x.2 ↔ _
    rw [e1]
    exact ⟨fun h => by have := Int.eq_of_mul_eq_mul_right (by omega) h; omega, fun h => by rw [h]; grind⟩
/-! ### numbers of at most twelve figures -/
/-! ### constants by their signs -/
/-! ### a comprehension over a text -/
end My
namespace My
open PySem PySem.Spec PyProof.Rows L2
/-! ### comprehensions over anything that is walked -/
section
variable {J : It} {n : Nat} {G : Hp → Prop} {Y : Nat → Hp → V → Hp → Prop} {g : TG} {tt : TT} {te : TE} {vs : List Nat} {σ : L2.St} {H1 : Hp} {D : Addr} {Qd : Hp → Prop}
/-- the elements are known: z some y is told, z none is left out -/
theorem lcz (w : Walk J n G Y) (hGs : ∀ H H', G H → Same H H' → G H') (zs : List (Option V)) (hlen : zs.length = n) (hz : n < sizeLine) (hG : G H1) (hD : H1 D = none)
    (hs : ∀ (i : Nat) (x : V) (H H' : Hp) (z : Option V) (N : VK) (M : Hp → Prop), i < n → zs[i]? = some z → Same H1 H → Y i H x H' → (∀ y H4, z = some y → Same H H4 → N y H4) → (∀ H4, z = none → Same H H4 → M H4) →
      g x (wipe σ vs) H' fun σ2 H2 => wipe σ2 vs = wipe σ vs ∧ tt σ2 H2 fun b H3 => if b = true then te σ2 H3 N else M H3)
    (hd : ∀ H, Same H1 H → H D = some (.lst (zs.filterMap _root_.id)) → Qd H) :
    ∃ W : Nat → Nat → Hp → Prop, (∃ m, W 0 m (upd H1 D (.lst []))) ∧ ∀ i m H, W i m H →
      (J.stop i H ∧ Qd H) ∨ (J.go i H ∧ ∃ Nx : Hp → Prop, (∀ H', Nx H' → ∃ m', m' < m ∧ W (i + 1) m' H') ∧ ∀ x H', J.yld i H x H' → g x (wipe σ vs) H' fun σ2 H2 => wipe σ2 vs = wipe σ vs ∧ tt σ2 H2 fun b H3 =>
        if b = true then te σ2 H3 fun y H4 => ∃ acc, H4 D = some (.lst acc) ∧ acc.length < sizeLine ∧ Nx (upd H4 D (.lst (acc ++ [y]))) else Nx H3) := by
  refine lc_it w (fun i H => Same H1 H ∧ H D = some (.lst ((zs.take i).filterMap _root_.id))) ⟨same1 hD, upd_same⟩ (fun i H _ p => hGs _ _ hG p.1) (fun i x H H' hi p y => ?_) (fun H p => hd H p.1 ?_)
  · have hi2 : i < zs.length := by omega
    have tk : ∀ z, zs[i]? = some z → (zs.take (i + 1)).filterMap _root_.id = (zs.take i).filterMap _root_.id ++ z.toList := fun z e => by
      rw [List.take_add_one, e, List.filterMap_append]
      cases z <;> rfl
    have ez : zs[i]? = some zs[i] := List.getElem?_eq_getElem hi2
    refine hs i x H H' zs[i] _ _ hi ez p.1 y (fun v H4 e s4 => ⟨_, s4 _ _ p.2, ?_, ?_, ?_⟩) (fun H4 e s4 => ⟨p.1.trans s4, ?_⟩)
    · refine Nat.lt_of_le_of_lt (List.length_filterMap_le _ _) ?_
      rw [List.length_take]; omega
    · intro c o ec
      rw [upd_ne (ne_of_none ec hD)]
      exact s4 _ _ (p.1 _ _ ec)
    · rw [upd_same, tk _ ez, e]
      rfl
    · rw [tk _ ez, e, Option.toList_none, List.append_nil]
      exact s4 _ _ p.2
  · have e := p.2
    rw [← hlen, List.take_length] at e
    exact e
/-- the elements are told by what holds of them -/
theorem lcr (w : Walk J n G Y) (hGs : ∀ H H', G H → Same H H' → G H') (R : Nat → Hp → V → Prop) (hR : ∀ i H H' y, R i H y → Nl H H' → R i H' y) (hz : n < sizeLine) (hG : G H1) (hD : H1 D = none)
    (hs : ∀ (i : Nat) (x : V) (H H' : Hp) (N : VK) (M : Hp → Prop), i < n → Same H1 H → Y i H x H' → (∀ y H4, Same H H4 → R i H4 y → N y H4) →
      g x (wipe σ vs) H' fun σ2 H2 => wipe σ2 vs = wipe σ vs ∧ tt σ2 H2 fun b H3 => if b = true then te σ2 H3 N else M H3)
    (hd : ∀ H ys, Same H1 H → H D = some (.lst ys) → ys.length = n → (∀ i y, ys[i]? = some y → R i H y) → Qd H) :
    ∃ W : Nat → Nat → Hp → Prop, (∃ m, W 0 m (upd H1 D (.lst []))) ∧ ∀ i m H, W i m H →
      (J.stop i H ∧ Qd H) ∨ (J.go i H ∧ ∃ Nx : Hp → Prop, (∀ H', Nx H' → ∃ m', m' < m ∧ W (i + 1) m' H') ∧ ∀ x H', J.yld i H x H' → g x (wipe σ vs) H' fun σ2 H2 => wipe σ2 vs = wipe σ vs ∧ tt σ2 H2 fun b H3 =>
        if b = true then te σ2 H3 fun y H4 => ∃ acc, H4 D = some (.lst acc) ∧ acc.length < sizeLine ∧ Nx (upd H4 D (.lst (acc ++ [y]))) else Nx H3) := by
  refine lc_it w (fun i H => Same H1 H ∧ ∃ ys, H D = some (.lst ys) ∧ ys.length = i ∧ ∀ j y, ys[j]? = some y → R j H y) ⟨same1 hD, [], upd_same, rfl, fun j y hy => by simp at hy⟩ (fun i H _ p => hGs _ _ hG p.1) (fun i x H H' hi p y => ?_) (fun H p => ?_)
  · obtain ⟨s1, ys, h1, h2, h3⟩ := p
    refine hs i x H H' _ _ hi s1 y (fun v H4 s4 r4 => ⟨ys, s4 _ _ h1, by omega, ?_, ys ++ [v], upd_same, by rw [List.length_append, h2]; rfl, ?_⟩)
    · intro c o ec
      rw [upd_ne (ne_of_none ec hD)]
      exact s4 _ _ (s1 _ _ ec)
    · intro j z hj
      have n4 : Nl H4 (upd H4 D (.lst (ys ++ [v]))) := Nl.put (s4 _ _ h1)
      by_cases hlt : j < ys.length
      · rw [List.getElem?_append_left hlt] at hj
        exact hR _ _ _ _ (hR _ _ _ _ (h3 j z hj) (Nl.of s4)) n4
      · have hj2 : j = ys.length := by
          have := (List.getElem?_eq_some_iff.mp hj).1
          rw [List.length_append, List.length_singleton] at this
          omega
        subst hj2
        rw [List.getElem?_append_right (Nat.le_refl _), Nat.sub_self] at hj
        cases hj
        rw [h2]
        exact hR _ _ _ _ r4 n4
  · obtain ⟨s1, ys, h1, h2, h3⟩ := p
    exact hd H ys s1 h1 h2 h3
end
/-! ### several Measures -/
/-- the values ps are Measures of the fractions zs -/
structure Mks (C : Addr) (H : Hp) (k : Nat) (ps : List V) (zs : List Q2) : Prop where
  len : ps.length = zs.length
  all : ∀ (i : Nat) (v : V) (z : Q2), ps[i]? = some v → zs[i]? = some z → ∃ p, v = V.ref p ∧ QAt C H p k z
section
variable {C : Addr} {H H' : Hp} {k : Nat} {ps : List V} {zs : List Q2} {v : V}
theorem Mks.same (m : Mks C H k ps zs) (s : Same H H') : Mks C H' k ps zs := ⟨m.len, fun i v z h1 h2 => by
  obtain ⟨p, e, q⟩ := m.all i v z h1 h2
  exact ⟨p, e, q.same s⟩⟩
theorem Mks.kp {hd : Addr} {n : Nat} (m : Mks C H k ps zs) (hh : HandAt H hd n) (s : Kp hd H H') : Mks C H' k ps zs := ⟨m.len, fun i v z h1 h2 => by
  obtain ⟨p, e, q⟩ := m.all i v z h1 h2
  exact ⟨p, e, q.kp hh s⟩⟩
theorem Mks.at (m : Mks C H k ps zs) {i : Nat} {z : Q2} (h : zs[i]? = some z) : ∃ p, ps[i]? = some (.ref p) ∧ QAt C H p k z := by
  have hi : i < ps.length := by rw [m.len]; exact (List.getElem?_eq_some_iff.mp h).1
  obtain ⟨p, e, q⟩ := m.all i _ z (List.getElem?_eq_getElem hi) h
  exact ⟨p, by rw [List.getElem?_eq_getElem hi, e], q⟩
theorem Mks.of (m : Mks C H k ps zs) {i : Nat} {v : V} (h : ps[i]? = some v) : ∃ p z, v = .ref p ∧ zs[i]? = some z ∧ QAt C H p k z := by
  have hi : i < zs.length := by rw [← m.len]; exact (List.getElem?_eq_some_iff.mp h).1
  obtain ⟨p, e, q⟩ := m.all i v _ h (List.getElem?_eq_getElem hi)
  exact ⟨p, _, e, List.getElem?_eq_getElem hi, q⟩
/-- None, or a Measure -/
def QO (C : Addr) (H : Hp) (k : Nat) (v : V) : Option Q2 → Prop
  | none => v = .non
  | some z => ∃ p, v = .ref p ∧ QAt C H p k z
theorem QO.same : ∀ {e : Option Q2}, QO C H k v e → Same H H' → QO C H' k v e
  | none, h, _ => h
  | some _, ⟨p, h1, h2⟩, s => ⟨p, h1, h2.same s⟩
theorem QO.kp {hd : Addr} {n : Nat} : ∀ {e : Option Q2}, QO C H k v e → HandAt H hd n → Kp hd H H' → QO C H' k v e
  | none, h, _, _ => h
  | some _, ⟨p, h1, h2⟩, hh, s => ⟨p, h1, h2.kp hh s⟩
/-- the exact numbers of such a Measure -/
theorem QAt.low {p : Addr} {z : Q2} (q : QAt C H p k z) (l : k ≤ 4000) : ∃ a : Q2, MAt C H p a.1 a.2 ∧ Low a ∧ Re a z := by
  obtain ⟨⟨t, u, m, f⟩, h1, h2, h3⟩ := q
  exact ⟨(t, u), m, ⟨f.pos, f.co, (h2.le f.lt).mono l, (h3.le f.lu).mono l⟩, f.pos, h1, f.eq⟩
theorem QO.low (l : k ≤ 4000) : ∀ {e : Option Q2}, QO C H k v e → ∃ m, MsV C H v m ∧ LowO m ∧ ReO m e
  | none, h => ⟨none, h, trivial, trivial⟩
  | some _, ⟨p, h1, h2⟩ => by
    obtain ⟨a, ma, la, ra⟩ := h2.low l
    exact ⟨some a, ⟨p, h1, ma⟩, la, ra⟩
theorem QAt.of {p : Addr} {a z : Q2} (m : MAt C H p a.1 a.2) (l : Low a) (r : Re a z) (s1 : Sz k z.1) (s2 : Sz k z.2) : QAt C H p k z :=
  ⟨⟨a.1, a.2, m, fr_of l.pos l.co r.2.1 r.2.2⟩, r.2.1, s1, s2⟩
end
/-! ### a Ladder -/
def lf (T : V) (r : Str) (l h : V) : List (Str × V) := [("marks", T), ("rule", .str r), ("least", l), ("most", h)]
theorem lf_put (T : V) (r : Str) (l h : V) : putF "most" h (putF "least" l (putF "rule" (.str r) (putF "marks" T []))) = lf T r l h := by
  have e1 : putF ("rule" : Str) (.str r) (putF ("marks" : Str) T []) = ([("marks", T), ("rule", .str r)] : List (Str × V)) := by
    show (if ("marks" : Str) = "rule" then [(("marks" : Str), V.str r)] else (("marks" : Str), T) :: putF "rule" (.str r) []) = _
    rw [if_neg (by decide +kernel)] <;> rfl
  have e2 : putF ("least" : Str) l [("marks", T), ("rule", .str r)] = ([("marks", T), ("rule", .str r), ("least", l)] : List (Str × V)) := by
    show (if ("marks" : Str) = "least" then _ else (("marks" : Str), T) :: (if ("rule" : Str) = "least" then _ else (("rule" : Str), V.str r) :: putF "least" l [])) = _
    rw [if_neg (by decide +kernel), if_neg (by decide +kernel)] <;> rfl
  have e3 : putF ("most" : Str) h [("marks", T), ("rule", .str r), ("least", l)] = lf T r l h := by
    show (if ("marks" : Str) = "most" then _ else (("marks" : Str), T) :: (if ("rule" : Str) = "most" then _ else (("rule" : Str), V.str r) :: (if ("least" : Str) = "most" then _ else (("least" : Str), l) :: putF "most" h []))) = _
    rw [if_neg (by decide +kernel), if_neg (by decide +kernel), if_neg (by decide +kernel)] <;> rfl
  rw [e1, e2, e3]
section
variable (T : V) (r : Str) (l h : V)
theorem lf_marks : (lf T r l h).lookup ("marks" : Str) = some T := by
  rw [← lf_put, lookup_putF, if_neg (by decide +kernel), lookup_putF, if_neg (by decide +kernel), lookup_putF, if_neg (by decide +kernel), lookup_putF, if_pos rfl]
theorem lf_rule : (lf T r l h).lookup ("rule" : Str) = some (.str r) := by
  rw [← lf_put, lookup_putF, if_neg (by decide +kernel), lookup_putF, if_neg (by decide +kernel), lookup_putF, if_pos rfl]
theorem lf_least : (lf T r l h).lookup ("least" : Str) = some l := by
  rw [← lf_put, lookup_putF, if_neg (by decide +kernel), lookup_putF, if_pos rfl]
theorem lf_most : (lf T r l h).lookup ("most" : Str) = some h := by
  rw [← lf_put, lookup_putF, if_pos rfl]
theorem lf_no {m : Str} (h1 : ¬ m = "marks") (h2 : ¬ m = "rule") (h3 : ¬ m = "least") (h4 : ¬ m = "most") : (lf T r l h).lookup m = none := by
  rw [← lf_put, lookup_putF, if_neg h4, lookup_putF, if_neg h3, lookup_putF, if_neg h2, lookup_putF, if_neg h1] <;> rfl
end
/-- rows that rise -/
def RiseQ (zs : List Q2) : Prop := ∀ i a b, zs[i]? = some a → zs[i + 1]? = some b → ltq a b = true
/-- the first row that isn't above the one ahead -/
def SlipQ (zs : List Q2) : Option Nat → Prop
  | none => RiseQ zs
  | some n => 1 ≤ n ∧ n < zs.length ∧ (∀ a b, zs[n - 1]? = some a → zs[n]? = some b → ltq a b = false) ∧ ∀ i a b, i + 1 < n → zs[i]? = some a → zs[i + 1]? = some b → ltq a b = true
def optI : Option Nat → V
  | none => .non
  | some n => .int (n : Int)
def leq (a b : Q2) : Bool := ltq a b || eqq a b
/-- least isn't above most -/
def spanB : Option Q2 → Option Q2 → Bool
  | some a, some b => !ltq b a
  | _, _ => true
def IsRule (r : Str) : Prop := r = "up" ∨ r = "down" ∨ r = "near"
structure LadAt (K : PySem.W.Frag) (CM CL : Addr) (H : Hp) (p : Addr) (k : Nat) (zs : List Q2) (r : Str) (lo hi : Option Q2) : Prop where
  ob : ∃ dx T ps l h, H p = some (.ins CL dx (lf (.ref T) r l h)) ∧ SqT K H T ps ∧ Mks CM H k ps zs ∧ QO CM H k l lo ∧ QO CM H k h hi
  len0 : 0 < zs.length
  len1 : zs.length ≤ 24
  rise : RiseQ zs
  rule : IsRule r
  span : spanB lo hi = true
theorem LadAt.same {K : PySem.W.Frag} {CM CL p : Addr} {H H' : Hp} {k : Nat} {zs : List Q2} {r : Str} {lo hi : Option Q2} (a : LadAt K CM CL H p k zs r lo hi) (s : Same H H') : LadAt K CM CL H' p k zs r lo hi := by
  obtain ⟨⟨dx, T, ps, l, h, h1, h2, h3, h4, h5⟩, a1, a2, a3, a4, a5⟩ := a
  exact ⟨⟨dx, T, ps, l, h, s _ _ h1, s.sqt h2, h3.same s, h4.same s, h5.same s⟩, a1, a2, a3, a4, a5⟩
theorem LadAt.raw {K : PySem.W.Frag} {CM CL p : Addr} {H : Hp} {k : Nat} {zs : List Q2} {r : Str} {lo hi : Option Q2} (a : LadAt K CM CL H p k zs r lo hi) {m : Str} (h1 : ¬ m = "marks") (h2 : ¬ m = "rule") (h3 : ¬ m = "least") (h4 : ¬ m = "most") : ∃ dx fs, H p = some (.ins CL dx fs) ∧ fs.lookup m = none := by
  obtain ⟨⟨dx, T, ps, l, h, e1, _⟩, _⟩ := a
  exact ⟨dx, _, e1, lf_no _ _ _ _ h1 h2 h3 h4⟩
/-- the midsts of neighbours -/
def midq : List Q2 → List Q2
  | a :: b :: r => qhalf a b :: midq (b :: r)
  | _ => []
def sizeR (zs : List Q2) (r : Str) (x : Q2) : Int :=
  if r = "up" then (zs.countP (fun a => ltq a x) : Nat) else if r = "down" then (zs.countP (fun a => leq a x) : Nat) - 1 else ((midq zs).countP (fun a => leq a x) : Nat)
def loOk : Option Q2 → Q2 → Bool
  | none, _ => true
  | some a, x => !ltq x a
def hiOk : Option Q2 → Q2 → Bool
  | none, _ => true
  | some b, x => !ltq b x
def inO (lo hi : Option Q2) (x : Q2) : Bool := loOk lo x && hiOk hi x
def sizeQ (zs : List Q2) (r : Str) (lo hi : Option Q2) (x : Q2) : Option Nat :=
  if inO lo hi x = true then (if 0 ≤ sizeR zs r x ∧ sizeR zs r x < zs.length then some (sizeR zs r x).toNat else none) else none
theorem sizeQ_out {zs : List Q2} {r : Str} {lo hi : Option Q2} {x : Q2} (h : inO lo hi x = false) : none = sizeQ zs r lo hi x := by
  unfold sizeQ
  rw [h]
  rfl
theorem inO_lo {a : Q2} {hi : Option Q2} {x : Q2} (h : ltq x a = true) : inO (some a) hi x = false := by
  show (!ltq x a && hiOk hi x) = false
  rw [h]; rfl
theorem inO_hi {b : Q2} {lo : Option Q2} {x : Q2} (h : ltq b x = true) : inO lo (some b) x = false := by
  show (loOk lo x && !ltq b x) = false
  rw [h]; cases loOk lo x <;> rfl
theorem midq_len : ∀ zs : List Q2, (midq zs).length = zs.length - 1
  | [] => rfl
  | [_] => rfl
  | a :: b :: r => by
    show (midq (b :: r)).length + 1 = _
    rw [midq_len (b :: r)]
    simp
theorem midq_get : ∀ (zs : List Q2) (i : Nat) (a b : Q2), zs[i]? = some a → zs[i + 1]? = some b → (midq zs)[i]? = some (qhalf a b)
  | [], i, a, b, h, _ => by simp at h
  | [x], i, a, b, _, h => by simp at h
  | x :: y :: r, 0, a, b, h1, h2 => by
    cases h1; cases h2; rfl
  | x :: y :: r, i + 1, a, b, h1, h2 => by
    have := midq_get (y :: r) i a b (by simpa using h1) (by simpa using h2)
    simpa [midq] using this
theorem atI_of {xs : List V} {z : Int} {n : Nat} {v : V} (e : z = (n : Int)) (h : xs[n]? = some v) : atI xs z = some v := by
  rw [e]; exact atI_nat h
theorem ge2 {n : Nat} {zs : List Q2} (h : n < zs.length) : ∃ a, zs[n]? = some a := ⟨_, List.getElem?_eq_getElem h⟩
/-- a constant of the module: a tuple of texts -/
def strsOf : List Value → Option (List Str)
  | [] => some []
  | .str x _ :: r => (strsOf r).map (x :: ·)
  | _ => none
theorem strsOf_ok : ∀ {l : List Value} {ss : List Str}, strsOf l = some ss → Vals (ss.map V.str) l
  | [], ss, h => by cases h; exact .nil
  | .str x t :: r, ss, h => by
    cases e : strsOf r with
    | none => simp [strsOf, e] at h
    | some l =>
      simp [strsOf, e] at h
      subst h
      exact .cons ⟨t, rfl⟩ (strsOf_ok e)
def tupB (x : Str) (ss : List Str) : PySem.W.Frag → Bool := fun K => match K.lookup (He.ga K x) with
  | some ⟨.type "tuple", _, .seq its _, _⟩ => decide (its.size ≤ sizeLine) && decide (strsOf its.toList = some ss)
  | _ => false
theorem tup_ok {x : Str} {ss : List Str} {K : PySem.W.Frag} (c : tupB x ss K = true) : ∀ H, SqT K H (He.ga K x) (ss.map V.str) := by
  intro H
  unfold tupB at c
  split at c
  · rename_i d its n sl e
    obtain ⟨c1, c2⟩ := He.ba c
    exact .inr ⟨_, its, n, e, rfl, rfl, of_decide_eq_true c1, strsOf_ok (of_decide_eq_true c2)⟩
  · cases c
theorem tyTup {K : PySem.W.Frag} {H : Hp} {T : Addr} {ps : List V} (h : SqT K H T ps) : TyX K H (.ref T) (.type "tuple") := by
  rcases h with (h | ⟨o, h⟩) | ⟨o, its, n, h, c, _⟩
  · exact .base (.tup h)
  · exact .fTuple h
  · exact .kTuple h c
/-! ### what the defs of ladders promise -/
def sp_slip (K : PySem.W.Frag) (CM : Addr) : Sp := fun vs H Q _ => ∃ (T : Addr) (k : Nat) (ps : List V) (zs : List Q2), vs = [.ref T] ∧ SqT K H T ps ∧ Mks CM H k ps zs ∧ k ≤ 9000 ∧ zs.length ≤ 1000 ∧ ∀ o, SlipQ zs o → Q (optI o) H
def sp_arem (K : PySem.W.Frag) (CM : Addr) : Sp := fun vs H Q _ => ∃ (T : Addr) (k : Nat) (ps : List V) (zs : List Q2), vs = [.ref T] ∧ SqT K H T ps ∧ Mks CM H k ps zs ∧ 0 < zs.length ∧ zs.length ≤ 24 ∧ ∀ H', Same H H' → Q (.bl true) H'
def sp_isrule : Sp := fun vs H Q _ => ∃ r : Str, vs = [.str r] ∧ IsRule r ∧ Q (.bl true) H
def sp_linit (K : PySem.W.Frag) (CM CL : Addr) : Sp := fun vs H Q _ => ∃ (p dx T : Addr) (k : Nat) (ps : List V) (zs : List Q2) (r : Str) (l h : V) (lo hi : Option Q2), vs = [.ref p, .ref T, .str r, l, h] ∧ H p = some (.ins CL dx []) ∧ SqT K H T ps ∧ Mks CM H k ps zs ∧ k ≤ 4000 ∧ 0 < zs.length ∧ zs.length ≤ 24 ∧ RiseQ zs ∧ IsRule r ∧
  QO CM H k l lo ∧ QO CM H k h hi ∧ spanB lo hi = true ∧ ∀ H', H' p = some (.ins CL dx (lf (.ref T) r l h)) → (∀ q o, H q = some o → q ≠ p → H' q = some o) → Q .non H'
def sp_mids (K : PySem.W.Frag) (CM : Addr) : Sp := fun vs H Q _ => ∃ (T : Addr) (k : Nat) (ps : List V) (zs : List Q2), vs = [.ref T] ∧ SqT K H T ps ∧ Mks CM H k ps zs ∧ 0 < k ∧ k ≤ 1000 ∧ 0 < zs.length ∧ zs.length ≤ 24 ∧ ∀ (D : Addr) (ys : List V) (H' : Hp), Same H H' → H' D = some (.lst ys) → Mks CM H' (k + k + 1 + 10 + 1) ys (midq zs) → Q (.ref D) H'
def sp_sizeR (K : PySem.W.Frag) (CM : Addr) : Sp := fun vs H Q _ => ∃ (T q : Addr) (k : Nat) (ps : List V) (zs : List Q2) (r : Str) (x : Q2), vs = [.ref T, .str r, .ref q] ∧ SqT K H T ps ∧ Mks CM H k ps zs ∧ QAt CM H q k x ∧ 0 < k ∧ k ≤ 1000 ∧ 0 < zs.length ∧ zs.length ≤ 24 ∧ ∀ H', Same H H' → Q (.int (sizeR zs r x)) H'
def sp_size (K : PySem.W.Frag) (CM CL : Addr) : Sp := fun vs H Q _ => ∃ (p q : Addr) (k : Nat) (zs : List Q2) (r : Str) (lo hi : Option Q2) (x : Q2), vs = [.ref p, .ref q] ∧ LadAt K CM CL H p k zs r lo hi ∧ QAt CM H q k x ∧ 0 < k ∧ k ≤ 1000 ∧ ∀ H', Same H H' → Q (optI (sizeQ zs r lo hi x)) H'
/-- a Ladder is made -/
theorem lad_made {K : PySem.W.Frag} {CM CL T : Addr} {H : Hp} {Qa : Addr → Hp → Prop} {E : XK} {k : Nat} {ps : List V} {zs : List Q2} {r : Str} {l h : V} {lo hi : Option Q2} (hT : SqT K H T ps) (hm : Mks CM H k ps zs) (hk : k ≤ 4000) (l0 : 0 < zs.length) (l1 : zs.length ≤ 24) (ri : RiseQ zs) (ru : IsRule r)
    (q1 : QO CM H k l lo) (q2 : QO CM H k h hi) (sp : spanB lo hi = true) (f : ∀ (p : Addr) (H' : Hp), H p = none → Same H H' → LadAt K CM CL H' p k zs r lo hi → (∃ dx, H' p = some (.ins CL dx (lf (.ref T) r l h))) → Qa p H') :
    ∀ x dx, H x = none → H dx = none → dx ≠ x → sp_linit K CM CL [.ref x, .ref T, .str r, l, h] (upd (upd H dx (.own x)) x (.ins CL dx [])) (fun v H2 => v = .non ∧ Qa x H2) E := by
  intro x dx nx nd ne
  have s0 : Same H (upd (upd H dx (.own x)) x (.ins CL dx [])) := fun c o e => by
    rw [upd_ne (ne_of_none e nx)]
    exact up1 nd e
  refine ⟨x, dx, T, k, ps, zs, r, l, h, lo, hi, rfl, upd_same, s0.sqt hT, hm.same s0, hk, l0, l1, ri, ru, q1.same s0, q2.same s0, sp, fun H' hx kp => ⟨rfl, ?_⟩⟩
  have s1 : Same H H' := made_same nx nd kp
  exact f x H' nx s1 ⟨⟨dx, T, ps, l, h, hx, s1.sqt hT, hm.same s1, q1.same s1, q2.same s1⟩, l0, l1, ri, ru, sp⟩ ⟨dx, hx⟩
theorem zipF_len {f : Q2 → Bool} : ∀ {ps : List V} {zs : List Q2}, ps.length = zs.length → ((List.zipWith (fun (p : V) (z : Q2) => if f z then some p else none) ps zs).filterMap _root_.id).length = zs.countP f
  | [], [], _ => rfl
  | p :: ps, z :: zs, h => by
    have ih := zipF_len (f := f) (ps := ps) (zs := zs) (by simpa using h)
    rw [List.zipWith_cons_cons, List.countP_cons]
    cases e : f z
    · simpa using ih
    · simpa using ih
  | [], _ :: _, h => by simp at h
  | _ :: _, [], h => by simp at h
theorem zipF_get {f : Q2 → Bool} {ps : List V} {zs : List Q2} {i : Nat} {p : V} {z : Q2} {o : Option V} (h1 : ps[i]? = some p) (h2 : zs[i]? = some z) (h : (List.zipWith (fun (p : V) (z : Q2) => if f z then some p else none) ps zs)[i]? = some o) : o = if f z then some p else none := by
  rw [List.getElem?_zipWith, h1, h2] at h
  exact (Option.some.inj h).symm
theorem iteDT {c A B : Prop} [Decidable c] (hc : c) (h : A) : if decide c = true then A else B := by
  rw [if_pos (decide_eq_true hc)]; exact h
theorem iteDF {c A B : Prop} [Decidable c] (hc : ¬ c) (h : B) : if decide c = true then A else B := by
  rw [if_neg (by simpa using hc)]; exact h
theorem iteNT {c A B : Prop} [Decidable c] (hc : ¬ c) (h : A) : if (!decide c) = true then A else B := by
  rw [if_pos (by simpa using hc)]; exact h
section
variable {C H p k} {m : Str} {R : Prop}
theorem meth_q {x : Q2} (q : QAt C H p k x) (h1 : ¬ m = "top") (h2 : ¬ m = "bottom") (h : R) : ∃ a dx fs, V.ref p = .ref a ∧ H a = some (.ins C dx fs) ∧ fs.lookup m = none ∧ R := by
  obtain ⟨dx, fs, e1, e2⟩ := q.raw h1 h2
  exact ⟨p, dx, fs, rfl, e1, e2, h⟩
theorem meth_l {K : PySem.W.Frag} {CM : Addr} {zs : List Q2} {r : Str} {lo hi : Option Q2} (q : LadAt K CM C H p k zs r lo hi) (h1 : ¬ m = "marks") (h2 : ¬ m = "rule") (h3 : ¬ m = "least") (h4 : ¬ m = "most") (h : R) : ∃ a dx fs, V.ref p = .ref a ∧ H a = some (.ins C dx fs) ∧ fs.lookup m = none ∧ R := by
  obtain ⟨dx, fs, e1, e2⟩ := q.raw h1 h2 h3 h4
  exact ⟨p, dx, fs, rfl, e1, e2, h⟩
theorem meth_s {CM : Addr} {lo hi : Option Q2} {li hj : Bool} (q : StAt CM C H p lo hi li hj) (h1 : ¬ m = "low") (h2 : ¬ m = "high") (h3 : ¬ m = "low_in") (h4 : ¬ m = "high_in") (h : R) : ∃ a dx fs, V.ref p = .ref a ∧ H a = some (.ins C dx fs) ∧ fs.lookup m = none ∧ R := by
  obtain ⟨dx, fs, e1, e2⟩ := q.raw h1 h2 h3 h4
  exact ⟨p, dx, fs, rfl, e1, e2, h⟩
end
end My
namespace K40
open PySem PySem.Spec PyProof.Rows L2 My
/-! ### the text by places -/
def topS (i : Nat) : Stmt := PySem.Challenge.pw_sizeladders_k40_partings_shown_or_not.main.body.getD i (.Pass ⟨0, 0, 0, 0⟩)
abbrev s_is_whole : Stmt := (topS 2)
abbrev s_is_number : Stmt := (topS 3)
abbrev s_is_tuple_of : Stmt := (topS 4)
abbrev s_is_word : Stmt := (topS 5)
abbrev s_common_part : Stmt := (topS 16)
abbrev s_written : Stmt := (topS 17)
abbrev s_Measure_init : Stmt := (inClass (topS 18) 0)
abbrev s_Measure_eq : Stmt := (inClass (topS 18) 1)
abbrev s_Measure_str : Stmt := (inClass (topS 18) 2)
abbrev s_Measure_plus : Stmt := (inClass (topS 18) 4)
abbrev s_Measure_parted : Stmt := (inClass (topS 18) 7)
abbrev s_Measure_is_below : Stmt := (inClass (topS 18) 8)
abbrev s_is_measure_or_none : Stmt := (topS 19)
abbrev s_turns_of : Stmt := (topS 21)
abbrev s_turn_behind : Stmt := (topS 22)
abbrev s_points_of : Stmt := (topS 23)
abbrev s_looks_of : Stmt := (topS 24)
abbrev s_are_alike : Stmt := (topS 25)
abbrev s_parting : Stmt := (topS 26)
abbrev s_is_size : Stmt := (topS 28)
abbrev s_is_part : Stmt := (topS 29)
abbrev s_shows_parting : Stmt := (topS 30)
abbrev s_slip_of : Stmt := (topS 32)
abbrev s_is_empty : Stmt := (topS 34)
abbrev s_cut_low : Stmt := (topS 36)
abbrev s_cut_high : Stmt := (topS 37)
abbrev s_Stretch_init : Stmt := (inClass (topS 38) 0)
abbrev s_Stretch_cut : Stmt := (inClass (topS 38) 7)
abbrev s_are_marks : Stmt := (topS 42)
abbrev s_is_rule : Stmt := (topS 43)
abbrev s_is_span : Stmt := (topS 44)
abbrev s_midsts_of : Stmt := (topS 45)
abbrev s_size_by_rule : Stmt := (topS 46)
abbrev s_end_at : Stmt := (topS 47)
abbrev s_stretch_by_rule : Stmt := (topS 48)
abbrev s_has_size : Stmt := (topS 49)
abbrev s_Ladder_init : Stmt := (inClass (topS 51) 0)
abbrev s_Ladder_len : Stmt := (inClass (topS 51) 4)
abbrev s_Ladder_size : Stmt := (inClass (topS 51) 5)
abbrev s_Ladder_stretch : Stmt := (inClass (topS 51) 6)
abbrev s_l_hand_at : Stmt := (topS 53)
abbrev s_l_take : Stmt := (topS 54)
abbrev s_l_pick : Stmt := (topS 55)
abbrev s_l_grain : Stmt := (topS 56)
abbrev s_l_drawn_marks : Stmt := (topS 57)
abbrev s_l_drawn_ladder : Stmt := (topS 58)
abbrev s_l_measure : Stmt := (topS 59)
abbrev s_l_made : Stmt := (topS 60)
abbrev s_l_size : Stmt := (topS 61)
abbrev s_l_points : Stmt := (topS 62)
abbrev s_l_two_ladder : Stmt := (topS 63)
abbrev s_l_alike : Stmt := (topS 64)
abbrev s_l_parting : Stmt := (topS 65)
abbrev s_l_span : Stmt := (topS 66)
abbrev s_l_same : Stmt := (topS 67)
abbrev s_l_any : Stmt := (topS 68)
abbrev s_l_part_bent : Stmt := (topS 69)
abbrev s_l_bent : Stmt := (topS 70)
abbrev s_l_right : Stmt := (topS 71)
abbrev s_law : Stmt := (topS 72)
abbrev N_is_whole : List Str := ["thing"]
abbrev p_is_whole : List Str := ["thing"]
theorem sc_is_whole : FnScope N_is_whole p_is_whole (defScope s_is_whole) := ⟨rfl, rfl, rfl, by decide +kernel, rfl, by decide +kernel, by decide +kernel⟩
abbrev N_is_number : List Str := ["thing", "number"]
abbrev p_is_number : List Str := ["thing", "number"]
theorem sc_is_number : FnScope N_is_number p_is_number (defScope s_is_number) := ⟨rfl, rfl, rfl, by decide +kernel, rfl, by decide +kernel, by decide +kernel⟩
abbrev N_is_tuple_of : List Str := ["thing", "many"]
abbrev p_is_tuple_of : List Str := ["thing", "many"]
theorem sc_is_tuple_of : FnScope N_is_tuple_of p_is_tuple_of (defScope s_is_tuple_of) := ⟨rfl, rfl, rfl, by decide +kernel, rfl, by decide +kernel, by decide +kernel⟩
abbrev N_is_word : List Str := ["thing", "word"]
abbrev p_is_word : List Str := ["thing", "word"]
theorem sc_is_word : FnScope N_is_word p_is_word (defScope s_is_word) := ⟨rfl, rfl, rfl, by decide +kernel, rfl, by decide +kernel, by decide +kernel⟩
abbrev N_common_part : List Str := ["one", "other", "great", "small"]
abbrev p_common_part : List Str := ["one", "other"]
theorem sc_common_part : FnScope N_common_part p_common_part (defScope s_common_part) := ⟨rfl, rfl, rfl, by decide +kernel, rfl, by decide +kernel, by decide +kernel⟩
abbrev N_written : List Str := ["top", "bottom", "whole", "rest"]
abbrev p_written : List Str := ["top", "bottom"]
theorem sc_written : FnScope N_written p_written (defScope s_written) := ⟨rfl, rfl, rfl, by decide +kernel, rfl, by decide +kernel, by decide +kernel⟩
abbrev N_Measure_init : List Str := ["self", "top", "bottom", "common"]
abbrev p_Measure_init : List Str := ["self", "top", "bottom"]
theorem sc_Measure_init : FnScope N_Measure_init p_Measure_init (defScope s_Measure_init) := ⟨rfl, rfl, rfl, by decide +kernel, rfl, by decide +kernel, by decide +kernel⟩
abbrev N_Measure_eq : List Str := ["self", "other"]
abbrev p_Measure_eq : List Str := ["self", "other"]
theorem sc_Measure_eq : FnScope N_Measure_eq p_Measure_eq (defScope s_Measure_eq) := ⟨rfl, rfl, rfl, by decide +kernel, rfl, by decide +kernel, by decide +kernel⟩
abbrev N_Measure_str : List Str := ["self"]
abbrev p_Measure_str : List Str := ["self"]
theorem sc_Measure_str : FnScope N_Measure_str p_Measure_str (defScope s_Measure_str) := ⟨rfl, rfl, rfl, by decide +kernel, rfl, by decide +kernel, by decide +kernel⟩
abbrev N_Measure_plus : List Str := ["self", "other"]
abbrev p_Measure_plus : List Str := ["self", "other"]
theorem sc_Measure_plus : FnScope N_Measure_plus p_Measure_plus (defScope s_Measure_plus) := ⟨rfl, rfl, rfl, by decide +kernel, rfl, by decide +kernel, by decide +kernel⟩
abbrev N_Measure_parted : List Str := ["self", "many"]
abbrev p_Measure_parted : List Str := ["self", "many"]
theorem sc_Measure_parted : FnScope N_Measure_parted p_Measure_parted (defScope s_Measure_parted) := ⟨rfl, rfl, rfl, by decide +kernel, rfl, by decide +kernel, by decide +kernel⟩
abbrev N_Measure_is_below : List Str := ["self", "other", "alike", "here", "there"]
abbrev p_Measure_is_below : List Str := ["self", "other", "alike"]
theorem sc_Measure_is_below : FnScope N_Measure_is_below p_Measure_is_below (defScope s_Measure_is_below) := ⟨rfl, rfl, rfl, by decide +kernel, rfl, by decide +kernel, by decide +kernel⟩
abbrev N_is_measure_or_none : List Str := ["thing"]
abbrev p_is_measure_or_none : List Str := ["thing"]
theorem sc_is_measure_or_none : FnScope N_is_measure_or_none p_is_measure_or_none (defScope s_is_measure_or_none) := ⟨rfl, rfl, rfl, by decide +kernel, rfl, by decide +kernel, by decide +kernel⟩
abbrev N_turns_of : List Str := ["ladder", "stretches", "ends", "number", "stretch", "end"]
abbrev p_turns_of : List Str := ["ladder"]
theorem sc_turns_of : FnScope N_turns_of p_turns_of (defScope s_turns_of) := ⟨rfl, rfl, rfl, by decide +kernel, rfl, by decide +kernel, by decide +kernel⟩
abbrev N_turn_behind : List Str := ["turns", "measure", "high", "least", "turn"]
abbrev p_turn_behind : List Str := ["turns", "measure", "high"]
theorem sc_turn_behind : FnScope N_turn_behind p_turn_behind (defScope s_turn_behind) := ⟨rfl, rfl, rfl, by decide +kernel, rfl, by decide +kernel, by decide +kernel⟩
abbrev N_points_of : List Str := ["turns", "low", "high", "points", "point"]
abbrev p_points_of : List Str := ["turns", "low", "high"]
theorem sc_points_of : FnScope N_points_of p_points_of (defScope s_points_of) := ⟨rfl, rfl, rfl, by decide +kernel, rfl, by decide +kernel, by decide +kernel⟩
abbrev N_looks_of : List Str := ["points", "looks", "at", "point"]
abbrev p_looks_of : List Str := ["points"]
theorem sc_looks_of : FnScope N_looks_of p_looks_of (defScope s_looks_of) := ⟨rfl, rfl, rfl, by decide +kernel, rfl, by decide +kernel, by decide +kernel⟩
abbrev N_are_alike : List Str := ["here", "there", "shift"]
abbrev p_are_alike : List Str := ["here", "there", "shift"]
theorem sc_are_alike : FnScope N_are_alike p_are_alike (defScope s_are_alike) := ⟨rfl, rfl, rfl, by decide +kernel, rfl, by decide +kernel, by decide +kernel⟩
abbrev N_parting : List Str := ["one", "other", "low", "high", "shift", "points", "measure", "where", "look", "here", "there"]
abbrev p_parting : List Str := ["one", "other", "low", "high", "shift"]
theorem sc_parting : FnScope N_parting p_parting (defScope s_parting) := ⟨rfl, rfl, rfl, by decide +kernel, rfl, by decide +kernel, by decide +kernel⟩
abbrev N_is_size : List Str := ["thing", "meant"]
abbrev p_is_size : List Str := ["thing", "meant"]
theorem sc_is_size : FnScope N_is_size p_is_size (defScope s_is_size) := ⟨rfl, rfl, rfl, by decide +kernel, rfl, by decide +kernel, by decide +kernel⟩
abbrev N_is_part : List Str := ["thing", "meant", "word", "measure", "where", "here", "there"]
abbrev p_is_part : List Str := ["thing", "meant"]
theorem sc_is_part : FnScope N_is_part p_is_part (defScope s_is_part) := ⟨rfl, rfl, rfl, by decide +kernel, rfl, by decide +kernel, by decide +kernel⟩
abbrev N_shows_parting : List Str := ["one", "other", "low", "high", "shift", "thing", "meant"]
abbrev p_shows_parting : List Str := ["one", "other", "low", "high", "shift", "thing"]
theorem sc_shows_parting : FnScope N_shows_parting p_shows_parting (defScope s_shows_parting) := ⟨rfl, rfl, rfl, by decide +kernel, rfl, by decide +kernel, by decide +kernel⟩
abbrev N_slip_of : List Str := ["rows", "number"]
abbrev p_slip_of : List Str := ["rows"]
theorem sc_slip_of : FnScope N_slip_of p_slip_of (defScope s_slip_of) := ⟨rfl, rfl, rfl, by decide +kernel, rfl, by decide +kernel, by decide +kernel⟩
abbrev N_is_empty : List Str := ["low", "high", "low_in", "high_in"]
abbrev p_is_empty : List Str := ["low", "high", "low_in", "high_in"]
theorem sc_is_empty : FnScope N_is_empty p_is_empty (defScope s_is_empty) := ⟨rfl, rfl, rfl, by decide +kernel, rfl, by decide +kernel, by decide +kernel⟩
abbrev N_cut_low : List Str := ["one", "other"]
abbrev p_cut_low : List Str := ["one", "other"]
theorem sc_cut_low : FnScope N_cut_low p_cut_low (defScope s_cut_low) := ⟨rfl, rfl, rfl, by decide +kernel, rfl, by decide +kernel, by decide +kernel⟩
abbrev N_cut_high : List Str := ["one", "other"]
abbrev p_cut_high : List Str := ["one", "other"]
theorem sc_cut_high : FnScope N_cut_high p_cut_high (defScope s_cut_high) := ⟨rfl, rfl, rfl, by decide +kernel, rfl, by decide +kernel, by decide +kernel⟩
abbrev N_Stretch_init : List Str := ["self", "low", "high", "low_in", "high_in"]
abbrev p_Stretch_init : List Str := ["self", "low", "high", "low_in", "high_in"]
theorem sc_Stretch_init : FnScope N_Stretch_init p_Stretch_init (defScope s_Stretch_init) := ⟨rfl, rfl, rfl, by decide +kernel, rfl, by decide +kernel, by decide +kernel⟩
abbrev N_Stretch_cut : List Str := ["self", "other", "low", "low_in", "high", "high_in"]
abbrev p_Stretch_cut : List Str := ["self", "other"]
theorem sc_Stretch_cut : FnScope N_Stretch_cut p_Stretch_cut (defScope s_Stretch_cut) := ⟨rfl, rfl, rfl, by decide +kernel, rfl, by decide +kernel, by decide +kernel⟩
abbrev N_are_marks : List Str := ["thing", "mark"]
abbrev p_are_marks : List Str := ["thing"]
theorem sc_are_marks : FnScope N_are_marks p_are_marks (defScope s_are_marks) := ⟨rfl, rfl, rfl, by decide +kernel, rfl, by decide +kernel, by decide +kernel⟩
abbrev N_is_rule : List Str := ["thing"]
abbrev p_is_rule : List Str := ["thing"]
theorem sc_is_rule : FnScope N_is_rule p_is_rule (defScope s_is_rule) := ⟨rfl, rfl, rfl, by decide +kernel, rfl, by decide +kernel, by decide +kernel⟩
abbrev N_is_span : List Str := ["least", "most"]
abbrev p_is_span : List Str := ["least", "most"]
theorem sc_is_span : FnScope N_is_span p_is_span (defScope s_is_span) := ⟨rfl, rfl, rfl, by decide +kernel, rfl, by decide +kernel, by decide +kernel⟩
abbrev N_midsts_of : List Str := ["marks", "at"]
abbrev p_midsts_of : List Str := ["marks"]
theorem sc_midsts_of : FnScope N_midsts_of p_midsts_of (defScope s_midsts_of) := ⟨rfl, rfl, rfl, by decide +kernel, rfl, by decide +kernel, by decide +kernel⟩
abbrev N_size_by_rule : List Str := ["marks", "rule", "measure", "mark", "midst"]
abbrev p_size_by_rule : List Str := ["marks", "rule", "measure"]
theorem sc_size_by_rule : FnScope N_size_by_rule p_size_by_rule (defScope s_size_by_rule) := ⟨rfl, rfl, rfl, by decide +kernel, rfl, by decide +kernel, by decide +kernel⟩
abbrev N_end_at : List Str := ["ends", "at"]
abbrev p_end_at : List Str := ["ends", "at"]
theorem sc_end_at : FnScope N_end_at p_end_at (defScope s_end_at) := ⟨rfl, rfl, rfl, by decide +kernel, rfl, by decide +kernel, by decide +kernel⟩
abbrev N_stretch_by_rule : List Str := ["marks", "rule", "number", "midsts"]
abbrev p_stretch_by_rule : List Str := ["marks", "rule", "number"]
theorem sc_stretch_by_rule : FnScope N_stretch_by_rule p_stretch_by_rule (defScope s_stretch_by_rule) := ⟨rfl, rfl, rfl, by decide +kernel, rfl, by decide +kernel, by decide +kernel⟩
abbrev N_has_size : List Str := ["ladder", "thing"]
abbrev p_has_size : List Str := ["ladder", "thing"]
theorem sc_has_size : FnScope N_has_size p_has_size (defScope s_has_size) := ⟨rfl, rfl, rfl, by decide +kernel, rfl, by decide +kernel, by decide +kernel⟩
abbrev N_Ladder_init : List Str := ["self", "marks", "rule", "least", "most", "slip"]
abbrev p_Ladder_init : List Str := ["self", "marks", "rule", "least", "most"]
theorem sc_Ladder_init : FnScope N_Ladder_init p_Ladder_init (defScope s_Ladder_init) := ⟨rfl, rfl, rfl, by decide +kernel, rfl, by decide +kernel, by decide +kernel⟩
abbrev N_Ladder_len : List Str := ["self"]
abbrev p_Ladder_len : List Str := ["self"]
theorem sc_Ladder_len : FnScope N_Ladder_len p_Ladder_len (defScope s_Ladder_len) := ⟨rfl, rfl, rfl, by decide +kernel, rfl, by decide +kernel, by decide +kernel⟩
abbrev N_Ladder_size : List Str := ["self", "measure", "number"]
abbrev p_Ladder_size : List Str := ["self", "measure"]
theorem sc_Ladder_size : FnScope N_Ladder_size p_Ladder_size (defScope s_Ladder_size) := ⟨rfl, rfl, rfl, by decide +kernel, rfl, by decide +kernel, by decide +kernel⟩
abbrev N_Ladder_stretch : List Str := ["self", "number", "bounds"]
abbrev p_Ladder_stretch : List Str := ["self", "number"]
theorem sc_Ladder_stretch : FnScope N_Ladder_stretch p_Ladder_stretch (defScope s_Ladder_stretch) := ⟨rfl, rfl, rfl, by decide +kernel, rfl, by decide +kernel, by decide +kernel⟩
abbrev N_l_hand_at : List Str := ["_law_script", "_law_k", "_law_cell"]
abbrev p_l_hand_at : List Str := ["_law_script", "_law_k"]
theorem sc_l_hand_at : FnScope N_l_hand_at p_l_hand_at (defScope s_l_hand_at) := ⟨rfl, rfl, rfl, by decide +kernel, rfl, by decide +kernel, by decide +kernel⟩
abbrev N_l_take : List Str := ["_law_hand", "_law_many", "_law_digit", "_law_primes", "_law_prime", "_law_drawn"]
abbrev p_l_take : List Str := ["_law_hand", "_law_many"]
theorem sc_l_take : FnScope N_l_take p_l_take (defScope s_l_take) := ⟨rfl, rfl, rfl, by decide +kernel, rfl, by decide +kernel, by decide +kernel⟩
abbrev N_l_pick : List Str := ["_law_hand", "_law_some"]
abbrev p_l_pick : List Str := ["_law_hand", "_law_some"]
theorem sc_l_pick : FnScope N_l_pick p_l_pick (defScope s_l_pick) := ⟨rfl, rfl, rfl, by decide +kernel, rfl, by decide +kernel, by decide +kernel⟩
abbrev N_l_grain : List Str := ["_law_hand"]
abbrev p_l_grain : List Str := ["_law_hand"]
theorem sc_l_grain : FnScope N_l_grain p_l_grain (defScope s_l_grain) := ⟨rfl, rfl, rfl, by decide +kernel, rfl, by decide +kernel, by decide +kernel⟩
abbrev N_l_drawn_marks : List Str := ["_law_hand", "_law_many", "_law_steady", "_law_marks", "_law_step", "_law_k"]
abbrev p_l_drawn_marks : List Str := ["_law_hand"]
theorem sc_l_drawn_marks : FnScope N_l_drawn_marks p_l_drawn_marks (defScope s_l_drawn_marks) := ⟨rfl, rfl, rfl, by decide +kernel, rfl, by decide +kernel, by decide +kernel⟩
abbrev N_l_drawn_ladder : List Str := ["_law_hand", "_law_marks", "_law_manner", "_law_floor", "_law_roof"]
abbrev p_l_drawn_ladder : List Str := ["_law_hand"]
theorem sc_l_drawn_ladder : FnScope N_l_drawn_ladder p_l_drawn_ladder (defScope s_l_drawn_ladder) := ⟨rfl, rfl, rfl, by decide +kernel, rfl, by decide +kernel, by decide +kernel⟩
abbrev N_l_measure : List Str := ["_law_x", "_law_grain_here"]
abbrev p_l_measure : List Str := ["_law_x", "_law_grain_here"]
theorem sc_l_measure : FnScope N_l_measure p_l_measure (defScope s_l_measure) := ⟨rfl, rfl, rfl, by decide +kernel, rfl, by decide +kernel, by decide +kernel⟩
abbrev N_l_made : List Str := ["_law_ladder", "_law_grain_here", "_law_marks", "_law_x"]
abbrev p_l_made : List Str := ["_law_ladder", "_law_grain_here"]
theorem sc_l_made : FnScope N_l_made p_l_made (defScope s_l_made) := ⟨rfl, rfl, rfl, by decide +kernel, rfl, by decide +kernel, by decide +kernel⟩
abbrev N_l_size : List Str := ["_law_ladder", "_law_x", "_law_marks", "_law_manner", "_law_floor", "_law_roof", "_law_above", "_law_below", "_law_k", "_law_mark"]
abbrev p_l_size : List Str := ["_law_ladder", "_law_x"]
theorem sc_l_size : FnScope N_l_size p_l_size (defScope s_l_size) := ⟨rfl, rfl, rfl, by decide +kernel, rfl, by decide +kernel, by decide +kernel⟩
abbrev N_l_points : List Str := ["_law_ladder", "_law_marks", "_law_manner", "_law_floor", "_law_roof", "_law_found", "_law_a", "_law_b", "_law_x"]
abbrev p_l_points : List Str := ["_law_ladder"]
theorem sc_l_points : FnScope N_l_points p_l_points (defScope s_l_points) := ⟨rfl, rfl, rfl, by decide +kernel, rfl, by decide +kernel, by decide +kernel⟩
abbrev N_l_two_ladder : List Str := ["_law_hand", "_law_ladder", "_law_marks", "_law_manner", "_law_floor", "_law_roof", "_law_kind", "_law_at", "_law_far", "_law_gap"]
abbrev p_l_two_ladder : List Str := ["_law_hand", "_law_ladder"]
theorem sc_l_two_ladder : FnScope N_l_two_ladder p_l_two_ladder (defScope s_l_two_ladder) := ⟨rfl, rfl, rfl, by decide +kernel, rfl, by decide +kernel, by decide +kernel⟩
abbrev N_l_alike : List Str := ["_law_here", "_law_there", "_law_moved"]
abbrev p_l_alike : List Str := ["_law_here", "_law_there", "_law_moved"]
theorem sc_l_alike : FnScope N_l_alike p_l_alike (defScope s_l_alike) := ⟨rfl, rfl, rfl, by decide +kernel, rfl, by decide +kernel, by decide +kernel⟩
abbrev N_l_parting : List Str := ["_law_left", "_law_right_here", "_law_start", "_law_goal", "_law_moved", "_law_points_here", "_law_x", "_law_here", "_law_there"]
abbrev p_l_parting : List Str := ["_law_left", "_law_right_here", "_law_start", "_law_goal", "_law_moved"]
theorem sc_l_parting : FnScope N_l_parting p_l_parting (defScope s_l_parting) := ⟨rfl, rfl, rfl, by decide +kernel, rfl, by decide +kernel, by decide +kernel⟩
abbrev N_l_span : List Str := ["_law_hand", "_law_left", "_law_right_here", "_law_points_here", "_law_some", "_law_turn"]
abbrev p_l_span : List Str := ["_law_hand", "_law_left", "_law_right_here"]
theorem sc_l_span : FnScope N_l_span p_l_span (defScope s_l_span) := ⟨rfl, rfl, rfl, by decide +kernel, rfl, by decide +kernel, by decide +kernel⟩
abbrev N_l_same : List Str := ["_law_found", "_law_due", "_law_left", "_law_right_here"]
abbrev p_l_same : List Str := ["_law_found", "_law_due"]
theorem sc_l_same : FnScope N_l_same p_l_same (defScope s_l_same) := ⟨rfl, rfl, rfl, by decide +kernel, rfl, by decide +kernel, by decide +kernel⟩
abbrev N_l_any : List Str := ["_law_hand", "_law_some", "_law_thing", "_law_k"]
abbrev p_l_any : List Str := ["_law_hand"]
theorem sc_l_any : FnScope N_l_any p_l_any (defScope s_l_any) := ⟨rfl, rfl, rfl, by decide +kernel, rfl, by decide +kernel, by decide +kernel⟩
abbrev N_l_part_bent : List Str := ["_law_hand", "_law_part", "_law_grain_here", "_law_near"]
abbrev p_l_part_bent : List Str := ["_law_hand", "_law_part", "_law_grain_here"]
theorem sc_l_part_bent : FnScope N_l_part_bent p_l_part_bent (defScope s_l_part_bent) := ⟨rfl, rfl, rfl, by decide +kernel, rfl, by decide +kernel, by decide +kernel⟩
abbrev N_l_bent : List Str := ["_law_hand", "_law_thing", "_law_grain_here", "_law_at", "_law_kind", "_law_some"]
abbrev p_l_bent : List Str := ["_law_hand", "_law_thing", "_law_grain_here"]
theorem sc_l_bent : FnScope N_l_bent p_l_bent (defScope s_l_bent) := ⟨rfl, rfl, rfl, by decide +kernel, rfl, by decide +kernel, by decide +kernel⟩
abbrev N_l_right : List Str := ["_law_hand", "_law_first", "_law_second", "_law_ends", "_law_moved", "_law_due", "_law_grain_here", "_law_turn", "_law_thing", "_law_found"]
abbrev p_l_right : List Str := ["_law_hand", "_law_first", "_law_second", "_law_ends", "_law_moved", "_law_due", "_law_grain_here"]
theorem sc_l_right : FnScope N_l_right p_l_right (defScope s_l_right) := ⟨rfl, rfl, rfl, by decide +kernel, rfl, by decide +kernel, by decide +kernel⟩
abbrev N_law : List Str := ["_law_script", "_law_k", "_law_hand", "_law_grain_here", "_law_here", "_law_there", "_law_moved", "_law_span_here", "_law_ends", "_law_due"]
abbrev p_law : List Str := ["_law_script"]
theorem sc_law : FnScope N_law p_law (defScope s_law) := ⟨rfl, rfl, rfl, by decide +kernel, rfl, by decide +kernel, by decide +kernel⟩
/-! ### what the top has written -/
structure Fds where
  is_whole : FuncData
  is_number : FuncData
  is_tuple_of : FuncData
  is_word : FuncData
  common_part : FuncData
  written : FuncData
  Measure_init : FuncData
  Measure_eq : FuncData
  Measure_str : FuncData
  Measure_plus : FuncData
  Measure_parted : FuncData
  Measure_is_below : FuncData
  is_measure_or_none : FuncData
  turns_of : FuncData
  turn_behind : FuncData
  points_of : FuncData
  looks_of : FuncData
  are_alike : FuncData
  parting : FuncData
  is_size : FuncData
  is_part : FuncData
  shows_parting : FuncData
  slip_of : FuncData
  is_empty : FuncData
  cut_low : FuncData
  cut_high : FuncData
  Stretch_init : FuncData
  Stretch_cut : FuncData
  are_marks : FuncData
  is_rule : FuncData
  is_span : FuncData
  midsts_of : FuncData
  size_by_rule : FuncData
  end_at : FuncData
  stretch_by_rule : FuncData
  has_size : FuncData
  Ladder_init : FuncData
  Ladder_len : FuncData
  Ladder_size : FuncData
  Ladder_stretch : FuncData
  l_hand_at : FuncData
  l_take : FuncData
  l_pick : FuncData
  l_grain : FuncData
  l_drawn_marks : FuncData
  l_drawn_ladder : FuncData
  l_measure : FuncData
  l_made : FuncData
  l_size : FuncData
  l_points : FuncData
  l_two_ladder : FuncData
  l_alike : FuncData
  l_parting : FuncData
  l_span : FuncData
  l_same : FuncData
  l_any : FuncData
  l_part_bent : FuncData
  l_bent : FuncData
  l_right : FuncData
  law : FuncData
structure Txt (K : PySem.W.Frag) (mg : Str → Option Value) (φ : Fds) : Prop where
  g_is_whole : mg "is_whole" = some (.ref (He.ga K "is_whole"))
  g_is_number : mg "is_number" = some (.ref (He.ga K "is_number"))
  g_is_tuple_of : mg "is_tuple_of" = some (.ref (He.ga K "is_tuple_of"))
  g_is_word : mg "is_word" = some (.ref (He.ga K "is_word"))
  g_common_part : mg "common_part" = some (.ref (He.ga K "common_part"))
  g_written : mg "written" = some (.ref (He.ga K "written"))
  g_is_measure_or_none : mg "is_measure_or_none" = some (.ref (He.ga K "is_measure_or_none"))
  g_turns_of : mg "turns_of" = some (.ref (He.ga K "turns_of"))
  g_turn_behind : mg "turn_behind" = some (.ref (He.ga K "turn_behind"))
  g_points_of : mg "points_of" = some (.ref (He.ga K "points_of"))
  g_looks_of : mg "looks_of" = some (.ref (He.ga K "looks_of"))
  g_are_alike : mg "are_alike" = some (.ref (He.ga K "are_alike"))
  g_parting : mg "parting" = some (.ref (He.ga K "parting"))
  g_is_size : mg "is_size" = some (.ref (He.ga K "is_size"))
  g_is_part : mg "is_part" = some (.ref (He.ga K "is_part"))
  g_shows_parting : mg "shows_parting" = some (.ref (He.ga K "shows_parting"))
  g_slip_of : mg "slip_of" = some (.ref (He.ga K "slip_of"))
  g_is_empty : mg "is_empty" = some (.ref (He.ga K "is_empty"))
  g_cut_low : mg "cut_low" = some (.ref (He.ga K "cut_low"))
  g_cut_high : mg "cut_high" = some (.ref (He.ga K "cut_high"))
  g_are_marks : mg "are_marks" = some (.ref (He.ga K "are_marks"))
  g_is_rule : mg "is_rule" = some (.ref (He.ga K "is_rule"))
  g_is_span : mg "is_span" = some (.ref (He.ga K "is_span"))
  g_midsts_of : mg "midsts_of" = some (.ref (He.ga K "midsts_of"))
  g_size_by_rule : mg "size_by_rule" = some (.ref (He.ga K "size_by_rule"))
  g_end_at : mg "end_at" = some (.ref (He.ga K "end_at"))
  g_stretch_by_rule : mg "stretch_by_rule" = some (.ref (He.ga K "stretch_by_rule"))
  g_has_size : mg "has_size" = some (.ref (He.ga K "has_size"))
  g_l_hand_at : mg "_law_hand_at" = some (.ref (He.ga K "_law_hand_at"))
  g_l_take : mg "_law_take" = some (.ref (He.ga K "_law_take"))
  g_l_pick : mg "_law_pick" = some (.ref (He.ga K "_law_pick"))
  g_l_grain : mg "_law_grain" = some (.ref (He.ga K "_law_grain"))
  g_l_drawn_marks : mg "_law_drawn_marks" = some (.ref (He.ga K "_law_drawn_marks"))
  g_l_drawn_ladder : mg "_law_drawn_ladder" = some (.ref (He.ga K "_law_drawn_ladder"))
  g_l_measure : mg "_law_measure" = some (.ref (He.ga K "_law_measure"))
  g_l_made : mg "_law_made" = some (.ref (He.ga K "_law_made"))
  g_l_size : mg "_law_size" = some (.ref (He.ga K "_law_size"))
  g_l_points : mg "_law_points" = some (.ref (He.ga K "_law_points"))
  g_l_two_ladder : mg "_law_two_ladder" = some (.ref (He.ga K "_law_two_ladder"))
  g_l_alike : mg "_law_alike" = some (.ref (He.ga K "_law_alike"))
  g_l_parting : mg "_law_parting" = some (.ref (He.ga K "_law_parting"))
  g_l_span : mg "_law_span" = some (.ref (He.ga K "_law_span"))
  g_l_same : mg "_law_same" = some (.ref (He.ga K "_law_same"))
  g_l_any : mg "_law_any" = some (.ref (He.ga K "_law_any"))
  g_l_part_bent : mg "_law_part_bent" = some (.ref (He.ga K "_law_part_bent"))
  g_l_bent : mg "_law_bent" = some (.ref (He.ga K "_law_bent"))
  g_l_right : mg "_law_right" = some (.ref (He.ga K "_law_right"))
  g_law : mg "law" = some (.ref (He.ga K "law"))
  g_Measure : mg "Measure" = some (.ref (He.ga K "Measure"))
  g_Stretch : mg "Stretch" = some (.ref (He.ga K "Stretch"))
  g_Ladder : mg "Ladder" = some (.ref (He.ga K "Ladder"))
  g_RULES : mg "RULES" = some (.ref (He.ga K "RULES"))
  v_MOST_MARKS : ∃ t, mg "MOST_MARKS" = some (.int 24 t)
  z_abs : mg "abs" = none
  z_all : mg "all" = none
  z_bool : mg "bool" = none
  z_divmod : mg "divmod" = none
  z_enumerate : mg "enumerate" = none
  z_int : mg "int" = none
  z_isinstance : mg "isinstance" = none
  z_len : mg "len" = none
  z_list : mg "list" = none
  z_max : mg "max" = none
  z_min : mg "min" = none
  z_range : mg "range" = none
  z_set : mg "set" = none
  z_sorted : mg "sorted" = none
  z_str : mg "str" = none
  z_tuple : mg "tuple" = none
  z_zip : mg "zip" = none
  cl_Measure : Cls K (He.ga K "Measure")
  na_Measure_top : NoAttr K (He.ga K "Measure") "top"
  na_Measure_bottom : NoAttr K (He.ga K "Measure") "bottom"
  me_Measure_eq : Meth K (He.ga K "Measure") "__eq__" (He.ma K (He.ga K "Measure") "__eq__")
  me_Measure_str : Meth K (He.ga K "Measure") "__str__" (He.ma K (He.ga K "Measure") "__str__")
  me_Measure_plus : Meth K (He.ga K "Measure") "plus" (He.ma K (He.ga K "Measure") "plus")
  me_Measure_parted : Meth K (He.ga K "Measure") "parted" (He.ma K (He.ga K "Measure") "parted")
  me_Measure_is_below : Meth K (He.ga K "Measure") "is_below" (He.ma K (He.ga K "Measure") "is_below")
  mk_Measure : Mk K (He.ga K "Measure") (He.ma K (He.ga K "Measure") "__init__")
  cl_Stretch : Cls K (He.ga K "Stretch")
  na_Stretch_low : NoAttr K (He.ga K "Stretch") "low"
  na_Stretch_high : NoAttr K (He.ga K "Stretch") "high"
  na_Stretch_low_in : NoAttr K (He.ga K "Stretch") "low_in"
  na_Stretch_high_in : NoAttr K (He.ga K "Stretch") "high_in"
  me_Stretch_cut : Meth K (He.ga K "Stretch") "cut" (He.ma K (He.ga K "Stretch") "cut")
  mk_Stretch : Mk K (He.ga K "Stretch") (He.ma K (He.ga K "Stretch") "__init__")
  cl_Ladder : Cls K (He.ga K "Ladder")
  na_Ladder_marks : NoAttr K (He.ga K "Ladder") "marks"
  na_Ladder_rule : NoAttr K (He.ga K "Ladder") "rule"
  na_Ladder_least : NoAttr K (He.ga K "Ladder") "least"
  na_Ladder_most : NoAttr K (He.ga K "Ladder") "most"
  me_Ladder_len : Meth K (He.ga K "Ladder") "__len__" (He.ma K (He.ga K "Ladder") "__len__")
  me_Ladder_size : Meth K (He.ga K "Ladder") "size" (He.ma K (He.ga K "Ladder") "size")
  me_Ladder_stretch : Meth K (He.ga K "Ladder") "stretch" (He.ma K (He.ga K "Ladder") "stretch")
  mk_Ladder : Mk K (He.ga K "Ladder") (He.ma K (He.ga K "Ladder") "__init__")
  ii_Measure : IsC K (He.ga K "Measure")
  ii_Stretch : IsC K (He.ga K "Stretch")
  ii_Ladder : IsC K (He.ga K "Ladder")
  ec_Measure : EqC K (He.ga K "Measure")
  tp_RULES : ∀ H, SqT K H (He.ga K "RULES") ((["up", "down", "near"] : List Str).map V.str)
  k_Measure_Measure : PySem.W.kitOne K (.ref (He.ga K "Measure")) (.ref (He.ga K "Measure")) = some true
  k_Stretch_Stretch : PySem.W.kitOne K (.ref (He.ga K "Stretch")) (.ref (He.ga K "Stretch")) = some true
  k_Measure_Stretch : PySem.W.kitOne K (.ref (He.ga K "Measure")) (.ref (He.ga K "Stretch")) = some false
  k_Stretch_Measure : PySem.W.kitOne K (.ref (He.ga K "Stretch")) (.ref (He.ga K "Measure")) = some false
  k_Ladder_Ladder : PySem.W.kitOne K (.ref (He.ga K "Ladder")) (.ref (He.ga K "Ladder")) = some true
  k_NoneType_Measure : PySem.W.kitOne K (.type "NoneType") (.ref (He.ga K "Measure")) = some false
  k_bool_Measure : PySem.W.kitOne K (.type "bool") (.ref (He.ga K "Measure")) = some false
  k_int_Measure : PySem.W.kitOne K (.type "int") (.ref (He.ga K "Measure")) = some false
  k_str_Measure : PySem.W.kitOne K (.type "str") (.ref (He.ga K "Measure")) = some false
  k_list_Measure : PySem.W.kitOne K (.type "list") (.ref (He.ga K "Measure")) = some false
  k_tuple_Measure : PySem.W.kitOne K (.type "tuple") (.ref (He.ga K "Measure")) = some false
  k_dict_Measure : PySem.W.kitOne K (.type "dict") (.ref (He.ga K "Measure")) = some false
  k_Measure_tuple : PySem.W.kitOne K (.ref (He.ga K "Measure")) (.type "tuple") = some false
  k_Measure_str : PySem.W.kitOne K (.ref (He.ga K "Measure")) (.type "str") = some false
  k_Measure_int : PySem.W.kitOne K (.ref (He.ga K "Measure")) (.type "int") = some false
  k_Measure_bool : PySem.W.kitOne K (.ref (He.ga K "Measure")) (.type "bool") = some false
  k_Stretch_tuple : PySem.W.kitOne K (.ref (He.ga K "Stretch")) (.type "tuple") = some false
  k_Stretch_str : PySem.W.kitOne K (.ref (He.ga K "Stretch")) (.type "str") = some false
  k_Stretch_int : PySem.W.kitOne K (.ref (He.ga K "Stretch")) (.type "int") = some false
  k_Stretch_bool : PySem.W.kitOne K (.ref (He.ga K "Stretch")) (.type "bool") = some false
  k_Ladder_tuple : PySem.W.kitOne K (.ref (He.ga K "Ladder")) (.type "tuple") = some false
  k_Ladder_str : PySem.W.kitOne K (.ref (He.ga K "Ladder")) (.type "str") = some false
  k_Ladder_int : PySem.W.kitOne K (.ref (He.ga K "Ladder")) (.type "int") = some false
  k_Ladder_bool : PySem.W.kitOne K (.ref (He.ga K "Ladder")) (.type "bool") = some false
  k_Ladder_Measure : PySem.W.kitOne K (.ref (He.ga K "Ladder")) (.ref (He.ga K "Measure")) = some false
  f_is_whole : FunD K "is_whole" "is_whole" (defArgs s_is_whole) (defBody s_is_whole) (defScope s_is_whole) [] [] (He.fAd K ("is_whole", none)) φ.is_whole
  f_is_number : FunD K "is_number" "is_number" (defArgs s_is_number) (defBody s_is_number) (defScope s_is_number) [] [] (He.fAd K ("is_number", none)) φ.is_number
  f_is_tuple_of : FunD K "is_tuple_of" "is_tuple_of" (defArgs s_is_tuple_of) (defBody s_is_tuple_of) (defScope s_is_tuple_of) [] [] (He.fAd K ("is_tuple_of", none)) φ.is_tuple_of
  f_is_word : FunD K "is_word" "is_word" (defArgs s_is_word) (defBody s_is_word) (defScope s_is_word) [] [] (He.fAd K ("is_word", none)) φ.is_word
  f_common_part : FunD K "common_part" "common_part" (defArgs s_common_part) (defBody s_common_part) (defScope s_common_part) [] [] (He.fAd K ("common_part", none)) φ.common_part
  f_written : FunD K "written" "written" (defArgs s_written) (defBody s_written) (defScope s_written) [] [] (He.fAd K ("written", none)) φ.written
  f_Measure_init : FunD K "__init__" "Measure.__init__" (defArgs s_Measure_init) (defBody s_Measure_init) (defScope s_Measure_init) [V.int 1] [] (He.fAd K ("Measure", some "__init__")) φ.Measure_init
  f_Measure_eq : FunD K "__eq__" "Measure.__eq__" (defArgs s_Measure_eq) (defBody s_Measure_eq) (defScope s_Measure_eq) [] [] (He.fAd K ("Measure", some "__eq__")) φ.Measure_eq
  f_Measure_str : FunD K "__str__" "Measure.__str__" (defArgs s_Measure_str) (defBody s_Measure_str) (defScope s_Measure_str) [] [] (He.fAd K ("Measure", some "__str__")) φ.Measure_str
  f_Measure_plus : FunD K "plus" "Measure.plus" (defArgs s_Measure_plus) (defBody s_Measure_plus) (defScope s_Measure_plus) [] [] (He.fAd K ("Measure", some "plus")) φ.Measure_plus
  f_Measure_parted : FunD K "parted" "Measure.parted" (defArgs s_Measure_parted) (defBody s_Measure_parted) (defScope s_Measure_parted) [V.int 2] [] (He.fAd K ("Measure", some "parted")) φ.Measure_parted
  f_Measure_is_below : FunD K "is_below" "Measure.is_below" (defArgs s_Measure_is_below) (defBody s_Measure_is_below) (defScope s_Measure_is_below) [V.bl false] [] (He.fAd K ("Measure", some "is_below")) φ.Measure_is_below
  f_is_measure_or_none : FunD K "is_measure_or_none" "is_measure_or_none" (defArgs s_is_measure_or_none) (defBody s_is_measure_or_none) (defScope s_is_measure_or_none) [] [] (He.fAd K ("is_measure_or_none", none)) φ.is_measure_or_none
  f_turns_of : FunD K "turns_of" "turns_of" (defArgs s_turns_of) (defBody s_turns_of) (defScope s_turns_of) [] [] (He.fAd K ("turns_of", none)) φ.turns_of
  f_turn_behind : FunD K "turn_behind" "turn_behind" (defArgs s_turn_behind) (defBody s_turn_behind) (defScope s_turn_behind) [] [] (He.fAd K ("turn_behind", none)) φ.turn_behind
  f_points_of : FunD K "points_of" "points_of" (defArgs s_points_of) (defBody s_points_of) (defScope s_points_of) [] [] (He.fAd K ("points_of", none)) φ.points_of
  f_looks_of : FunD K "looks_of" "looks_of" (defArgs s_looks_of) (defBody s_looks_of) (defScope s_looks_of) [] [] (He.fAd K ("looks_of", none)) φ.looks_of
  f_are_alike : FunD K "are_alike" "are_alike" (defArgs s_are_alike) (defBody s_are_alike) (defScope s_are_alike) [] [] (He.fAd K ("are_alike", none)) φ.are_alike
  f_parting : FunD K "parting" "parting" (defArgs s_parting) (defBody s_parting) (defScope s_parting) [V.int 0] [] (He.fAd K ("parting", none)) φ.parting
  f_is_size : FunD K "is_size" "is_size" (defArgs s_is_size) (defBody s_is_size) (defScope s_is_size) [] [] (He.fAd K ("is_size", none)) φ.is_size
  f_is_part : FunD K "is_part" "is_part" (defArgs s_is_part) (defBody s_is_part) (defScope s_is_part) [] [] (He.fAd K ("is_part", none)) φ.is_part
  f_shows_parting : FunD K "shows_parting" "shows_parting" (defArgs s_shows_parting) (defBody s_shows_parting) (defScope s_shows_parting) [] [] (He.fAd K ("shows_parting", none)) φ.shows_parting
  f_slip_of : FunD K "slip_of" "slip_of" (defArgs s_slip_of) (defBody s_slip_of) (defScope s_slip_of) [] [] (He.fAd K ("slip_of", none)) φ.slip_of
  f_is_empty : FunD K "is_empty" "is_empty" (defArgs s_is_empty) (defBody s_is_empty) (defScope s_is_empty) [] [] (He.fAd K ("is_empty", none)) φ.is_empty
  f_cut_low : FunD K "cut_low" "cut_low" (defArgs s_cut_low) (defBody s_cut_low) (defScope s_cut_low) [] [] (He.fAd K ("cut_low", none)) φ.cut_low
  f_cut_high : FunD K "cut_high" "cut_high" (defArgs s_cut_high) (defBody s_cut_high) (defScope s_cut_high) [] [] (He.fAd K ("cut_high", none)) φ.cut_high
  f_Stretch_init : FunD K "__init__" "Stretch.__init__" (defArgs s_Stretch_init) (defBody s_Stretch_init) (defScope s_Stretch_init) [V.bl false, V.bl true] [] (He.fAd K ("Stretch", some "__init__")) φ.Stretch_init
  f_Stretch_cut : FunD K "cut" "Stretch.cut" (defArgs s_Stretch_cut) (defBody s_Stretch_cut) (defScope s_Stretch_cut) [] [] (He.fAd K ("Stretch", some "cut")) φ.Stretch_cut
  f_are_marks : FunD K "are_marks" "are_marks" (defArgs s_are_marks) (defBody s_are_marks) (defScope s_are_marks) [] [] (He.fAd K ("are_marks", none)) φ.are_marks
  f_is_rule : FunD K "is_rule" "is_rule" (defArgs s_is_rule) (defBody s_is_rule) (defScope s_is_rule) [] [] (He.fAd K ("is_rule", none)) φ.is_rule
  f_is_span : FunD K "is_span" "is_span" (defArgs s_is_span) (defBody s_is_span) (defScope s_is_span) [] [] (He.fAd K ("is_span", none)) φ.is_span
  f_midsts_of : FunD K "midsts_of" "midsts_of" (defArgs s_midsts_of) (defBody s_midsts_of) (defScope s_midsts_of) [] [] (He.fAd K ("midsts_of", none)) φ.midsts_of
  f_size_by_rule : FunD K "size_by_rule" "size_by_rule" (defArgs s_size_by_rule) (defBody s_size_by_rule) (defScope s_size_by_rule) [] [] (He.fAd K ("size_by_rule", none)) φ.size_by_rule
  f_end_at : FunD K "end_at" "end_at" (defArgs s_end_at) (defBody s_end_at) (defScope s_end_at) [] [] (He.fAd K ("end_at", none)) φ.end_at
  f_stretch_by_rule : FunD K "stretch_by_rule" "stretch_by_rule" (defArgs s_stretch_by_rule) (defBody s_stretch_by_rule) (defScope s_stretch_by_rule) [] [] (He.fAd K ("stretch_by_rule", none)) φ.stretch_by_rule
  f_has_size : FunD K "has_size" "has_size" (defArgs s_has_size) (defBody s_has_size) (defScope s_has_size) [] [] (He.fAd K ("has_size", none)) φ.has_size
  f_Ladder_init : FunD K "__init__" "Ladder.__init__" (defArgs s_Ladder_init) (defBody s_Ladder_init) (defScope s_Ladder_init) [V.str "up", V.non, V.non] [] (He.fAd K ("Ladder", some "__init__")) φ.Ladder_init
  f_Ladder_len : FunD K "__len__" "Ladder.__len__" (defArgs s_Ladder_len) (defBody s_Ladder_len) (defScope s_Ladder_len) [] [] (He.fAd K ("Ladder", some "__len__")) φ.Ladder_len
  f_Ladder_size : FunD K "size" "Ladder.size" (defArgs s_Ladder_size) (defBody s_Ladder_size) (defScope s_Ladder_size) [] [] (He.fAd K ("Ladder", some "size")) φ.Ladder_size
  f_Ladder_stretch : FunD K "stretch" "Ladder.stretch" (defArgs s_Ladder_stretch) (defBody s_Ladder_stretch) (defScope s_Ladder_stretch) [] [] (He.fAd K ("Ladder", some "stretch")) φ.Ladder_stretch
  f_l_hand_at : FunD K "_law_hand_at" "_law_hand_at" (defArgs s_l_hand_at) (defBody s_l_hand_at) (defScope s_l_hand_at) [] [] (He.fAd K ("_law_hand_at", none)) φ.l_hand_at
  f_l_take : FunD K "_law_take" "_law_take" (defArgs s_l_take) (defBody s_l_take) (defScope s_l_take) [] [] (He.fAd K ("_law_take", none)) φ.l_take
  f_l_pick : FunD K "_law_pick" "_law_pick" (defArgs s_l_pick) (defBody s_l_pick) (defScope s_l_pick) [] [] (He.fAd K ("_law_pick", none)) φ.l_pick
  f_l_grain : FunD K "_law_grain" "_law_grain" (defArgs s_l_grain) (defBody s_l_grain) (defScope s_l_grain) [] [] (He.fAd K ("_law_grain", none)) φ.l_grain
  f_l_drawn_marks : FunD K "_law_drawn_marks" "_law_drawn_marks" (defArgs s_l_drawn_marks) (defBody s_l_drawn_marks) (defScope s_l_drawn_marks) [] [] (He.fAd K ("_law_drawn_marks", none)) φ.l_drawn_marks
  f_l_drawn_ladder : FunD K "_law_drawn_ladder" "_law_drawn_ladder" (defArgs s_l_drawn_ladder) (defBody s_l_drawn_ladder) (defScope s_l_drawn_ladder) [] [] (He.fAd K ("_law_drawn_ladder", none)) φ.l_drawn_ladder
  f_l_measure : FunD K "_law_measure" "_law_measure" (defArgs s_l_measure) (defBody s_l_measure) (defScope s_l_measure) [] [] (He.fAd K ("_law_measure", none)) φ.l_measure
  f_l_made : FunD K "_law_made" "_law_made" (defArgs s_l_made) (defBody s_l_made) (defScope s_l_made) [] [] (He.fAd K ("_law_made", none)) φ.l_made
  f_l_size : FunD K "_law_size" "_law_size" (defArgs s_l_size) (defBody s_l_size) (defScope s_l_size) [] [] (He.fAd K ("_law_size", none)) φ.l_size
  f_l_points : FunD K "_law_points" "_law_points" (defArgs s_l_points) (defBody s_l_points) (defScope s_l_points) [] [] (He.fAd K ("_law_points", none)) φ.l_points
  f_l_two_ladder : FunD K "_law_two_ladder" "_law_two_ladder" (defArgs s_l_two_ladder) (defBody s_l_two_ladder) (defScope s_l_two_ladder) [] [] (He.fAd K ("_law_two_ladder", none)) φ.l_two_ladder
  f_l_alike : FunD K "_law_alike" "_law_alike" (defArgs s_l_alike) (defBody s_l_alike) (defScope s_l_alike) [] [] (He.fAd K ("_law_alike", none)) φ.l_alike
  f_l_parting : FunD K "_law_parting" "_law_parting" (defArgs s_l_parting) (defBody s_l_parting) (defScope s_l_parting) [] [] (He.fAd K ("_law_parting", none)) φ.l_parting
  f_l_span : FunD K "_law_span" "_law_span" (defArgs s_l_span) (defBody s_l_span) (defScope s_l_span) [] [] (He.fAd K ("_law_span", none)) φ.l_span
  f_l_same : FunD K "_law_same" "_law_same" (defArgs s_l_same) (defBody s_l_same) (defScope s_l_same) [] [] (He.fAd K ("_law_same", none)) φ.l_same
  f_l_any : FunD K "_law_any" "_law_any" (defArgs s_l_any) (defBody s_l_any) (defScope s_l_any) [] [] (He.fAd K ("_law_any", none)) φ.l_any
  f_l_part_bent : FunD K "_law_part_bent" "_law_part_bent" (defArgs s_l_part_bent) (defBody s_l_part_bent) (defScope s_l_part_bent) [] [] (He.fAd K ("_law_part_bent", none)) φ.l_part_bent
  f_l_bent : FunD K "_law_bent" "_law_bent" (defArgs s_l_bent) (defBody s_l_bent) (defScope s_l_bent) [] [] (He.fAd K ("_law_bent", none)) φ.l_bent
  f_l_right : FunD K "_law_right" "_law_right" (defArgs s_l_right) (defBody s_l_right) (defScope s_l_right) [] [] (He.fAd K ("_law_right", none)) φ.l_right
  f_law : FunD K "law" "law" (defArgs s_law) (defBody s_law) (defScope s_law) [] [] (He.fAd K ("law", none)) φ.law
/-! ### the head -/
def h_is_whole : He.DefD := ⟨("is_whole", none), "is_whole", "is_whole", defArgs s_is_whole, defBody s_is_whole, defScope s_is_whole, [], []⟩
def h_is_number : He.DefD := ⟨("is_number", none), "is_number", "is_number", defArgs s_is_number, defBody s_is_number, defScope s_is_number, [], []⟩
def h_is_tuple_of : He.DefD := ⟨("is_tuple_of", none), "is_tuple_of", "is_tuple_of", defArgs s_is_tuple_of, defBody s_is_tuple_of, defScope s_is_tuple_of, [], []⟩
def h_is_word : He.DefD := ⟨("is_word", none), "is_word", "is_word", defArgs s_is_word, defBody s_is_word, defScope s_is_word, [], []⟩
def h_common_part : He.DefD := ⟨("common_part", none), "common_part", "common_part", defArgs s_common_part, defBody s_common_part, defScope s_common_part, [], []⟩
def h_written : He.DefD := ⟨("written", none), "written", "written", defArgs s_written, defBody s_written, defScope s_written, [], []⟩
def h_Measure_init : He.DefD := ⟨("Measure", some "__init__"), "__init__", "Measure.__init__", defArgs s_Measure_init, defBody s_Measure_init, defScope s_Measure_init, [.int 1], []⟩
def h_Measure_eq : He.DefD := ⟨("Measure", some "__eq__"), "__eq__", "Measure.__eq__", defArgs s_Measure_eq, defBody s_Measure_eq, defScope s_Measure_eq, [], []⟩
def h_Measure_str : He.DefD := ⟨("Measure", some "__str__"), "__str__", "Measure.__str__", defArgs s_Measure_str, defBody s_Measure_str, defScope s_Measure_str, [], []⟩
def h_Measure_plus : He.DefD := ⟨("Measure", some "plus"), "plus", "Measure.plus", defArgs s_Measure_plus, defBody s_Measure_plus, defScope s_Measure_plus, [], []⟩
def h_Measure_parted : He.DefD := ⟨("Measure", some "parted"), "parted", "Measure.parted", defArgs s_Measure_parted, defBody s_Measure_parted, defScope s_Measure_parted, [.int 2], []⟩
def h_Measure_is_below : He.DefD := ⟨("Measure", some "is_below"), "is_below", "Measure.is_below", defArgs s_Measure_is_below, defBody s_Measure_is_below, defScope s_Measure_is_below, [.bl false], []⟩
def h_is_measure_or_none : He.DefD := ⟨("is_measure_or_none", none), "is_measure_or_none", "is_measure_or_none", defArgs s_is_measure_or_none, defBody s_is_measure_or_none, defScope s_is_measure_or_none, [], []⟩
def h_turns_of : He.DefD := ⟨("turns_of", none), "turns_of", "turns_of", defArgs s_turns_of, defBody s_turns_of, defScope s_turns_of, [], []⟩
def h_turn_behind : He.DefD := ⟨("turn_behind", none), "turn_behind", "turn_behind", defArgs s_turn_behind, defBody s_turn_behind, defScope s_turn_behind, [], []⟩
def h_points_of : He.DefD := ⟨("points_of", none), "points_of", "points_of", defArgs s_points_of, defBody s_points_of, defScope s_points_of, [], []⟩
def h_looks_of : He.DefD := ⟨("looks_of", none), "looks_of", "looks_of", defArgs s_looks_of, defBody s_looks_of, defScope s_looks_of, [], []⟩
def h_are_alike : He.DefD := ⟨("are_alike", none), "are_alike", "are_alike", defArgs s_are_alike, defBody s_are_alike, defScope s_are_alike, [], []⟩
def h_parting : He.DefD := ⟨("parting", none), "parting", "parting", defArgs s_parting, defBody s_parting, defScope s_parting, [.int 0], []⟩
def h_is_size : He.DefD := ⟨("is_size", none), "is_size", "is_size", defArgs s_is_size, defBody s_is_size, defScope s_is_size, [], []⟩
def h_is_part : He.DefD := ⟨("is_part", none), "is_part", "is_part", defArgs s_is_part, defBody s_is_part, defScope s_is_part, [], []⟩
def h_shows_parting : He.DefD := ⟨("shows_parting", none), "shows_parting", "shows_parting", defArgs s_shows_parting, defBody s_shows_parting, defScope s_shows_parting, [], []⟩
def h_slip_of : He.DefD := ⟨("slip_of", none), "slip_of", "slip_of", defArgs s_slip_of, defBody s_slip_of, defScope s_slip_of, [], []⟩
def h_is_empty : He.DefD := ⟨("is_empty", none), "is_empty", "is_empty", defArgs s_is_empty, defBody s_is_empty, defScope s_is_empty, [], []⟩
def h_cut_low : He.DefD := ⟨("cut_low", none), "cut_low", "cut_low", defArgs s_cut_low, defBody s_cut_low, defScope s_cut_low, [], []⟩
def h_cut_high : He.DefD := ⟨("cut_high", none), "cut_high", "cut_high", defArgs s_cut_high, defBody s_cut_high, defScope s_cut_high, [], []⟩
def h_Stretch_init : He.DefD := ⟨("Stretch", some "__init__"), "__init__", "Stretch.__init__", defArgs s_Stretch_init, defBody s_Stretch_init, defScope s_Stretch_init, [.bl false, .bl true], []⟩
def h_Stretch_cut : He.DefD := ⟨("Stretch", some "cut"), "cut", "Stretch.cut", defArgs s_Stretch_cut, defBody s_Stretch_cut, defScope s_Stretch_cut, [], []⟩
def h_are_marks : He.DefD := ⟨("are_marks", none), "are_marks", "are_marks", defArgs s_are_marks, defBody s_are_marks, defScope s_are_marks, [], []⟩
def h_is_rule : He.DefD := ⟨("is_rule", none), "is_rule", "is_rule", defArgs s_is_rule, defBody s_is_rule, defScope s_is_rule, [], []⟩
def h_is_span : He.DefD := ⟨("is_span", none), "is_span", "is_span", defArgs s_is_span, defBody s_is_span, defScope s_is_span, [], []⟩
def h_midsts_of : He.DefD := ⟨("midsts_of", none), "midsts_of", "midsts_of", defArgs s_midsts_of, defBody s_midsts_of, defScope s_midsts_of, [], []⟩
def h_size_by_rule : He.DefD := ⟨("size_by_rule", none), "size_by_rule", "size_by_rule", defArgs s_size_by_rule, defBody s_size_by_rule, defScope s_size_by_rule, [], []⟩
def h_end_at : He.DefD := ⟨("end_at", none), "end_at", "end_at", defArgs s_end_at, defBody s_end_at, defScope s_end_at, [], []⟩
def h_stretch_by_rule : He.DefD := ⟨("stretch_by_rule", none), "stretch_by_rule", "stretch_by_rule", defArgs s_stretch_by_rule, defBody s_stretch_by_rule, defScope s_stretch_by_rule, [], []⟩
def h_has_size : He.DefD := ⟨("has_size", none), "has_size", "has_size", defArgs s_has_size, defBody s_has_size, defScope s_has_size, [], []⟩
def h_Ladder_init : He.DefD := ⟨("Ladder", some "__init__"), "__init__", "Ladder.__init__", defArgs s_Ladder_init, defBody s_Ladder_init, defScope s_Ladder_init, [.str "up", .non, .non], []⟩
def h_Ladder_len : He.DefD := ⟨("Ladder", some "__len__"), "__len__", "Ladder.__len__", defArgs s_Ladder_len, defBody s_Ladder_len, defScope s_Ladder_len, [], []⟩
def h_Ladder_size : He.DefD := ⟨("Ladder", some "size"), "size", "Ladder.size", defArgs s_Ladder_size, defBody s_Ladder_size, defScope s_Ladder_size, [], []⟩
def h_Ladder_stretch : He.DefD := ⟨("Ladder", some "stretch"), "stretch", "Ladder.stretch", defArgs s_Ladder_stretch, defBody s_Ladder_stretch, defScope s_Ladder_stretch, [], []⟩
def h_l_hand_at : He.DefD := ⟨("_law_hand_at", none), "_law_hand_at", "_law_hand_at", defArgs s_l_hand_at, defBody s_l_hand_at, defScope s_l_hand_at, [], []⟩
def h_l_take : He.DefD := ⟨("_law_take", none), "_law_take", "_law_take", defArgs s_l_take, defBody s_l_take, defScope s_l_take, [], []⟩
def h_l_pick : He.DefD := ⟨("_law_pick", none), "_law_pick", "_law_pick", defArgs s_l_pick, defBody s_l_pick, defScope s_l_pick, [], []⟩
def h_l_grain : He.DefD := ⟨("_law_grain", none), "_law_grain", "_law_grain", defArgs s_l_grain, defBody s_l_grain, defScope s_l_grain, [], []⟩
def h_l_drawn_marks : He.DefD := ⟨("_law_drawn_marks", none), "_law_drawn_marks", "_law_drawn_marks", defArgs s_l_drawn_marks, defBody s_l_drawn_marks, defScope s_l_drawn_marks, [], []⟩
def h_l_drawn_ladder : He.DefD := ⟨("_law_drawn_ladder", none), "_law_drawn_ladder", "_law_drawn_ladder", defArgs s_l_drawn_ladder, defBody s_l_drawn_ladder, defScope s_l_drawn_ladder, [], []⟩
def h_l_measure : He.DefD := ⟨("_law_measure", none), "_law_measure", "_law_measure", defArgs s_l_measure, defBody s_l_measure, defScope s_l_measure, [], []⟩
def h_l_made : He.DefD := ⟨("_law_made", none), "_law_made", "_law_made", defArgs s_l_made, defBody s_l_made, defScope s_l_made, [], []⟩
def h_l_size : He.DefD := ⟨("_law_size", none), "_law_size", "_law_size", defArgs s_l_size, defBody s_l_size, defScope s_l_size, [], []⟩
def h_l_points : He.DefD := ⟨("_law_points", none), "_law_points", "_law_points", defArgs s_l_points, defBody s_l_points, defScope s_l_points, [], []⟩
def h_l_two_ladder : He.DefD := ⟨("_law_two_ladder", none), "_law_two_ladder", "_law_two_ladder", defArgs s_l_two_ladder, defBody s_l_two_ladder, defScope s_l_two_ladder, [], []⟩
def h_l_alike : He.DefD := ⟨("_law_alike", none), "_law_alike", "_law_alike", defArgs s_l_alike, defBody s_l_alike, defScope s_l_alike, [], []⟩
def h_l_parting : He.DefD := ⟨("_law_parting", none), "_law_parting", "_law_parting", defArgs s_l_parting, defBody s_l_parting, defScope s_l_parting, [], []⟩
def h_l_span : He.DefD := ⟨("_law_span", none), "_law_span", "_law_span", defArgs s_l_span, defBody s_l_span, defScope s_l_span, [], []⟩
def h_l_same : He.DefD := ⟨("_law_same", none), "_law_same", "_law_same", defArgs s_l_same, defBody s_l_same, defScope s_l_same, [], []⟩
def h_l_any : He.DefD := ⟨("_law_any", none), "_law_any", "_law_any", defArgs s_l_any, defBody s_l_any, defScope s_l_any, [], []⟩
def h_l_part_bent : He.DefD := ⟨("_law_part_bent", none), "_law_part_bent", "_law_part_bent", defArgs s_l_part_bent, defBody s_l_part_bent, defScope s_l_part_bent, [], []⟩
def h_l_bent : He.DefD := ⟨("_law_bent", none), "_law_bent", "_law_bent", defArgs s_l_bent, defBody s_l_bent, defScope s_l_bent, [], []⟩
def h_l_right : He.DefD := ⟨("_law_right", none), "_law_right", "_law_right", defArgs s_l_right, defBody s_l_right, defScope s_l_right, [], []⟩
def h_law : He.DefD := ⟨("law", none), "law", "law", defArgs s_law, defBody s_law, defScope s_law, [], []⟩
def fn : List He.DefD := [h_is_whole, h_is_number, h_is_tuple_of, h_is_word, h_common_part, h_written, h_Measure_init, h_Measure_eq, h_Measure_str, h_Measure_plus, h_Measure_parted, h_Measure_is_below, h_is_measure_or_none, h_turns_of, h_turn_behind, h_points_of, h_looks_of, h_are_alike, h_parting, h_is_size, h_is_part, h_shows_parting, h_slip_of, h_is_empty, h_cut_low, h_cut_high, h_Stretch_init, h_Stretch_cut, h_are_marks, h_is_rule, h_is_span, h_midsts_of, h_size_by_rule, h_end_at, h_stretch_by_rule, h_has_size, h_Ladder_init, h_Ladder_len, h_Ladder_size, h_Ladder_stretch, h_l_hand_at, h_l_take, h_l_pick, h_l_grain, h_l_drawn_marks, h_l_drawn_ladder, h_l_measure, h_l_made, h_l_size, h_l_points, h_l_two_ladder, h_l_alike, h_l_parting, h_l_span, h_l_same, h_l_any, h_l_part_bent, h_l_bent, h_l_right, h_law]
def fa : List He.Fa := [.glo "is_whole", .glo "is_number", .glo "is_tuple_of", .glo "is_word", .glo "common_part", .glo "written", .glo "is_measure_or_none", .glo "turns_of", .glo "turn_behind", .glo "points_of", .glo "looks_of", .glo "are_alike", .glo "parting", .glo "is_size", .glo "is_part", .glo "shows_parting", .glo "slip_of", .glo "is_empty", .glo "cut_low", .glo "cut_high", .glo "are_marks", .glo "is_rule", .glo "is_span", .glo "midsts_of", .glo "size_by_rule", .glo "end_at", .glo "stretch_by_rule", .glo "has_size", .glo "_law_hand_at", .glo "_law_take", .glo "_law_pick", .glo "_law_grain", .glo "_law_drawn_marks", .glo "_law_drawn_ladder", .glo "_law_measure", .glo "_law_made", .glo "_law_size", .glo "_law_points", .glo "_law_two_ladder", .glo "_law_alike", .glo "_law_parting", .glo "_law_span", .glo "_law_same", .glo "_law_any", .glo "_law_part_bent", .glo "_law_bent", .glo "_law_right", .glo "law", .glo "Measure", .glo "Stretch", .glo "Ladder", .glo "RULES", .int "MOST_MARKS" 24, .free "abs", .free "all", .free "bool", .free "divmod", .free "enumerate", .free "int", .free "isinstance", .free "len", .free "list", .free "max", .free "min", .free "range", .free "set", .free "sorted", .free "str", .free "tuple", .free "zip", .cls "Measure", .noat "Measure" "top", .noat "Measure" "bottom", .meth "Measure" "__eq__", .meth "Measure" "__str__", .meth "Measure" "plus", .meth "Measure" "parted", .meth "Measure" "is_below", .mkr "Measure", .cls "Stretch", .noat "Stretch" "low", .noat "Stretch" "high", .noat "Stretch" "low_in", .noat "Stretch" "high_in", .meth "Stretch" "cut", .mkr "Stretch", .cls "Ladder", .noat "Ladder" "marks", .noat "Ladder" "rule", .noat "Ladder" "least", .noat "Ladder" "most", .meth "Ladder" "__len__", .meth "Ladder" "size", .meth "Ladder" "stretch", .mkr "Ladder"]
abbrev R : PySem.W.OpenRow := PySem.W.OpenLaw.row PySem.Challenge.rw_sizeladders_k40_partings_shown_or_not
def ex : List (PySem.W.Frag → Bool) := [isCB "Measure", isCB "Stretch", isCB "Ladder", eqCB "Measure", tupB "RULES" ["up", "down", "near"], kitF (.inl "Measure") (.inl "Measure") true, kitF (.inl "Stretch") (.inl "Stretch") true, kitF (.inl "Measure") (.inl "Stretch") false, kitF (.inl "Stretch") (.inl "Measure") false, kitF (.inl "Ladder") (.inl "Ladder") true, kitF (.inr "NoneType") (.inl "Measure") false, kitF (.inr "bool") (.inl "Measure") false, kitF (.inr "int") (.inl "Measure") false, kitF (.inr "str") (.inl "Measure") false, kitF (.inr "list") (.inl "Measure") false, kitF (.inr "tuple") (.inl "Measure") false, kitF (.inr "dict") (.inl "Measure") false, kitF (.inl "Measure") (.inr "tuple") false, kitF (.inl "Measure") (.inr "str") false, kitF (.inl "Measure") (.inr "int") false, kitF (.inl "Measure") (.inr "bool") false, kitF (.inl "Stretch") (.inr "tuple") false, kitF (.inl "Stretch") (.inr "str") false, kitF (.inl "Stretch") (.inr "int") false, kitF (.inl "Stretch") (.inr "bool") false, kitF (.inl "Ladder") (.inr "tuple") false, kitF (.inl "Ladder") (.inr "str") false, kitF (.inl "Ladder") (.inr "int") false, kitF (.inl "Ladder") (.inr "bool") false, kitF (.inl "Ladder") (.inl "Measure") false]
abbrev hk : PySem.W.Hook := hookM 5 fa fn ex
def ob (s : PySem.W.SharedT) : He.AlD × Bool := obsM 5 fa fn ex (HandSHeadRun.getT s)
theorem ob_eq (s : PySem.W.SharedT) : ob s = hk.obs s.abs := obsM_eq (HandSHeadRun.getT_eq s)
theorem run (w : World) : HandSHeadRun.RunEq R (PySem.W.view R.prog [72]) hk ob 20000 [("_wall" : PySem.Str), ("is_whole" : PySem.Str), ("is_number" : PySem.Str), ("is_tuple_of" : PySem.Str), ("is_word" : PySem.Str), ("LadderError" : PySem.Str), ("NoMeasure" : PySem.Str), ("NoStretch" : PySem.Str), ("NoLadder" : PySem.Str), ("Slip" : PySem.Str), ("LandError" : PySem.Str), ("NoSize" : PySem.Str), ("NoBottom" : PySem.Str), ("common_part" : PySem.Str), ("written" : PySem.Str), ("Measure" : PySem.Str), ("is_measure_or_none" : PySem.Str), ("turns_of" : PySem.Str), ("turn_behind" : PySem.Str), ("points_of" : PySem.Str), ("looks_of" : PySem.Str), ("are_alike" : PySem.Str), ("parting" : PySem.Str), ("is_size" : PySem.Str), ("is_part" : PySem.Str), ("shows_parting" : PySem.Str), ("slip_of" : PySem.Str), ("is_empty" : PySem.Str), ("end_text" : PySem.Str), ("cut_low" : PySem.Str), ("cut_high" : PySem.Str), ("Stretch" : PySem.Str), ("MOST_MARKS" : PySem.Str), ("RULES" : PySem.Str), ("are_marks" : PySem.Str), ("is_rule" : PySem.Str), ("is_span" : PySem.Str), ("midsts_of" : PySem.Str), ("size_by_rule" : PySem.Str), ("end_at" : PySem.Str), ("stretch_by_rule" : PySem.Str), ("has_size" : PySem.Str), ("bound_text" : PySem.Str), ("Ladder" : PySem.Str), ("_law_hand_at" : PySem.Str), ("_law_take" : PySem.Str), ("_law_pick" : PySem.Str), ("_law_grain" : PySem.Str), ("_law_drawn_marks" : PySem.Str), ("_law_drawn_ladder" : PySem.Str), ("_law_measure" : PySem.Str), ("_law_made" : PySem.Str), ("_law_size" : PySem.Str), ("_law_points" : PySem.Str), ("_law_two_ladder" : PySem.Str), ("_law_alike" : PySem.Str), ("_law_parting" : PySem.Str), ("_law_span" : PySem.Str), ("_law_same" : PySem.Str), ("_law_any" : PySem.Str), ("_law_part_bent" : PySem.Str), ("_law_bent" : PySem.Str), ("_law_right" : PySem.Str)] w := by
  intro os
  kernel_rfl

theorem facts {K : PySem.W.Frag} {h : Heap} {mg : Str → Option Value} (X : K.In h) (G : h.Ns mainGlobals mg) (c : He.SaysD fa fn K) (cx : (ex.all fun f => f K) = true) : ∃ φ : Fds, Txt K mg φ := by
  obtain ⟨d0, F0⟩ := c.def_ 0 (d := h_is_whole) rfl
  obtain ⟨d1, F1⟩ := c.def_ 1 (d := h_is_number) rfl
  obtain ⟨d2, F2⟩ := c.def_ 2 (d := h_is_tuple_of) rfl
  obtain ⟨d3, F3⟩ := c.def_ 3 (d := h_is_word) rfl
  obtain ⟨d4, F4⟩ := c.def_ 4 (d := h_common_part) rfl
  obtain ⟨d5, F5⟩ := c.def_ 5 (d := h_written) rfl
  obtain ⟨d6, F6⟩ := c.def_ 6 (d := h_Measure_init) rfl
  obtain ⟨d7, F7⟩ := c.def_ 7 (d := h_Measure_eq) rfl
  obtain ⟨d8, F8⟩ := c.def_ 8 (d := h_Measure_str) rfl
  obtain ⟨d9, F9⟩ := c.def_ 9 (d := h_Measure_plus) rfl
  obtain ⟨d10, F10⟩ := c.def_ 10 (d := h_Measure_parted) rfl
  obtain ⟨d11, F11⟩ := c.def_ 11 (d := h_Measure_is_below) rfl
  obtain ⟨d12, F12⟩ := c.def_ 12 (d := h_is_measure_or_none) rfl
  obtain ⟨d13, F13⟩ := c.def_ 13 (d := h_turns_of) rfl
  obtain ⟨d14, F14⟩ := c.def_ 14 (d := h_turn_behind) rfl
  obtain ⟨d15, F15⟩ := c.def_ 15 (d := h_points_of) rfl
  obtain ⟨d16, F16⟩ := c.def_ 16 (d := h_looks_of) rfl
  obtain ⟨d17, F17⟩ := c.def_ 17 (d := h_are_alike) rfl
  obtain ⟨d18, F18⟩ := c.def_ 18 (d := h_parting) rfl
  obtain ⟨d19, F19⟩ := c.def_ 19 (d := h_is_size) rfl
  obtain ⟨d20, F20⟩ := c.def_ 20 (d := h_is_part) rfl
  obtain ⟨d21, F21⟩ := c.def_ 21 (d := h_shows_parting) rfl
  obtain ⟨d22, F22⟩ := c.def_ 22 (d := h_slip_of) rfl
  obtain ⟨d23, F23⟩ := c.def_ 23 (d := h_is_empty) rfl
  obtain ⟨d24, F24⟩ := c.def_ 24 (d := h_cut_low) rfl
  obtain ⟨d25, F25⟩ := c.def_ 25 (d := h_cut_high) rfl
  obtain ⟨d26, F26⟩ := c.def_ 26 (d := h_Stretch_init) rfl
  obtain ⟨d27, F27⟩ := c.def_ 27 (d := h_Stretch_cut) rfl
  obtain ⟨d28, F28⟩ := c.def_ 28 (d := h_are_marks) rfl
  obtain ⟨d29, F29⟩ := c.def_ 29 (d := h_is_rule) rfl
  obtain ⟨d30, F30⟩ := c.def_ 30 (d := h_is_span) rfl
  obtain ⟨d31, F31⟩ := c.def_ 31 (d := h_midsts_of) rfl
  obtain ⟨d32, F32⟩ := c.def_ 32 (d := h_size_by_rule) rfl
  obtain ⟨d33, F33⟩ := c.def_ 33 (d := h_end_at) rfl
  obtain ⟨d34, F34⟩ := c.def_ 34 (d := h_stretch_by_rule) rfl
  obtain ⟨d35, F35⟩ := c.def_ 35 (d := h_has_size) rfl
  obtain ⟨d36, F36⟩ := c.def_ 36 (d := h_Ladder_init) rfl
  obtain ⟨d37, F37⟩ := c.def_ 37 (d := h_Ladder_len) rfl
  obtain ⟨d38, F38⟩ := c.def_ 38 (d := h_Ladder_size) rfl
  obtain ⟨d39, F39⟩ := c.def_ 39 (d := h_Ladder_stretch) rfl
  obtain ⟨d40, F40⟩ := c.def_ 40 (d := h_l_hand_at) rfl
  obtain ⟨d41, F41⟩ := c.def_ 41 (d := h_l_take) rfl
  obtain ⟨d42, F42⟩ := c.def_ 42 (d := h_l_pick) rfl
  obtain ⟨d43, F43⟩ := c.def_ 43 (d := h_l_grain) rfl
  obtain ⟨d44, F44⟩ := c.def_ 44 (d := h_l_drawn_marks) rfl
  obtain ⟨d45, F45⟩ := c.def_ 45 (d := h_l_drawn_ladder) rfl
  obtain ⟨d46, F46⟩ := c.def_ 46 (d := h_l_measure) rfl
  obtain ⟨d47, F47⟩ := c.def_ 47 (d := h_l_made) rfl
  obtain ⟨d48, F48⟩ := c.def_ 48 (d := h_l_size) rfl
  obtain ⟨d49, F49⟩ := c.def_ 49 (d := h_l_points) rfl
  obtain ⟨d50, F50⟩ := c.def_ 50 (d := h_l_two_ladder) rfl
  obtain ⟨d51, F51⟩ := c.def_ 51 (d := h_l_alike) rfl
  obtain ⟨d52, F52⟩ := c.def_ 52 (d := h_l_parting) rfl
  obtain ⟨d53, F53⟩ := c.def_ 53 (d := h_l_span) rfl
  obtain ⟨d54, F54⟩ := c.def_ 54 (d := h_l_same) rfl
  obtain ⟨d55, F55⟩ := c.def_ 55 (d := h_l_any) rfl
  obtain ⟨d56, F56⟩ := c.def_ 56 (d := h_l_part_bent) rfl
  obtain ⟨d57, F57⟩ := c.def_ 57 (d := h_l_bent) rfl
  obtain ⟨d58, F58⟩ := c.def_ 58 (d := h_l_right) rfl
  obtain ⟨d59, F59⟩ := c.def_ 59 (d := h_law) rfl
  refine ⟨⟨d0, d1, d2, d3, d4, d5, d6, d7, d8, d9, d10, d11, d12, d13, d14, d15, d16, d17, d18, d19, d20, d21, d22, d23, d24, d25, d26, d27, d28, d29, d30, d31, d32, d33, d34, d35, d36, d37, d38, d39, d40, d41, d42, d43, d44, d45, d46, d47, d48, d49, d50, d51, d52, d53, d54, d55, d56, d57, d58, d59⟩, ?_⟩
  exact {
    g_is_whole := He.glo_ok X G (c.fact 0 (f := .glo "is_whole") rfl),
    g_is_number := He.glo_ok X G (c.fact 1 (f := .glo "is_number") rfl),
    g_is_tuple_of := He.glo_ok X G (c.fact 2 (f := .glo "is_tuple_of") rfl),
    g_is_word := He.glo_ok X G (c.fact 3 (f := .glo "is_word") rfl),
    g_common_part := He.glo_ok X G (c.fact 4 (f := .glo "common_part") rfl),
    g_written := He.glo_ok X G (c.fact 5 (f := .glo "written") rfl),
    g_is_measure_or_none := He.glo_ok X G (c.fact 6 (f := .glo "is_measure_or_none") rfl),
    g_turns_of := He.glo_ok X G (c.fact 7 (f := .glo "turns_of") rfl),
    g_turn_behind := He.glo_ok X G (c.fact 8 (f := .glo "turn_behind") rfl),
    g_points_of := He.glo_ok X G (c.fact 9 (f := .glo "points_of") rfl),
    g_looks_of := He.glo_ok X G (c.fact 10 (f := .glo "looks_of") rfl),
    g_are_alike := He.glo_ok X G (c.fact 11 (f := .glo "are_alike") rfl),
    g_parting := He.glo_ok X G (c.fact 12 (f := .glo "parting") rfl),
    g_is_size := He.glo_ok X G (c.fact 13 (f := .glo "is_size") rfl),
    g_is_part := He.glo_ok X G (c.fact 14 (f := .glo "is_part") rfl),
    g_shows_parting := He.glo_ok X G (c.fact 15 (f := .glo "shows_parting") rfl),
    g_slip_of := He.glo_ok X G (c.fact 16 (f := .glo "slip_of") rfl),
    g_is_empty := He.glo_ok X G (c.fact 17 (f := .glo "is_empty") rfl),
    g_cut_low := He.glo_ok X G (c.fact 18 (f := .glo "cut_low") rfl),
    g_cut_high := He.glo_ok X G (c.fact 19 (f := .glo "cut_high") rfl),
    g_are_marks := He.glo_ok X G (c.fact 20 (f := .glo "are_marks") rfl),
    g_is_rule := He.glo_ok X G (c.fact 21 (f := .glo "is_rule") rfl),
    g_is_span := He.glo_ok X G (c.fact 22 (f := .glo "is_span") rfl),
    g_midsts_of := He.glo_ok X G (c.fact 23 (f := .glo "midsts_of") rfl),
    g_size_by_rule := He.glo_ok X G (c.fact 24 (f := .glo "size_by_rule") rfl),
    g_end_at := He.glo_ok X G (c.fact 25 (f := .glo "end_at") rfl),
    g_stretch_by_rule := He.glo_ok X G (c.fact 26 (f := .glo "stretch_by_rule") rfl),
    g_has_size := He.glo_ok X G (c.fact 27 (f := .glo "has_size") rfl),
    g_l_hand_at := He.glo_ok X G (c.fact 28 (f := .glo "_law_hand_at") rfl),
    g_l_take := He.glo_ok X G (c.fact 29 (f := .glo "_law_take") rfl),
    g_l_pick := He.glo_ok X G (c.fact 30 (f := .glo "_law_pick") rfl),
    g_l_grain := He.glo_ok X G (c.fact 31 (f := .glo "_law_grain") rfl),
    g_l_drawn_marks := He.glo_ok X G (c.fact 32 (f := .glo "_law_drawn_marks") rfl),
    g_l_drawn_ladder := He.glo_ok X G (c.fact 33 (f := .glo "_law_drawn_ladder") rfl),
    g_l_measure := He.glo_ok X G (c.fact 34 (f := .glo "_law_measure") rfl),
    g_l_made := He.glo_ok X G (c.fact 35 (f := .glo "_law_made") rfl),
    g_l_size := He.glo_ok X G (c.fact 36 (f := .glo "_law_size") rfl),
    g_l_points := He.glo_ok X G (c.fact 37 (f := .glo "_law_points") rfl),
    g_l_two_ladder := He.glo_ok X G (c.fact 38 (f := .glo "_law_two_ladder") rfl),
    g_l_alike := He.glo_ok X G (c.fact 39 (f := .glo "_law_alike") rfl),
    g_l_parting := He.glo_ok X G (c.fact 40 (f := .glo "_law_parting") rfl),
    g_l_span := He.glo_ok X G (c.fact 41 (f := .glo "_law_span") rfl),
    g_l_same := He.glo_ok X G (c.fact 42 (f := .glo "_law_same") rfl),
    g_l_any := He.glo_ok X G (c.fact 43 (f := .glo "_law_any") rfl),
    g_l_part_bent := He.glo_ok X G (c.fact 44 (f := .glo "_law_part_bent") rfl),
    g_l_bent := He.glo_ok X G (c.fact 45 (f := .glo "_law_bent") rfl),
    g_l_right := He.glo_ok X G (c.fact 46 (f := .glo "_law_right") rfl),
    g_law := He.glo_ok X G (c.fact 47 (f := .glo "law") rfl),
    g_Measure := He.glo_ok X G (c.fact 48 (f := .glo "Measure") rfl),
    g_Stretch := He.glo_ok X G (c.fact 49 (f := .glo "Stretch") rfl),
    g_Ladder := He.glo_ok X G (c.fact 50 (f := .glo "Ladder") rfl),
    g_RULES := He.glo_ok X G (c.fact 51 (f := .glo "RULES") rfl),
    v_MOST_MARKS := He.int_ok X G (c.fact 52 (f := .int "MOST_MARKS" 24) rfl),
    z_abs := He.free_ok X G (c.fact 53 (f := .free "abs") rfl),
    z_all := He.free_ok X G (c.fact 54 (f := .free "all") rfl),
    z_bool := He.free_ok X G (c.fact 55 (f := .free "bool") rfl),
    z_divmod := He.free_ok X G (c.fact 56 (f := .free "divmod") rfl),
    z_enumerate := He.free_ok X G (c.fact 57 (f := .free "enumerate") rfl),
    z_int := He.free_ok X G (c.fact 58 (f := .free "int") rfl),
    z_isinstance := He.free_ok X G (c.fact 59 (f := .free "isinstance") rfl),
    z_len := He.free_ok X G (c.fact 60 (f := .free "len") rfl),
    z_list := He.free_ok X G (c.fact 61 (f := .free "list") rfl),
    z_max := He.free_ok X G (c.fact 62 (f := .free "max") rfl),
    z_min := He.free_ok X G (c.fact 63 (f := .free "min") rfl),
    z_range := He.free_ok X G (c.fact 64 (f := .free "range") rfl),
    z_set := He.free_ok X G (c.fact 65 (f := .free "set") rfl),
    z_sorted := He.free_ok X G (c.fact 66 (f := .free "sorted") rfl),
    z_str := He.free_ok X G (c.fact 67 (f := .free "str") rfl),
    z_tuple := He.free_ok X G (c.fact 68 (f := .free "tuple") rfl),
    z_zip := He.free_ok X G (c.fact 69 (f := .free "zip") rfl),
    cl_Measure := He.cls_ok (c.fact 70 (f := .cls "Measure") rfl),
    na_Measure_top := He.noat_ok (c.fact 71 (f := .noat "Measure" "top") rfl),
    na_Measure_bottom := He.noat_ok (c.fact 72 (f := .noat "Measure" "bottom") rfl),
    me_Measure_eq := He.meth_ok (c.fact 73 (f := .meth "Measure" "__eq__") rfl),
    me_Measure_str := He.meth_ok (c.fact 74 (f := .meth "Measure" "__str__") rfl),
    me_Measure_plus := He.meth_ok (c.fact 75 (f := .meth "Measure" "plus") rfl),
    me_Measure_parted := He.meth_ok (c.fact 76 (f := .meth "Measure" "parted") rfl),
    me_Measure_is_below := He.meth_ok (c.fact 77 (f := .meth "Measure" "is_below") rfl),
    mk_Measure := He.mkr_ok (c.fact 78 (f := .mkr "Measure") rfl),
    cl_Stretch := He.cls_ok (c.fact 79 (f := .cls "Stretch") rfl),
    na_Stretch_low := He.noat_ok (c.fact 80 (f := .noat "Stretch" "low") rfl),
    na_Stretch_high := He.noat_ok (c.fact 81 (f := .noat "Stretch" "high") rfl),
    na_Stretch_low_in := He.noat_ok (c.fact 82 (f := .noat "Stretch" "low_in") rfl),
    na_Stretch_high_in := He.noat_ok (c.fact 83 (f := .noat "Stretch" "high_in") rfl),
    me_Stretch_cut := He.meth_ok (c.fact 84 (f := .meth "Stretch" "cut") rfl),
    mk_Stretch := He.mkr_ok (c.fact 85 (f := .mkr "Stretch") rfl),
    cl_Ladder := He.cls_ok (c.fact 86 (f := .cls "Ladder") rfl),
    na_Ladder_marks := He.noat_ok (c.fact 87 (f := .noat "Ladder" "marks") rfl),
    na_Ladder_rule := He.noat_ok (c.fact 88 (f := .noat "Ladder" "rule") rfl),
    na_Ladder_least := He.noat_ok (c.fact 89 (f := .noat "Ladder" "least") rfl),
    na_Ladder_most := He.noat_ok (c.fact 90 (f := .noat "Ladder" "most") rfl),
    me_Ladder_len := He.meth_ok (c.fact 91 (f := .meth "Ladder" "__len__") rfl),
    me_Ladder_size := He.meth_ok (c.fact 92 (f := .meth "Ladder" "size") rfl),
    me_Ladder_stretch := He.meth_ok (c.fact 93 (f := .meth "Ladder" "stretch") rfl),
    mk_Ladder := He.mkr_ok (c.fact 94 (f := .mkr "Ladder") rfl),
    ii_Measure := isC_ok (ex_at cx 0 (f := isCB "Measure") rfl),
    ii_Stretch := isC_ok (ex_at cx 1 (f := isCB "Stretch") rfl),
    ii_Ladder := isC_ok (ex_at cx 2 (f := isCB "Ladder") rfl),
    ec_Measure := eqC_ok (ex_at cx 3 (f := eqCB "Measure") rfl),
    tp_RULES := tup_ok (ex_at cx 4 (f := tupB "RULES" ["up", "down", "near"]) rfl),
    k_Measure_Measure := kitF_ok (ex_at cx 5 (f := kitF (.inl "Measure") (.inl "Measure") true) rfl),
    k_Stretch_Stretch := kitF_ok (ex_at cx 6 (f := kitF (.inl "Stretch") (.inl "Stretch") true) rfl),
    k_Measure_Stretch := kitF_ok (ex_at cx 7 (f := kitF (.inl "Measure") (.inl "Stretch") false) rfl),
    k_Stretch_Measure := kitF_ok (ex_at cx 8 (f := kitF (.inl "Stretch") (.inl "Measure") false) rfl),
    k_Ladder_Ladder := kitF_ok (ex_at cx 9 (f := kitF (.inl "Ladder") (.inl "Ladder") true) rfl),
    k_NoneType_Measure := kitF_ok (ex_at cx 10 (f := kitF (.inr "NoneType") (.inl "Measure") false) rfl),
    k_bool_Measure := kitF_ok (ex_at cx 11 (f := kitF (.inr "bool") (.inl "Measure") false) rfl),
    k_int_Measure := kitF_ok (ex_at cx 12 (f := kitF (.inr "int") (.inl "Measure") false) rfl),
    k_str_Measure := kitF_ok (ex_at cx 13 (f := kitF (.inr "str") (.inl "Measure") false) rfl),
    k_list_Measure := kitF_ok (ex_at cx 14 (f := kitF (.inr "list") (.inl "Measure") false) rfl),
    k_tuple_Measure := kitF_ok (ex_at cx 15 (f := kitF (.inr "tuple") (.inl "Measure") false) rfl),
    k_dict_Measure := kitF_ok (ex_at cx 16 (f := kitF (.inr "dict") (.inl "Measure") false) rfl),
    k_Measure_tuple := kitF_ok (ex_at cx 17 (f := kitF (.inl "Measure") (.inr "tuple") false) rfl),
    k_Measure_str := kitF_ok (ex_at cx 18 (f := kitF (.inl "Measure") (.inr "str") false) rfl),
    k_Measure_int := kitF_ok (ex_at cx 19 (f := kitF (.inl "Measure") (.inr "int") false) rfl),
    k_Measure_bool := kitF_ok (ex_at cx 20 (f := kitF (.inl "Measure") (.inr "bool") false) rfl),
    k_Stretch_tuple := kitF_ok (ex_at cx 21 (f := kitF (.inl "Stretch") (.inr "tuple") false) rfl),
    k_Stretch_str := kitF_ok (ex_at cx 22 (f := kitF (.inl "Stretch") (.inr "str") false) rfl),
    k_Stretch_int := kitF_ok (ex_at cx 23 (f := kitF (.inl "Stretch") (.inr "int") false) rfl),
    k_Stretch_bool := kitF_ok (ex_at cx 24 (f := kitF (.inl "Stretch") (.inr "bool") false) rfl),
    k_Ladder_tuple := kitF_ok (ex_at cx 25 (f := kitF (.inl "Ladder") (.inr "tuple") false) rfl),
    k_Ladder_str := kitF_ok (ex_at cx 26 (f := kitF (.inl "Ladder") (.inr "str") false) rfl),
    k_Ladder_int := kitF_ok (ex_at cx 27 (f := kitF (.inl "Ladder") (.inr "int") false) rfl),
    k_Ladder_bool := kitF_ok (ex_at cx 28 (f := kitF (.inl "Ladder") (.inr "bool") false) rfl),
    k_Ladder_Measure := kitF_ok (ex_at cx 29 (f := kitF (.inl "Ladder") (.inl "Measure") false) rfl),
    f_is_whole := F0,
    f_is_number := F1,
    f_is_tuple_of := F2,
    f_is_word := F3,
    f_common_part := F4,
    f_written := F5,
    f_Measure_init := F6,
    f_Measure_eq := F7,
    f_Measure_str := F8,
    f_Measure_plus := F9,
    f_Measure_parted := F10,
    f_Measure_is_below := F11,
    f_is_measure_or_none := F12,
    f_turns_of := F13,
    f_turn_behind := F14,
    f_points_of := F15,
    f_looks_of := F16,
    f_are_alike := F17,
    f_parting := F18,
    f_is_size := F19,
    f_is_part := F20,
    f_shows_parting := F21,
    f_slip_of := F22,
    f_is_empty := F23,
    f_cut_low := F24,
    f_cut_high := F25,
    f_Stretch_init := F26,
    f_Stretch_cut := F27,
    f_are_marks := F28,
    f_is_rule := F29,
    f_is_span := F30,
    f_midsts_of := F31,
    f_size_by_rule := F32,
    f_end_at := F33,
    f_stretch_by_rule := F34,
    f_has_size := F35,
    f_Ladder_init := F36,
    f_Ladder_len := F37,
    f_Ladder_size := F38,
    f_Ladder_stretch := F39,
    f_l_hand_at := F40,
    f_l_take := F41,
    f_l_pick := F42,
    f_l_grain := F43,
    f_l_drawn_marks := F44,
    f_l_drawn_ladder := F45,
    f_l_measure := F46,
    f_l_made := F47,
    f_l_size := F48,
    f_l_points := F49,
    f_l_two_ladder := F50,
    f_l_alike := F51,
    f_l_parting := F52,
    f_l_span := F53,
    f_l_same := F54,
    f_l_any := F55,
    f_l_part_bent := F56,
    f_l_bent := F57,
    f_l_right := F58,
    f_law := F59 }
def sp_law (K : PySem.W.Frag) : Sp := fun vs H Q _ => ∃ (a : Addr) (ns : List Int), vs = [.ref a] ∧ SqL K H a (ns.map V.int) ∧ ns.length ≤ 63 ∧ ∀ H', Q (.bl true) H'

end K40
open PySem PySem.W PySem.Calls PyProof.Rows in
set_option maxRecDepth 100000 in
set_option maxHeartbeats 0 in
theorem K40.pre (hl : ∀ {P : Program} {w : World} {K : PySem.W.Frag} {mg : Str → Option Value} {base : Heap} {φ : K40.Fds} (T : K40.Txt K mg φ), L2.FnOk P w K mg base L2.CX0 12 (He.fAd K ("law", none)) φ.law K40.p_law (K40.sp_law K)) : PySem.Challenge.rw_sizeladders_k40_partings_shown_or_not.Holds := by
  w_on; o_law
  refine HandSHeadRun.head_any (r := OpenLaw.row PySem.Challenge.rw_sizeladders_k40_partings_shown_or_not) (q := view (OpenLaw.row PySem.Challenge.rw_sizeladders_k40_partings_shown_or_not).prog [72]) (H := K40.hk) (ob := K40.ob) (M := 20000) (loose := [("_wall" : PySem.Str), ("is_whole" : PySem.Str), ("is_number" : PySem.Str), ("is_tuple_of" : PySem.Str), ("is_word" : PySem.Str), ("LadderError" : PySem.Str), ("NoMeasure" : PySem.Str), ("NoStretch" : PySem.Str), ("NoLadder" : PySem.Str), ("Slip" : PySem.Str), ("LandError" : PySem.Str), ("NoSize" : PySem.Str), ("NoBottom" : PySem.Str), ("common_part" : PySem.Str), ("written" : PySem.Str), ("Measure" : PySem.Str), ("is_measure_or_none" : PySem.Str), ("turns_of" : PySem.Str), ("turn_behind" : PySem.Str), ("points_of" : PySem.Str), ("looks_of" : PySem.Str), ("are_alike" : PySem.Str), ("parting" : PySem.Str), ("is_size" : PySem.Str), ("is_part" : PySem.Str), ("shows_parting" : PySem.Str), ("slip_of" : PySem.Str), ("is_empty" : PySem.Str), ("end_text" : PySem.Str), ("cut_low" : PySem.Str), ("cut_high" : PySem.Str), ("Stretch" : PySem.Str), ("MOST_MARKS" : PySem.Str), ("RULES" : PySem.Str), ("are_marks" : PySem.Str), ("is_rule" : PySem.Str), ("is_span" : PySem.Str), ("midsts_of" : PySem.Str), ("size_by_rule" : PySem.Str), ("end_at" : PySem.Str), ("stretch_by_rule" : PySem.Str), ("has_size" : PySem.Str), ("bound_text" : PySem.Str), ("Ladder" : PySem.Str), ("_law_hand_at" : PySem.Str), ("_law_take" : PySem.Str), ("_law_pick" : PySem.Str), ("_law_grain" : PySem.Str), ("_law_drawn_marks" : PySem.Str), ("_law_drawn_ladder" : PySem.Str), ("_law_measure" : PySem.Str), ("_law_made" : PySem.Str), ("_law_size" : PySem.Str), ("_law_points" : PySem.Str), ("_law_two_ladder" : PySem.Str), ("_law_alike" : PySem.Str), ("_law_parting" : PySem.Str), ("_law_span" : PySem.Str), ("_law_same" : PySem.Str), ("_law_any" : PySem.Str), ("_law_part_bent" : PySem.Str), ("_law_bent" : PySem.Str), ("_law_right" : PySem.Str)]) (d := HandSHeadRun.topDef (OpenLaw.row PySem.Challenge.rw_sizeladders_k40_partings_shown_or_not).prog 72) (kwd := []) K40.ob_eq
    (by kernel_rfl) (fun s => by kernel_rfl) K40.run (by kernel_rfl) (by kernel_rfl) (by kernel_rfl) (by rfl) (by first | assumption | decide +kernel) (by decide +kernel) ⟨rfl, rfl, rfl, rfl, rfl, by decide +kernel⟩ ?hw ?hc
  case hw => w_witness2
  case hc =>
    refine L2.walk_ofE (l := PySem.Challenge.rw_sizeladders_k40_partings_shown_or_not) (n := 63) (k := 12) (x := "_law_script") (CX := L2.CX0) rfl (by decide) (by kernel_rfl) ⟨rfl, by decide, by decide⟩ ?F (fun _ _ _ _ z => z)
    intro w mg fa h Y G hmg0
    obtain ⟨K, KX, c, cx⟩ := Y
    have hmg : mg ("law" : PySem.Str) = some (.ref fa) := by
      have e : (HandSHeadRun.topDef (OpenLaw.row PySem.Challenge.rw_sizeladders_k40_partings_shown_or_not).prog 72).name = ("law" : PySem.Str) := by kernel_rfl
      rw [← e]
      exact hmg0
    obtain ⟨φ, T⟩ := K40.facts KX G c cx
    have e := hmg.symm.trans T.g_law
    cases e
    have b := L2.FunD.bindsA (ps := K40.p_law) T.f_law fun _ _ _ _ _ _ us hl => match us, hl with | [_], _ => rfl
    exact ⟨K, φ.law, K40.sp_law K, KX, fun s v => b s [v] rfl, fun H a ns hl _ hS => ⟨a, ns, rfl, hS, hl, fun _ => rfl⟩, fun base _ _ => hl T⟩

namespace My
open PySem PySem.Spec PyProof.Rows L2
/-! ### enumerate of a tuple -/
section
variable {X : Cx}
/-! ### len of an own object -/
theorem call_lenO {CX : CXT} {n : Nat} {C f : Addr} {fd : FuncData} {ps : List Str} {sp : Sp} {E : XK} (F : FnOk X.prog X.w X.K X.mg X.base CX n f fd ps sp) (hm : Meth X.K C "__len__" f) (hb : Binds X.K fd ps []) (hx : Passes CX X E) (hr : Room (n + 1) X.A) :
    CallR X (.builtin "len") (fun xs H Q => ∃ x a dx fs, xs = [x] ∧ x = .ref a ∧ H a = some (.ins C dx fs) ∧ sp [.ref a] H (fun v H' => ∃ k : Nat, v = .int (k : Int) ∧ k < 1000 ∧ Q (.int (k : Int)) H') E) := by
  intro pins s σ H xs us Q I r h
  obtain ⟨x, a, dx, fs, rfl, rfl, ha, h⟩ := h
  obtain ⟨u, rfl, r1⟩ := vals1 r
  cases (show u = Value.ref a from r1)
  obtain ⟨mA, J, _⟩ := ins_get I.hok ha
  obtain ⟨od, J, _⟩ := J.look
  obtain ⟨m, hF⟩ := I.fr
  have sb : Sub X (n + 1) X.A := ⟨hr, rfl⟩
  refine PySem.W.len_K hF I.ok.mod.kin J hm.at_ hm.fn ?_
  refine thn (fn_at F hb hx sb.in1 I (vs := [.ref a]) (.cons rfl .nil) h) fun u s' q => ?_
  obtain ⟨v, H', I', rv, k, rfl, hk, q⟩ := q
  obtain ⟨t, rfl⟩ := rv
  exact ⟨⟨by omega, by omega⟩, .int (k : Int), H', I'.tok _, ⟨_, rfl⟩, q⟩
end
/-! ### max and min with a default -/
section
variable {X : Cx} {K : PySem.W.Frag}
theorem maxL (hK : X.K = K := by rfl) (hc : X.calm = true := by rfl) : CallR X (.builtin "max") (rMax K) := by subst hK; exact cr_max hc
theorem minL (hK : X.K = K := by rfl) (hc : X.calm = true := by rfl) : CallR X (.builtin "min") (rMin K) := by subst hK; exact cr_min hc
/-! ### xs[::k] -/
def rTupL (K : PySem.W.Frag) : List V → Hp → VK → Prop := fun xs H Q => ∃ (p : Addr) (ys : List V), xs = [.ref p] ∧ SqL K H p ys ∧ ∀ l, H l = none → Q (.ref l) (upd H l (.tup ys))
theorem tupleL (hK : X.K = K := by rfl) : CallR X (.type "tuple") (rTupL K) := by
  subst hK
  intro pins s σ H xs us Q I r h
  obtain ⟨p, ys, e, h1, h2⟩ := h
  exact call_tuple_of pins s σ H xs us Q I r ⟨p, ys, e, .inl ⟨h1, h2⟩⟩
def rListOf (K : PySem.W.Frag) : List V → Hp → VK → Prop := fun xs H Q => ∃ (p : Addr) (ys : List V), xs = [.ref p] ∧ (SqL K H p ys ∨ SqT K H p ys) ∧ ∀ l, H l = none → Q (.ref l) (upd H l (.lst ys))
theorem listOf (hK : X.K = K := by rfl) : CallR X (.type "list") (rListOf K) := by
  subst hK
  exact call_list_of
theorem walk_zipT {a b : Addr} {xs ys : List V} {n : Nat} (hn : n = min xs.length ys.length) : Walk (RZ.ItzT K a b) n (fun H => SqT K H a xs ∧ SqT K H b ys) (YPair (fun i => xs[i]?) (fun i => ys[i]?)) := by
  subst hn
  refine ⟨fun i _ hi q => ?_, fun _ q => ⟨xs, ys, q.1, q.2, by omega⟩, fun i H v H' _ q y => ?_⟩
  · have h1 : i < xs.length := by omega
    have h2 : i < ys.length := by omega
    exact ⟨xs, ys, xs[i], ys[i], q.1, q.2, by simp [h1], by simp [h2]⟩
  · obtain ⟨T, x, z, h1, h2, h3, h4, h5⟩ := y
    exact ⟨T, x, z, h1, h2, h3, h4 xs q.1, h5 ys q.2⟩
end
theorem logS {m : Int} (h : m.natAbs < 2 ^ 60) : m.natAbs.log2 < 9000 := Nat.lt_of_lt_of_le (PySem.Flt.log2_lt_of (by decide) h) (by decide)
theorem szl {n : Nat} (h : n ≤ 1000) : n ≤ sizeLine := Nat.le_trans h (by decide)
theorem szb {n : Nat} (h : Nat.ble n 1000 = true) : n ≤ sizeLine := szl (Nat.le_of_ble_eq_true h)
theorem szs {n : Nat} (h : n < 1000) : n < sizeLine := Nat.lt_of_lt_of_le h (by decide)
theorem atI_end {xs : List V} {n : Nat} {v : V} (hn : n + 1 = xs.length) (h : xs[n]? = some v) : atI xs (-1) = some v := by
  have e : ixN xs.length (-1) = some n := by
    unfold ixN
    rw [if_neg (by decide), if_pos (by omega)]
    exact congrArg some (by omega)
  unfold atI
  rw [e]
  exact h
theorem qmk_pos {a b : Int} (h : 0 < b) : qmk a b = (a, b) := by
  have e : sgn b = 1 := by unfold sgn; rw [if_pos h]
  unfold qmk
  rw [e, Int.mul_one, Int.mul_one]
/-- a Measure is made -/
theorem q_made {C : Addr} {H : Hp} {Qa : Addr → Hp → Prop} {E : XK} {k : Nat} {a b : Int} (hb : 0 < b) (sa : Sz k a) (sb : Sz k b) (k0 : 0 < k) (k1 : k ≤ 8900) (f : ∀ (p : Addr) (H' : Hp), Same H H' → QAt C H' p k (a, b) → Qa p H') :
    ∀ x dx, H x = none → H dx = none → dx ≠ x → sp_minit C [.ref x, .int a, .int b] (upd (upd H dx (.own x)) x (.ins C dx [])) (fun v H2 => v = .non ∧ Qa x H2) E := by
  intro x dx nx nd ne
  refine ⟨x, dx, a, b, rfl, upd_same, by omega, Sz.log sb k0 (by omega), fun t u H' fr hx kp => ⟨rfl, ?_⟩⟩
  have q := q_mk (k := k) ⟨dx, hx⟩ fr (by omega) sa sb
  rw [qmk_pos hb] at q
  exact f x H' (made_same nx nd kp) q
/-! ### draws -/
/-- one of a list -/
def sp_of (K : PySem.W.Frag) : Sp := fun vs H Q _ => ∃ (h l : Addr) (n : Nat) (xs : List V), vs = [.ref h, .ref l] ∧ HandAt H h n ∧ n < 100000 ∧ SqL K H l xs ∧ l ≠ h ∧ 0 < xs.length ∧ xs.length ≤ 1000 ∧
  ∀ (i : Nat) (x : V) (H' : Hp), xs[i]? = some x → HandAt H' h (n + 1) → Kp h H H' → Q x H'
end My
namespace My
open PySem PySem.Spec PyProof.Rows L2
theorem HandAt.put {H : Hp} {h l : Addr} {u : HO} {n : Nat} (a : HandAt H h n) (ne : l ≠ h) : HandAt (upd H l u) h n := by
  obtain ⟨x, y, z, h1, h2⟩ := a
  exact ⟨x, y, z, by rw [upd_ne ne.symm]; exact h1, h2⟩
theorem Kp.fresh {h l : Addr} {H H1 : Hp} (k : Kp h H H1) (hn : H1 l = none) (ne : l ≠ h) : H l = none := by
  cases e : H l with
  | none => rfl
  | some o => rw [k l o e ne] at hn; cases hn
theorem Kp.putN {h l : Addr} {H H1 : Hp} {u : HO} (k : Kp h H H1) (hn : H l = none) : Kp h H (upd H1 l u) := fun c o e n => by
  rw [upd_ne (ne_of_none e hn)]; exact k c o e n
theorem geI {n : Nat} {zs : List Int} (h : n < zs.length) : ∃ a, zs[n]? = some a := ⟨_, List.getElem?_eq_getElem h⟩
theorem mapI {ms : List Int} {n : Nat} {a : Int} (h : ms[n]? = some a) : (ms.map V.int)[n]? = some (.int a) := by rw [List.getElem?_map, h]; rfl
def optZ : Option Int → V
  | none => .non
  | some z => .int z
/-- a ladder in whole parts, as the laws draw it -/
structure LawL (H : Hp) (p : Addr) (part : Int) (ms : List Int) (r : Str) (lo hi : Option Int) : Prop where
  ob : ∃ T, H p = some (.tup [.int part, .ref T, .str r, optZ lo, optZ hi]) ∧ H T = some (.tup (ms.map V.int))
  p0 : 0 < part
  p1 : part ≤ 10007
  len0 : 0 < ms.length
  len1 : ms.length ≤ 24
  rise : ∀ (i : Nat) (a b : Int), ms[i]? = some a → ms[i + 1]? = some b → a < b
  four : ∀ m ∈ ms, m % 4 = 0
  bnd : ∀ m ∈ ms, -4000000 ≤ m ∧ m ≤ 4000000
  blo : ∀ z, lo = some z → -4000040 ≤ z ∧ z ≤ 4000040
  bhi : ∀ z, hi = some z → -4000040 ≤ z ∧ z ≤ 4000040
  rule : IsRule r
  span : ∀ a b, lo = some a → hi = some b → a ≤ b
section
variable {H H' : Hp} {p : Addr} {part : Int} {ms : List Int} {r : Str} {lo hi : Option Int}
theorem LawL.same (a : LawL H p part ms r lo hi) (s : Same H H') : LawL H' p part ms r lo hi := by
  obtain ⟨⟨T, h1, h2⟩, a1⟩ := a
  exact ⟨⟨T, s _ _ h1, s _ _ h2⟩, by assumption, by assumption, by assumption, by assumption, by assumption, by assumption, by assumption, by assumption, by assumption, by assumption, by assumption⟩
/-- the parts as fractions -/
def zq (d : Int) (ms : List Int) : List Q2 := ms.map fun m => (m, d)
def oq (d : Int) (o : Option Int) : Option Q2 := o.map fun m => (m, d)
theorem zq_len (d : Int) (ms : List Int) : (zq d ms).length = ms.length := List.length_map ..
theorem zq_get {d : Int} {ms : List Int} {i : Nat} {z : Q2} (h : (zq d ms)[i]? = some z) : ∃ m, ms[i]? = some m ∧ z = (m, d) := by
  unfold zq at h
  rw [List.getElem?_map] at h
  cases e : ms[i]? with
  | none => rw [e] at h; cases h
  | some m => rw [e] at h; exact ⟨m, rfl, (Option.some.inj h).symm⟩
theorem ltq_d {d a b : Int} (h : 0 < d) : ltq (a, d) (b, d) = decide (a < b) := by
  unfold ltq
  refine decide_eq_decide.mpr ⟨fun z => Int.lt_of_mul_lt_mul_right z (Int.le_of_lt h), fun z => Int.mul_lt_mul_of_pos_right z h⟩
theorem eqq_d {d a b : Int} (h : 0 < d) : eqq (a, d) (b, d) = decide (a = b) := by
  unfold eqq
  refine decide_eq_decide.mpr ⟨fun z => Int.eq_of_mul_eq_mul_right (by omega) z, fun z => by rw [z]⟩
theorem leq_d {d a b : Int} (h : 0 < d) : leq (a, d) (b, d) = decide (a ≤ b) := by
  unfold leq
  rw [ltq_d h, eqq_d h, ← Bool.decide_or]
  exact decide_eq_decide.mpr ⟨fun z => by omega, fun z => by omega⟩
theorem LawL.riseQ (a : LawL H p part ms r lo hi) : RiseQ (zq (4 * part) ms) := by
  intro i x y hx hy
  obtain ⟨m, hm, rfl⟩ := zq_get hx
  obtain ⟨m', hm', rfl⟩ := zq_get hy
  have := a.p0
  rw [ltq_d (by omega)]
  exact decide_eq_true (a.rise i m m' hm hm')
theorem LawL.spanQ (a : LawL H p part ms r lo hi) : spanB (oq (4 * part) lo) (oq (4 * part) hi) = true := by
  cases lo with
  | none => cases hi <;> rfl
  | some x =>
    cases hi with
    | none => rfl
    | some y =>
      have := a.p0
      have h := a.span x y rfl rfl
      show (!ltq (y, 4 * part) (x, 4 * part)) = true
      rw [ltq_d (by omega), decide_eq_false (by omega)]
      rfl
end
theorem rise_snoc {ms : List Int} {x : Int} (h : ∀ (i : Nat) (a b : Int), ms[i]? = some a → ms[i + 1]? = some b → a < b) (hx : ∀ m ∈ ms, m < x) : ∀ (i : Nat) (a b : Int), (ms ++ [x])[i]? = some a → (ms ++ [x])[i + 1]? = some b → a < b := by
  intro i a b ha hb
  have l1 := (List.getElem?_eq_some_iff.mp hb).1
  rw [List.length_append, List.length_singleton] at l1
  rw [List.getElem?_append_left (by omega)] at ha
  by_cases hi : i + 1 < ms.length
  · rw [List.getElem?_append_left hi] at hb
    exact h i a b ha hb
  · have e : i + 1 = ms.length := by omega
    rw [e, List.getElem?_append_right (Nat.le_refl _), Nat.sub_self] at hb
    have eb : x = b := by simpa using hb
    rw [← eb]
    exact hx a (List.mem_of_getElem? ha)
theorem cutV_tail (xs : List V) : cutV xs (some 1) none = xs.drop 1 := by
  unfold cutV
  have e : HT.sIx xs.length 0 (some ((1 : Nat) : Int)) = min 1 xs.length := HT.sIx_nat xs.length 0 1
  have e1 : HT.sIx xs.length 0 (some (1 : Int)) = min 1 xs.length := e
  rw [e1, HT.sIx_none]
  cases xs with
  | nil => rfl
  | cons x xs =>
    rw [show min 1 (x :: xs).length = 1 by simp]
    rw [List.take_of_length_le (by rw [List.length_drop]; omega)]
/-- whole numbers within a bound -/
def IntsB (B : Int) (xs : List V) : Prop := ∀ x ∈ xs, ∃ z : Int, x = .int z ∧ -B ≤ z ∧ z ≤ B
theorem IntsB.mono {B B' : Int} {xs : List V} (a : IntsB B xs) (l : B ≤ B') : IntsB B' xs := fun x h => by
  obtain ⟨z, e, h1, h2⟩ := a x h
  exact ⟨z, e, by omega, by omega⟩
theorem IntsB.ints {B : Int} : ∀ {xs : List V}, IntsB B xs → ∃ ys : List Int, xs = ys.map V.int ∧ ∀ y ∈ ys, -B ≤ y ∧ y ≤ B
  | [], _ => ⟨[], rfl, fun y h => by simp at h⟩
  | x :: xs, a => by
    obtain ⟨z, rfl, h1⟩ := a x (by simp)
    obtain ⟨ys, e, h2⟩ := IntsB.ints (xs := xs) fun w hw => a w (by simp [hw])
    refine ⟨z :: ys, by rw [e]; rfl, fun y hy => ?_⟩
    rcases List.mem_cons.mp hy with e | e
    · rw [e]; exact h1
    · exact h2 y e
theorem IntsB.of {B : Int} {ms : List Int} (h : ∀ m ∈ ms, -B ≤ m ∧ m ≤ B) : IntsB B (ms.map V.int) := fun x hx => by
  obtain ⟨m, hm, rfl⟩ := List.mem_map.mp hx
  exact ⟨m, rfl, h m hm⟩
/-! ### sizes by whole numbers -/
abbrev RiseI (ms : List Int) : Prop := ∀ (i : Nat) (a b : Int), ms[i]? = some a → ms[i + 1]? = some b → a < b
theorem RiseI.tail {x : Int} {ms : List Int} (h : RiseI (x :: ms)) : RiseI ms := fun i a b h1 h2 => h (i + 1) a b (by simpa using h1) (by simpa using h2)
theorem RiseI.head : ∀ {ms : List Int} {x : Int}, RiseI (x :: ms) → ∀ m ∈ ms, x < m
  | [], _, _, m, hm => by simp at hm
  | y :: ms, x, h, m, hm => by
    have h0 : x < y := h 0 x y rfl rfl
    rcases List.mem_cons.mp hm with e | e
    · rw [e]; exact h0
    · have := RiseI.head h.tail m e
      omega
theorem RiseI.lt {ms : List Int} (h : RiseI ms) : ∀ {j : Nat} {i : Nat} {a b : Int}, i < j → ms[i]? = some a → ms[j]? = some b → a < b
  | 0, _, _, _, hi, _, _ => by omega
  | j + 1, i, a, b, hi, ha, hb => by
    obtain ⟨c, hc⟩ := geI (zs := ms) (n := j) (by have := (List.getElem?_eq_some_iff.mp hb).1; omega)
    have h1 := h j c b hc hb
    by_cases e : i = j
    · subst e
      rw [ha] at hc
      cases hc
      exact h1
    · have := RiseI.lt h (show i < j by omega) ha hc
      omega
theorem cnt_rise (f : Int → Bool) (hf : ∀ a b, a < b → f b = true → f a = true) : ∀ {ms : List Int}, RiseI ms → ∀ (k : Nat) (a : Int), ms[k]? = some a → (f a = true ↔ k < ms.countP f)
  | [], _, k, a, h => by simp at h
  | x :: ms, hr, k, a, h => by
    rw [List.countP_cons]
    cases e : f x with
    | true =>
      rw [if_pos rfl]
      cases k with
      | zero =>
        have : x = a := by simpa using h
        subst this
        simp [e]
      | succ k =>
        have := cnt_rise f hf hr.tail k a (by simpa using h)
        rw [this]
        omega
    | false =>
      rw [if_neg (by simp)]
      have z0 : ms.countP f = 0 := by
        rw [List.countP_eq_zero]
        intro y hy q
        have := hf x y (hr.head y hy) q
        rw [e] at this
        cases this
      rw [z0]
      have fa : f a = false := by
        cases k with
        | zero =>
          have : x = a := by simpa using h
          rw [← this]; exact e
        | succ k =>
          cases q : f a with
          | false => rfl
          | true =>
            have := hf x a (hr.head a (List.mem_of_getElem? (by simpa using h : ms[k]? = some a))) q
            rw [e] at this
            cases this
      rw [fa]
      simp
theorem cnt_is {f : Int → Bool} (hf : ∀ a b, a < b → f b = true → f a = true) {ms : List Int} (hr : RiseI ms) {k : Nat} (hk : k ≤ ms.length) (h1 : ∀ j a, j < k → ms[j]? = some a → f a = true) (h2 : ∀ a, ms[k]? = some a → f a = false) : ms.countP f = k := by
  have le : ms.countP f ≤ ms.length := List.countP_le_length
  rcases Nat.lt_trichotomy (ms.countP f) k with h | h | h
  · obtain ⟨a, ha⟩ := geI (zs := ms) (n := ms.countP f) (by omega)
    have := (cnt_rise f hf hr _ a ha).mp (h1 _ a h ha)
    omega
  · exact h
  · obtain ⟨a, ha⟩ := geI (zs := ms) (n := k) (by omega)
    have := (cnt_rise f hf hr _ a ha).mpr h
    rw [h2 a ha] at this
    cases this
section
variable {ms : List Int} {d z : Int} {lo hi : Option Q2}
theorem lt_down : ∀ a b : Int, a < b → decide (b < z) = true → decide (a < z) = true := fun a b h q => decide_eq_true (by have := of_decide_eq_true q; omega)
theorem le_down : ∀ a b : Int, a < b → decide (b ≤ z) = true → decide (a ≤ z) = true := fun a b h q => decide_eq_true (by have := of_decide_eq_true q; omega)
theorem cq_lt (hd : 0 < d) : (zq d ms).countP (fun a => ltq a (z, d)) = ms.countP (fun m => decide (m < z)) := by
  unfold zq
  rw [List.countP_map]
  exact congrArg (fun f => ms.countP f) (funext fun m => ltq_d hd)
theorem cq_le (hd : 0 < d) : (zq d ms).countP (fun a => leq a (z, d)) = ms.countP (fun m => decide (m ≤ z)) := by
  unfold zq
  rw [List.countP_map]
  exact congrArg (fun f => ms.countP f) (funext fun m => leq_d hd)
theorem size_in (hin : inO lo hi (z, d) = true) {r : Str} {n : Int} (e : sizeR (zq d ms) r (z, d) = n) : sizeQ (zq d ms) r lo hi (z, d) = if 0 ≤ n ∧ n < ms.length then some n.toNat else none := by
  unfold sizeQ
  rw [if_pos hin, e, zq_len]
theorem up_none (hd : 0 < d) (hr : RiseI ms) (hin : inO lo hi (z, d) = true) (h : ∀ m ∈ ms, m < z) : sizeQ (zq d ms) "up" lo hi (z, d) = none := by
  have c : ms.countP (fun m => decide (m < z)) = ms.length := List.countP_eq_length.mpr fun m hm => decide_eq_true (h m hm)
  rw [size_in hin (n := (ms.length : Int)) (by unfold sizeR; rw [if_pos rfl, cq_lt hd, c]), if_neg (by omega)]
theorem up_some (hd : 0 < d) (hr : RiseI ms) (hin : inO lo hi (z, d) = true) {k : Nat} {a : Int} (hk : ms[k]? = some a) (ha : z ≤ a) (h : ∀ j b, j < k → ms[j]? = some b → b < z) : sizeQ (zq d ms) "up" lo hi (z, d) = some k := by
  have hl := (List.getElem?_eq_some_iff.mp hk).1
  have c : ms.countP (fun m => decide (m < z)) = k := cnt_is lt_down hr (by omega) (fun j b hj hb => decide_eq_true (h j b hj hb)) fun b hb => by
    rw [hk] at hb
    cases hb
    exact decide_eq_false (by omega)
  rw [size_in hin (n := (k : Int)) (by unfold sizeR; rw [if_pos rfl, cq_lt hd, c]), if_pos (by omega)]
  rfl
theorem dn_none (hd : 0 < d) (hr : RiseI ms) (hin : inO lo hi (z, d) = true) (h : ∀ m ∈ ms, z < m) : sizeQ (zq d ms) "down" lo hi (z, d) = none := by
  have c : ms.countP (fun m => decide (m ≤ z)) = 0 := by
    rw [List.countP_eq_zero]
    intro m hm q
    have := h m hm
    have := of_decide_eq_true q
    omega
  rw [size_in hin (n := -1) (by unfold sizeR; rw [if_neg (by decide +kernel), if_pos rfl, cq_le hd, c]; rfl), if_neg (by omega)]
theorem dn_some (hd : 0 < d) (hr : RiseI ms) (hin : inO lo hi (z, d) = true) {k : Nat} {a : Int} (hk : ms[k]? = some a) (ha : a ≤ z) (h : ∀ j b, k < j → ms[j]? = some b → z < b) : sizeQ (zq d ms) "down" lo hi (z, d) = some k := by
  have hl := (List.getElem?_eq_some_iff.mp hk).1
  have c : ms.countP (fun m => decide (m ≤ z)) = k + 1 := cnt_is le_down hr (by omega) (fun j b hj hb => decide_eq_true (by
    by_cases e : j = k
    · subst e
      rw [hk] at hb
      cases hb
      exact ha
    · have := hr.lt (show j < k by omega) hb hk
      omega)) fun b hb => decide_eq_false (by have := h (k + 1) b (by omega) hb; omega)
  rw [size_in hin (n := (k : Int)) (by unfold sizeR; rw [if_neg (by decide +kernel), if_pos rfl, cq_le hd, c]; omega), if_pos (by omega)]
  rfl
/-- sums of neighbours -/
def pairS : List Int → List Int
  | a :: b :: r => (a + b) :: pairS (b :: r)
  | _ => []
theorem half_d {a b : Int} (hd : 0 < d) : leq (qhalf (a, d) (b, d)) (z, d) = decide (a + b ≤ 2 * z) := by
  rw [qhalf_eq]
  unfold leq ltq eqq
  rw [← Bool.decide_or]
  refine decide_eq_decide.mpr ?_
  show ((a * d + b * d) * d < z * (d * d * 2) ∨ (a * d + b * d) * d = z * (d * d * 2)) ↔ _
  have e1 : (a * d + b * d) * d = (a + b) * (d * d) := by grind
  have e2 : z * (d * d * 2) = (2 * z) * (d * d) := by grind
  have p : 0 < d * d := Int.mul_pos hd hd
  rw [e1, e2]
  constructor
  · rintro (h | h)
    · have := Int.lt_of_mul_lt_mul_right h (Int.le_of_lt p)
      omega
    · have := Int.eq_of_mul_eq_mul_right (by omega) h
      omega
  · intro h
    rcases Int.lt_or_eq_of_le h with h | h
    · exact .inl (Int.mul_lt_mul_of_pos_right h p)
    · exact .inr (by rw [h])
theorem cq_mid (hd : 0 < d) : ∀ ms : List Int, (midq (zq d ms)).countP (fun a => leq a (z, d)) = (pairS ms).countP (fun m => decide (m ≤ 2 * z))
  | [] => rfl
  | [_] => rfl
  | a :: b :: r => by
    have ih := cq_mid hd (b :: r)
    show (qhalf (a, d) (b, d) :: midq (zq d (b :: r))).countP _ = ((a + b) :: pairS (b :: r)).countP _
    rw [List.countP_cons, List.countP_cons, ih, half_d hd]
theorem pairS_len : ∀ ms : List Int, (pairS ms).length = ms.length - 1
  | [] => rfl
  | [_] => rfl
  | a :: b :: r => by
    show (pairS (b :: r)).length + 1 = _
    rw [pairS_len (b :: r)]
    simp
theorem pairS_get : ∀ (ms : List Int) (i : Nat) (a b : Int), ms[i]? = some a → ms[i + 1]? = some b → (pairS ms)[i]? = some (a + b)
  | [], i, a, b, h, _ => by simp at h
  | [x], i, a, b, _, h => by simp at h
  | x :: y :: r, 0, a, b, h1, h2 => by
    cases h1; cases h2; rfl
  | x :: y :: r, i + 1, a, b, h1, h2 => by
    have := pairS_get (y :: r) i a b (by simpa using h1) (by simpa using h2)
    simpa [pairS] using this
theorem pairS_rise (hr : RiseI ms) : RiseI (pairS ms) := by
  intro i x y hx hy
  have l := (List.getElem?_eq_some_iff.mp hy).1
  rw [pairS_len] at l
  obtain ⟨a, ha⟩ := geI (zs := ms) (n := i) (by omega)
  obtain ⟨b, hb⟩ := geI (zs := ms) (n := i + 1) (by omega)
  obtain ⟨c, hc⟩ := geI (zs := ms) (n := i + 1 + 1) (by omega)
  rw [pairS_get ms i a b ha hb] at hx
  rw [pairS_get ms (i + 1) b c hb hc] at hy
  cases hx; cases hy
  have := hr i a b ha hb
  have := hr (i + 1) b c hb hc
  omega
/-- how far -/
def farI (m z : Int) : Int := if m - z < 0 then -(m - z) else m - z
/-- the place of the nearest mark, of two the greater -/
theorem near_at (hr : RiseI ms) (l0 : 0 < ms.length) : ∃ (c : Nat) (mc : Int), c < ms.length ∧ (pairS ms).countP (fun m => decide (m ≤ 2 * z)) = c ∧ ms[c]? = some mc ∧ (∀ (j : Nat) (b : Int), ms[j]? = some b → farI mc z ≤ farI b z) ∧ ∀ (j : Nat) (b : Int), c < j → ms[j]? = some b → farI mc z < farI b z := by
  have le : (pairS ms).countP (fun m => decide (m ≤ 2 * z)) ≤ (pairS ms).length := List.countP_le_length
  rw [pairS_len] at le
  generalize hc : (pairS ms).countP (fun m => decide (m ≤ 2 * z)) = c at *
  obtain ⟨mc, hmc⟩ := geI (zs := ms) (n := c) (by omega)
  have key : ∀ (i : Nat) (a b : Int), ms[i]? = some a → ms[i + 1]? = some b → (a + b ≤ 2 * z ↔ i < c) := fun i a b ha hb => by
    have := cnt_rise (fun m => decide (m ≤ 2 * z)) le_down (pairS_rise hr) i (a + b) (pairS_get ms i a b ha hb)
    rw [hc] at this
    rw [← this]
    exact ⟨fun h => decide_eq_true h, fun h => of_decide_eq_true h⟩
  have upw : ∀ (n : Nat) (b : Int), ms[c + 1 + n]? = some b → farI mc z < farI b z := by
    intro n
    induction n with
    | zero =>
      intro b hb
      have k1 := key c mc b hmc hb
      have k2 := hr c mc b hmc hb
      unfold farI
      split <;> split <;> omega
    | succ n ih =>
      intro b hb
      obtain ⟨a, ha⟩ := geI (zs := ms) (n := c + 1 + n) (by have := (List.getElem?_eq_some_iff.mp hb).1; omega)
      have h1 := ih a ha
      have k1 := key (c + 1 + n) a b ha hb
      have k2 := hr (c + 1 + n) a b ha hb
      unfold farI at *
      split at h1 <;> split at h1 <;> split <;> split <;> omega
  have dnw : ∀ (n j : Nat) (b : Int), j + n = c → ms[j]? = some b → farI mc z ≤ farI b z := by
    intro n
    induction n with
    | zero =>
      intro j b hj hb
      have : j = c := by omega
      subst this
      rw [hmc] at hb
      cases hb
      exact Int.le_refl _
    | succ n ih =>
      intro j b hj hb
      obtain ⟨a, ha⟩ := geI (zs := ms) (n := j + 1) (by omega)
      have h1 := ih (j + 1) a (by omega) ha
      have k1 := (key j b a hb ha).mpr (by omega)
      have k2 := hr j b a hb ha
      unfold farI at *
      split at h1 <;> split at h1 <;> split <;> split <;> omega
  refine ⟨c, mc, by omega, rfl, hmc, fun j b hb => ?_, fun j b hj hb => upw (j - c - 1) b (by rw [show c + 1 + (j - c - 1) = j by omega]; exact hb)⟩
  by_cases hj : j ≤ c
  · exact dnw (c - j) j b (by omega) hb
  · exact Int.le_of_lt (upw (j - c - 1) b (by rw [show c + 1 + (j - c - 1) = j by omega]; exact hb))
theorem nr_some (hd : 0 < d) (hin : inO lo hi (z, d) = true) {r : Str} (h1 : ¬ r = "up") (h2 : ¬ r = "down") {c : Nat} (hl : c < ms.length) (e : (pairS ms).countP (fun m => decide (m ≤ 2 * z)) = c) : sizeQ (zq d ms) r lo hi (z, d) = some c := by
  rw [size_in hin (n := (c : Int)) (by unfold sizeR; rw [if_neg h1, if_neg h2, cq_mid hd, e]), if_pos (by omega)]
  rfl
end
theorem in_true {d z : Int} {lo hi : Option Int} (hd : 0 < d) (h1 : ∀ a, lo = some a → a ≤ z) (h2 : ∀ b, hi = some b → z ≤ b) : inO (oq d lo) (oq d hi) (z, d) = true := by
  have e1 : loOk (oq d lo) (z, d) = true := by
    cases lo with
    | none => rfl
    | some a =>
      have := h1 a rfl
      show (!ltq (z, d) (a, d)) = true
      rw [ltq_d hd, decide_eq_false (by omega)]
      rfl
  have e2 : hiOk (oq d hi) (z, d) = true := by
    cases hi with
    | none => rfl
    | some b =>
      have := h2 b rfl
      show (!ltq (b, d) (z, d)) = true
      rw [ltq_d hd, decide_eq_false (by omega)]
      rfl
  unfold inO
  rw [e1, e2]
  rfl
theorem out_lo {d z a : Int} {hi : Option Q2} (hd : 0 < d) (h : z < a) : inO (oq d (some a)) hi (z, d) = false := inO_lo (by rw [ltq_d hd]; exact decide_eq_true h)
theorem out_hi {d z b : Int} {lo : Option Q2} (hd : 0 < d) (h : b < z) : inO lo (oq d (some b)) (z, d) = false := inO_hi (by rw [ltq_d hd]; exact decide_eq_true h)
theorem some_fm (f : Int → Int) : ∀ ms : List Int, (ms.map fun m => some (V.int (f m))).filterMap _root_.id = (ms.map f).map V.int
  | [] => rfl
  | x :: l => by simpa using some_fm f l
/-- the numbers from 0 on of which c holds -/
def idx (n : Nat) (c : Nat → Bool) : List Int := ((List.range n).filter c).map fun k : Nat => (k : Int)
theorem idx_mem {n : Nat} {c : Nat → Bool} {m : Int} : m ∈ idx n c ↔ ∃ k : Nat, k < n ∧ c k = true ∧ m = k := by
  unfold idx
  simp only [List.mem_map, List.mem_filter, List.mem_range]
  exact ⟨fun ⟨k, ⟨h1, h2⟩, h3⟩ => ⟨k, h1, h2, h3.symm⟩, fun ⟨k, h1, h2, h3⟩ => ⟨k, ⟨h1, h2⟩, h3.symm⟩⟩
def oIdx (n : Nat) (c : Nat → Bool) : List (Option V) := (List.range n).map fun k => if c k then some (.int (k : Int)) else none
theorem oIdx_len (n : Nat) (c : Nat → Bool) : (oIdx n c).length = n := by unfold oIdx; simp
theorem oIdx_get {n i : Nat} {c : Nat → Bool} {z : Option V} (h : (oIdx n c)[i]? = some z) : z = if c i then some (.int (i : Int)) else none := by
  unfold oIdx at h
  rw [List.getElem?_map] at h
  by_cases hi : i < n
  · rw [List.getElem?_range hi] at h
    exact (Option.some.inj h).symm
  · rw [List.getElem?_eq_none (by simpa using hi)] at h
    cases h
theorem oIdx_fm (n : Nat) (c : Nat → Bool) : (oIdx n c).filterMap _root_.id = (idx n c).map V.int := by
  unfold oIdx idx
  rw [List.filterMap_map, List.map_map]
  generalize List.range n = l
  induction l with
  | nil => rfl
  | cons x l ih =>
    rw [List.filterMap_cons, List.filter_cons]
    cases e : c x
    · simpa [e] using ih
    · simpa [e] using ih
/-! ### what the laws' own defs promise -/
def sp_lmeas (CM : Addr) : Sp := fun vs H Q _ => ∃ (part z : Int), vs = [.int part, .int z] ∧ 0 < part ∧ part ≤ 10007 ∧ Sz 40 z ∧
  ∀ (q : Addr) (H' : Hp), Same H H' → QAt CM H' q 40 (z, 4 * part) → Q (.ref q) H'
end My
namespace My
open PySem PySem.Spec PyProof.Rows L2
/-! ### the stretches of a ladder's sizes -/
section
variable {X : Cx} {K : PySem.W.Frag}
/-- an item of a list or a tuple -/
def rIxLT (K : PySem.W.Frag) : R2 := fun x y H Q => ∃ (p : Addr) (xs : List V) (i : Int) (v : V), x = .ref p ∧ y = .int i ∧ (SqL K H p xs ∨ SqT K H p xs) ∧ atI xs i = some v ∧ Q v H
theorem ixs (hK : X.K = K := by rfl) : IxR X (rIxLT K) := by
  subst hK
  intro value slice pins s σ H x y v u Q I rx ry h hs
  obtain ⟨p, xs, i, w, e1, e2, hq | hq, h3, h4⟩ := h
  · exact ix_list value slice pins s σ H x y v u Q I rx ry ⟨p, xs, i, w, e1, e2, hq, h3, h4⟩ hs
  · exact ix_tup value slice pins s σ H x y v u Q I rx ry ⟨p, xs, i, w, e1, e2, hq, h3, h4⟩ hs
end
def endQ (zs : List Q2) (i : Int) : Option Q2 := if 0 ≤ i ∧ i < zs.length then zs[i.toNat]? else none
/-- both ends of a size by the rule alone, and whether they are in -/
def rulE (zs : List Q2) (r : Str) (n : Nat) : (Option Q2 × Bool) × (Option Q2 × Bool) :=
  if r = "up" then ((endQ zs ((n : Int) - 1), false), (zs[n]?, true)) else if r = "down" then ((zs[n]?, true), (endQ zs ((n : Int) + 1), false)) else ((endQ (midq zs) ((n : Int) - 1), true), (endQ (midq zs) n, false))
/-- a Stretch whose ends are these fractions -/
def StQ (CM CS : Addr) (H : Hp) (p : Addr) (x y : Option Q2 × Bool) : Prop := ∃ lo hi, StAt CM CS H p lo hi (x.2 && x.1.isSome) (y.2 && y.1.isSome) ∧ ReO lo x.1 ∧ ReO hi y.1
theorem StQ.same {CM CS p : Addr} {H H' : Hp} {x y : Option Q2 × Bool} (a : StQ CM CS H p x y) (s : Same H H') : StQ CM CS H' p x y := by
  obtain ⟨lo, hi, h1, h2, h3⟩ := a
  exact ⟨lo, hi, h1.same s, h2, h3⟩
def CutQ (CM CS : Addr) (H : Hp) (v : V) (x y : Option Q2 × Bool) : Prop := ∃ x' y', CutV CM CS H v x' y' ∧ Alike x' x ∧ Alike y' y
theorem CutQ.same {CM CS : Addr} {H H' : Hp} {v : V} {x y : Option Q2 × Bool} (a : CutQ CM CS H v x y) (s : Same H H') : CutQ CM CS H' v x y := by
  obtain ⟨x', y', h1, h2, h3⟩ := a
  exact ⟨x', y', h1.same s, h2, h3⟩
/-- both ends of a size's stretch -/
def sizE (zs : List Q2) (r : Str) (lo hi : Option Q2) (n : Nat) : (Option Q2 × Bool) × (Option Q2 × Bool) :=
  (cutLo (rulE zs r n).1.1 (rulE zs r n).1.2 lo true, cutHi (rulE zs r n).2.1 (rulE zs r n).2.2 hi true)
def sp_endat (K : PySem.W.Frag) (CM : Addr) : Sp := fun vs H Q _ => ∃ (T : Addr) (k : Nat) (ps : List V) (zs : List Q2) (i : Int), vs = [.ref T, .int i] ∧ (SqL K H T ps ∨ SqT K H T ps) ∧ Mks CM H k ps zs ∧ ∀ v, QO CM H k v (endQ zs i) → Q v H
def sp_strR (K : PySem.W.Frag) (CM CS : Addr) : Sp := fun vs H Q _ => ∃ (T : Addr) (k : Nat) (ps : List V) (zs : List Q2) (r : Str) (n : Nat), vs = [.ref T, .str r, .int n] ∧ SqT K H T ps ∧ Mks CM H k ps zs ∧ 0 < k ∧ k ≤ 1000 ∧ zs.length ≤ 24 ∧ n < zs.length ∧ RiseQ zs ∧
  ∀ (p : Addr) (H' : Hp), Same H H' → StQ CM CS H' p (rulE zs r n).1 (rulE zs r n).2 → Q (.ref p) H'
def sp_hassz (K : PySem.W.Frag) (CM CL : Addr) : Sp := fun vs H Q _ => ∃ (p : Addr) (k : Nat) (zs : List Q2) (r : Str) (lo hi : Option Q2) (n : Nat), vs = [.ref p, .int n] ∧ LadAt K CM CL H p k zs r lo hi ∧ n < zs.length ∧ Q (.bl true) H
def sp_llen (K : PySem.W.Frag) (CM CL : Addr) : Sp := fun vs H Q _ => ∃ (p : Addr) (k : Nat) (zs : List Q2) (r : Str) (lo hi : Option Q2), vs = [.ref p] ∧ LadAt K CM CL H p k zs r lo hi ∧ Q (.int (zs.length : Nat)) H
def sp_stretch (K : PySem.W.Frag) (CM CL CS : Addr) : Sp := fun vs H Q _ => ∃ (p : Addr) (k : Nat) (zs : List Q2) (r : Str) (lo hi : Option Q2) (n : Nat), vs = [.ref p, .int n] ∧ LadAt K CM CL H p k zs r lo hi ∧ 0 < k ∧ k ≤ 1000 ∧ n < zs.length ∧
  ∀ (v : V) (H' : Hp), Same H H' → CutQ CM CS H' v (sizE zs r lo hi n).1 (sizE zs r lo hi n).2 → Q v H'
/-! between neighbours there is something -/
theorem some_lt {a b : Q2} {i j : Bool} (h : ltq a b = true) : someB (some a) (some b) i j = true := by
  unfold someB
  first
    | (rw [h]; rfl)
    | (simp [h])
theorem mids_lt {a b c : Q2} (ha : 0 < a.2) (hb : 0 < b.2) (hc : 0 < c.2) (h1 : ltq a b = true) (h2 : ltq b c = true) : ltq (qhalf a b) (qhalf b c) = true := by
  have e1 := (half_lo ha hb).2.1
  have e2 := (half_lo hb hc).1
  rw [h1] at e1
  rw [h2] at e2
  have p1 : 0 < (qhalf a b).2 := by rw [qhalf_eq]; exact Int.mul_pos (Int.mul_pos ha hb) (by decide)
  have p2 : 0 < (qhalf b c).2 := by rw [qhalf_eq]; exact Int.mul_pos (Int.mul_pos hb hc) (by decide)
  exact ltq_trans hb p1 p2 e1 e2
theorem stq_made {CM CS : Addr} {H : Hp} {Qa : Addr → Hp → Prop} {E : XK} {k j : Nat} {l h : V} {a b : Option Q2} {ia ib : Bool} (ql : QO CM H k l a) (qh : QO CM H j h b) (hk : k ≤ 4000) (hj : j ≤ 4000) (so : someB a b ia ib = true)
    (f : ∀ (p : Addr) (H' : Hp), Same H H' → StQ CM CS H' p (a, ia) (b, ib) → Qa p H') :
    ∀ x dx, H x = none → H dx = none → dx ≠ x → sp_sinit CM CS [.ref x, l, h, .bl ia, .bl ib] (upd (upd H dx (.own x)) x (.ins CS dx [])) (fun v H2 => v = .non ∧ Qa x H2) E := by
  intro x dx nx nd ne
  obtain ⟨lo, m1, l1, r1⟩ := ql.low hk
  obtain ⟨hi, m2, l2, r2⟩ := qh.low hj
  have s0 : Same H (upd (upd H dx (.own x)) x (.ins CS dx [])) := fun c o e => by
    rw [upd_ne (ne_of_none e nx)]
    exact up1 nd e
  refine ⟨x, dx, l, h, lo, hi, ia, ib, rfl, upd_same, m1.same s0, m2.same s0, l1, l2, by rw [someB_congr r1 r2]; exact so, fun H' hx kp => ⟨rfl, ?_⟩⟩
  have s1 : Same H H' := made_same nx nd kp
  refine f x H' s1 ⟨lo, hi, ?_, r1, r2⟩
  have z := StAt.mk' (CM := CM) hx s1 m1 m2 l1 l2
  rw [r1.isS, r2.isS] at z
  exact z
theorem some_tt {lo hi : Option Q2} (h : spanB lo hi = true) : someB lo hi true true = true := by
  cases lo with
  | none => cases hi <;> rfl
  | some a =>
    cases hi with
    | none => rfl
    | some b =>
      have h' : ltq b a = false := by simpa [spanB] using h
      have t := lt_tri a b
      rw [h'] at t
      unfold someB
      rcases t with ⟨t1, t2, _⟩ | ⟨t1, t2, _⟩ | ⟨_, _, t3⟩
      · simp [t1, t2]
      · simp [t1, t2]
      · cases t3
/-- the fractions' bottoms are above nought -/
def PosL (zs : List Q2) : Prop := ∀ z ∈ zs, 0 < z.2
theorem Mks.posL {C : Addr} {H : Hp} {k : Nat} {ps : List V} {zs : List Q2} (m : Mks C H k ps zs) : PosL zs := fun z hz => by
  obtain ⟨i, hi⟩ := List.mem_iff_getElem?.mp hz
  obtain ⟨p, _, q⟩ := m.at hi
  exact q.pos
theorem endQ_in {zs : List Q2} {i : Int} {n : Nat} (e : i = (n : Int)) : endQ zs i = zs[n]? := by
  subst e
  unfold endQ
  by_cases h : n < zs.length
  · rw [if_pos (by omega)]; rfl
  · rw [if_neg (by omega)]
    exact (List.getElem?_eq_none (by omega)).symm
theorem endQ_none {zs : List Q2} {i : Int} (h : i < 0) : endQ zs i = none := by
  unfold endQ
  rw [if_neg (by omega)]
theorem some_up {zs : List Q2} {n : Nat} (hr : RiseQ zs) {i j : Bool} : someB (endQ zs ((n : Int) - 1)) zs[n]? i j = true := by
  cases n with
  | zero => rw [endQ_none (by omega)]; rfl
  | succ n =>
    rw [endQ_in (n := n) (by omega)]
    cases e1 : zs[n]? with
    | none => rfl
    | some a =>
      cases e2 : zs[n + 1]? with
      | none => rfl
      | some b => exact some_lt (hr n a b e1 e2)
theorem some_dn {zs : List Q2} {n : Nat} (hr : RiseQ zs) {i j : Bool} : someB zs[n]? (endQ zs ((n : Int) + 1)) i j = true := by
  rw [endQ_in (n := n + 1) (by omega)]
  cases e1 : zs[n]? with
  | none => rfl
  | some a =>
    cases e2 : zs[n + 1]? with
    | none => rfl
    | some b => exact some_lt (hr n a b e1 e2)
theorem midq_rise {zs : List Q2} (hr : RiseQ zs) (hp : PosL zs) : RiseQ (midq zs) := by
  intro i x y hx hy
  have l := (List.getElem?_eq_some_iff.mp hy).1
  rw [midq_len] at l
  obtain ⟨a, ha⟩ := ge2 (zs := zs) (n := i) (by omega)
  obtain ⟨b, hb⟩ := ge2 (zs := zs) (n := i + 1) (by omega)
  obtain ⟨c, hc⟩ := ge2 (zs := zs) (n := i + 1 + 1) (by omega)
  rw [midq_get zs i a b ha hb] at hx
  rw [midq_get zs (i + 1) b c hb hc] at hy
  cases hx; cases hy
  exact mids_lt (hp a (List.mem_of_getElem? ha)) (hp b (List.mem_of_getElem? hb)) (hp c (List.mem_of_getElem? hc)) (hr i a b ha hb) (hr (i + 1) b c hb hc)
theorem some_nr {zs : List Q2} {n : Nat} (hr : RiseQ zs) {i j : Bool} : someB (endQ zs ((n : Int) - 1)) (endQ zs (n : Int)) i j = true := by
  rw [endQ_in (n := n) rfl]
  exact some_up hr
end My
namespace My
open PySem PySem.Spec PyProof.Rows L2
/-! ### defs that are called where no text of a list or tuple is under way -/
section
variable {P : Program} {w : World} {K : PySem.W.Frag} {mg : Str → Option Value} {base : Heap} {x qual : Str} {params : Arguments} {body : List Stmt} {scope : Scope} {dvs : List V} {kws : List (Str × V)} {f : Addr} {fd : FuncData}
end
section
variable {X : Cx} {CX : CXT} {k : Nat} {f : Addr} {fd : FuncData} {ps : List Str} {sp : Sp} {dvs : List V} {ds : List Value} {E : XK} {x : Str} {p pos : Pos} {e : Expr} {es : List Expr} {t : TA}
end
/-! ### the law is called where none is under way -/
end My
namespace My
open PySem PySem.Spec PyProof.Rows L2
/-! ### tuples: sums and slices, whatever their lengths -/
section
variable {X : Cx} {K : PySem.W.Frag}
end
theorem cutV_take (xs : List V) {i : Int} {n : Nat} (e : i = (n : Int)) : cutV xs none (some i) = xs.take n := by
  subst e
  unfold cutV
  rw [HT.sIx_none, HT.sIx_nat, List.drop_zero, Nat.sub_zero]
  by_cases h : n ≤ xs.length
  · rw [Nat.min_eq_left h]
  · rw [Nat.min_eq_right (by omega), List.take_length, List.take_of_length_le (by omega)]
theorem cutV_drop (xs : List V) {i : Int} {n : Nat} (e : i = (n : Int)) : cutV xs (some i) none = xs.drop n := by
  subst e
  unfold cutV
  rw [HT.sIx_none, HT.sIx_nat]
  by_cases h : n ≤ xs.length
  · rw [Nat.min_eq_left h, List.take_of_length_le (by rw [List.length_drop]; omega)]
  · rw [Nat.min_eq_right (by omega), Nat.sub_self, List.take_zero, List.drop_eq_nil_of_le (by omega)]
theorem Mks.cut {C : Addr} {H : Hp} {k : Nat} {ps : List V} {zs : List Q2} (m : Mks C H k ps zs) (n : Nat) : Mks C H k (ps.take n ++ ps.drop (n + 1)) (zs.take n ++ zs.drop (n + 1)) := by
  have l := m.len
  refine ⟨by simp only [List.length_append, List.length_take, List.length_drop]; omega, fun i v z h1 h2 => ?_⟩
  by_cases hi : i < n ∧ i < ps.length
  · rw [List.getElem?_append_left (by rw [List.length_take]; omega), List.getElem?_take_of_lt hi.1] at h1
    rw [List.getElem?_append_left (by rw [List.length_take]; omega), List.getElem?_take_of_lt hi.1] at h2
    exact m.all i v z h1 h2
  · rw [List.getElem?_append_right (by rw [List.length_take]; omega), List.getElem?_drop] at h1
    rw [List.getElem?_append_right (by rw [List.length_take]; omega), List.getElem?_drop] at h2
    have e : (ps.take n).length = (zs.take n).length := by rw [List.length_take, List.length_take, l]
    rw [e] at h1
    exact m.all _ v z h1 h2
/-! ### rows, as the laws draw them -/
structure RowsL (H : Hp) (p : Addr) (part : Int) (ts : List Int) : Prop where
  ob : ∃ T, H p = some (.tup [.int part, .ref T]) ∧ H T = some (.tup (ts.map V.int))
  p0 : 0 < part
  p1 : part ≤ 10007
  len0 : 0 < ts.length
  len1 : ts.length ≤ 24
  bnd : ∀ t ∈ ts, -2000000 ≤ t ∧ t ≤ 2000000
theorem RowsL.same {H H' : Hp} {p : Addr} {part : Int} {ts : List Int} (a : RowsL H p part ts) (s : Same H H') : RowsL H' p part ts := by
  obtain ⟨⟨T, h1, h2⟩, a1, a2, a3, a4, a5⟩ := a
  exact ⟨⟨T, s _ _ h1, s _ _ h2⟩, a1, a2, a3, a4, a5⟩
/-! ### tuples of whole numbers as data -/
def intsD (zs : List Int) : PyData := .tuple (zs.map PyData.int)
theorem dpI {K : PySem.W.Frag} {H : Hp} : ∀ zs : List Int, DpAll K H (zs.map V.int) (zs.map PyData.int)
  | [] => .nil
  | z :: zs => .cons (.int z) (dpI zs)
theorem dpT {K : PySem.W.Frag} {H : Hp} {p : Addr} {zs : List Int} (h : H p = some (.tup (zs.map V.int))) : Dp K H (.ref p) (intsD zs) := .tup (SqT.of h) (dpI zs)
end My
namespace My
open PySem PySem.Spec PyProof.Rows L2
/-! ### a list or a tuple, walked -/
section
variable {X : Cx} {tg : Expr}
end
/-- a def that calls itself, ahead of its own promise -/
theorem fn_never {P : Program} {w : World} {K : PySem.W.Frag} {mg : Str → Option Value} {base : Heap} {CX : CXT} {k : Nat} {f : Addr} {fd : FuncData} {ps : List Str} : FnOk P w K mg base CX k f fd ps (fun _ _ _ _ => False) :=
  ⟨fun _ _ _ _ h => h.elim, fun _ _ _ _ _ _ _ _ _ _ _ _ _ h => h.elim⟩
/-! ### fractions as pairs of whole numbers -/
def TQ (H : Hp) (v : V) (k : Nat) (z : Q2) : Prop := ∃ p, v = .ref p ∧ H p = some (.tup [.int z.1, .int z.2]) ∧ 0 < z.2 ∧ Sz k z.1 ∧ Sz k z.2
section
variable {H H' : Hp} {v : V} {k j : Nat} {z : Q2}
theorem TQ.same (a : TQ H v k z) (s : Same H H') : TQ H' v k z := by
  obtain ⟨p, h1, h2, h3⟩ := a
  exact ⟨p, h1, s _ _ h2, h3⟩
theorem TQ.nl (a : TQ H v k z) (s : Nl H H') : TQ H' v k z := by
  obtain ⟨p, h1, h2, h3⟩ := a
  exact ⟨p, h1, s _ _ h2 rfl, h3⟩
theorem TQ.kp {h : Addr} {n : Nat} (a : TQ H v k z) (hh : HandAt H h n) (s : Kp h H H') : TQ H' v k z := by
  obtain ⟨p, h1, h2, h3⟩ := a
  exact ⟨p, h1, s.get hh h2 rfl, h3⟩
theorem TQ.mono (a : TQ H v k z) (l : k ≤ j) : TQ H v j z := by
  obtain ⟨p, h1, h2, h3, h4, h5⟩ := a
  exact ⟨p, h1, h2, h3, h4.mono l, h5.mono l⟩
theorem TQ.pos (a : TQ H v k z) : 0 < z.2 := by
  obtain ⟨p, h1, h2, h3, h4, h5⟩ := a
  exact h3
theorem TQ.mk {p : Addr} {a b : Int} (h : H p = some (.tup [.int a, .int b])) (hb : 0 < b) (s1 : Sz k a) (s2 : Sz k b) : TQ H (.ref p) k (a, b) := ⟨p, rfl, h, hb, s1, s2⟩
end
structure Tqs (H : Hp) (k : Nat) (vs : List V) (zs : List Q2) : Prop where
  len : vs.length = zs.length
  all : ∀ (i : Nat) (v : V) (z : Q2), vs[i]? = some v → zs[i]? = some z → TQ H v k z
section
variable {H H' : Hp} {k j : Nat} {vs : List V} {zs : List Q2}
theorem Tqs.same (m : Tqs H k vs zs) (s : Same H H') : Tqs H' k vs zs := ⟨m.len, fun i v z h1 h2 => (m.all i v z h1 h2).same s⟩
theorem Tqs.nl (m : Tqs H k vs zs) (s : Nl H H') : Tqs H' k vs zs := ⟨m.len, fun i v z h1 h2 => (m.all i v z h1 h2).nl s⟩
theorem Tqs.kp {h : Addr} {n : Nat} (m : Tqs H k vs zs) (hh : HandAt H h n) (s : Kp h H H') : Tqs H' k vs zs := ⟨m.len, fun i v z h1 h2 => (m.all i v z h1 h2).kp hh s⟩
theorem Tqs.mono (m : Tqs H k vs zs) (l : k ≤ j) : Tqs H j vs zs := ⟨m.len, fun i v z h1 h2 => (m.all i v z h1 h2).mono l⟩
theorem Tqs.at (m : Tqs H k vs zs) {i : Nat} {z : Q2} (h : zs[i]? = some z) : ∃ v, vs[i]? = some v ∧ TQ H v k z := by
  have hi : i < vs.length := by rw [m.len]; exact (List.getElem?_eq_some_iff.mp h).1
  exact ⟨_, List.getElem?_eq_getElem hi, m.all i _ z (List.getElem?_eq_getElem hi) h⟩
theorem Tqs.of (m : Tqs H k vs zs) {i : Nat} {v : V} (h : vs[i]? = some v) : ∃ z, zs[i]? = some z ∧ TQ H v k z := by
  have hi : i < zs.length := by rw [← m.len]; exact (List.getElem?_eq_some_iff.mp h).1
  exact ⟨_, List.getElem?_eq_getElem hi, m.all i v _ h (List.getElem?_eq_getElem hi)⟩
theorem Tqs.snoc (m : Tqs H k vs zs) {v : V} {z : Q2} (t : TQ H v k z) : Tqs H k (vs ++ [v]) (zs ++ [z]) := by
  refine ⟨by rw [List.length_append, List.length_append, m.len]; rfl, fun i w y h1 h2 => ?_⟩
  by_cases hi : i < vs.length
  · rw [List.getElem?_append_left hi] at h1
    rw [List.getElem?_append_left (by rw [← m.len]; exact hi)] at h2
    exact m.all i w y h1 h2
  · have l1 := (List.getElem?_eq_some_iff.mp h1).1
    rw [List.length_append, List.length_singleton] at l1
    have e : i = vs.length := by omega
    rw [e, List.getElem?_append_right (Nat.le_refl _), Nat.sub_self] at h1
    rw [e, m.len, List.getElem?_append_right (Nat.le_refl _), Nat.sub_self] at h2
    cases h1; cases h2
    exact t
theorem Tqs.one {v : V} {z : Q2} (t : TQ H v k z) : Tqs H k [v] [z] := (⟨rfl, fun i w y h1 => by simp at h1⟩ : Tqs H k [] []).snoc t
theorem Tqs.cons (m : Tqs H k vs zs) {v : V} {z : Q2} (t : TQ H v k z) : Tqs H k (v :: vs) (z :: zs) := by
  refine ⟨by rw [List.length_cons, List.length_cons, m.len], fun i w y h1 h2 => ?_⟩
  cases i with
  | zero => cases h1; cases h2; exact t
  | succ i => exact m.all i w y (by simpa using h1) (by simpa using h2)
theorem Tqs.nil : Tqs H k [] [] := ⟨rfl, fun i w y h1 => by simp at h1⟩
theorem Mks.mono {C : Addr} {ps : List V} (m : Mks C H k ps zs) (l : k ≤ j) : Mks C H j ps zs := ⟨m.len, fun i v z h1 h2 => by
  obtain ⟨p, e, q⟩ := m.all i v z h1 h2
  exact ⟨p, e, q.mono l⟩⟩
theorem QO.mono {C : Addr} {v : V} (l : k ≤ j) : ∀ {e : Option Q2}, QO C H k v e → QO C H j v e
  | none, h => h
  | some _, ⟨p, h1, h2⟩ => ⟨p, h1, h2.mono l⟩
end
theorem leq_not {a b : Q2} : leq a b = !ltq b a := by
  unfold leq ltq eqq
  rw [← Bool.decide_or, ← decide_not]
  exact decide_eq_decide.mpr ⟨fun h => by omega, fun h => by omega⟩
theorem leq_congr {a b c d : Q2} (h : Re a c) (g : Re b d) : leq a b = leq c d := by rw [leq_not, leq_not, ltq_congr g h]
theorem span_leq (a b : Q2) : spanB (some a) (some b) = (ltq a b || eqq a b) := by
  show (!ltq b a) = leq a b
  rw [leq_not]
/-! ### what the defs of pairs promise -/
def sp_span (CM : Addr) : Sp := fun vs H Q _ => ∃ (l h : V) (k : Nat) (lo hi : Option Q2), vs = [l, h] ∧ QO CM H k l lo ∧ QO CM H k h hi ∧ k ≤ 9000 ∧ Q (.bl (spanB lo hi)) H
theorem rise_ltq {zs : List Q2} (h : RiseQ zs) (hp : ∀ z ∈ zs, 0 < z.2) : ∀ {j i : Nat} {a b : Q2}, i < j → zs[i]? = some a → zs[j]? = some b → ltq a b = true
  | 0, _, _, _, hi, _, _ => by omega
  | j + 1, i, a, b, hi, ha, hb => by
    obtain ⟨c, hc⟩ := ge2 (zs := zs) (n := j) (by have := (List.getElem?_eq_some_iff.mp hb).1; omega)
    have h1 := h j c b hc hb
    by_cases e : i = j
    · subst e
      rw [ha] at hc
      cases hc
      exact h1
    · exact ltq_trans (hp c (List.mem_of_getElem? hc)) (hp a (List.mem_of_getElem? ha)) (hp b (List.mem_of_getElem? hb)) (rise_ltq h hp (show i < j by omega) ha hc) h1
theorem Tqs.posL {H : Hp} {k : Nat} {vs : List V} {zs : List Q2} (m : Tqs H k vs zs) : ∀ z ∈ zs, 0 < z.2 := fun z hz => by
  obtain ⟨i, hi⟩ := List.mem_iff_getElem?.mp hz
  obtain ⟨v, _, t⟩ := m.at hi
  exact t.pos
/-- None, or a pair -/
def TOq (H : Hp) (k : Nat) (v : V) : Option Q2 → Prop
  | none => v = .non
  | some z => TQ H v k z
theorem TOq.same {H H' : Hp} {k : Nat} {v : V} : ∀ {e : Option Q2}, TOq H k v e → Same H H' → TOq H' k v e
  | none, h, _ => h
  | some _, h, s => TQ.same h s
theorem TOq.kp {H H' : Hp} {k n : Nat} {h : Addr} {v : V} : ∀ {e : Option Q2}, TOq H k v e → HandAt H h n → Kp h H H' → TOq H' k v e
  | none, h, _, _ => h
  | some _, h, hh, s => TQ.kp h hh s
theorem QO.nl {C : Addr} {H H' : Hp} {k : Nat} {v : V} (s : Nl H H') : ∀ {e : Option Q2}, QO C H k v e → QO C H' k v e
  | none, h => h
  | some _, ⟨p, h1, h2⟩ => ⟨p, h1, h2.nl s⟩
theorem sqt_kp {K : PySem.W.Frag} {H H' : Hp} {h a : Addr} {n : Nat} {xs : List V} (s : SqT K H a xs) (hh : HandAt H h n) (k : Kp h H H') : SqT K H' a xs := by
  rcases s with (s | ⟨o, s⟩) | s
  · exact .inl (.inl (k.get hh s rfl))
  · exact .inl (.inr ⟨o, k.get hh s rfl⟩)
  · exact .inr s
theorem LadAt.kp {K : PySem.W.Frag} {CM CL p h : Addr} {H H' : Hp} {k n : Nat} {zs : List Q2} {r : Str} {lo hi : Option Q2} (a : LadAt K CM CL H p k zs r lo hi) (hh : HandAt H h n) (s : Kp h H H') : LadAt K CM CL H' p k zs r lo hi := by
  obtain ⟨⟨dx, T, ps, l, u, h1, h2, h3, h4, h5⟩, a1, a2, a3, a4, a5⟩ := a
  exact ⟨⟨dx, T, ps, l, u, s.get hh h1 rfl, sqt_kp h2 hh s, h3.kp hh s, h4.kp hh s, h5.kp hh s⟩, a1, a2, a3, a4, a5⟩
end My
namespace My
open PySem PySem.Spec PyProof.Rows L2
/-! ### comprehensions that draw -/
theorem Kp.nlh {h : Addr} {H H' : Hp} {n : Nat} (k : Kp h H H') (hh : HandAt H h n) : Nl H H' := fun c o e no => k c o e (hh.apart e no)
theorem lck {J : It} {n : Nat} {G : Hp → Prop} {Y : Nat → Hp → V → Hp → Prop} {g : TG} {tt : TT} {te : TE} {vs : List Nat} {σ : L2.St} {H1 : Hp} {D : Addr} {Qd : Hp → Prop} {h : Addr} {c m : Nat} (w : Walk J n G Y) (hG : ∀ H, G H) (R : Nat → Hp → V → Prop) (hR : ∀ i H H' y, R i H y → Nl H H' → R i H' y) (hz : n < sizeLine) (hh : HandAt H1 h m) (hD : H1 D = none)
    (hs : ∀ (i : Nat) (x : V) (H H' : Hp) (N : VK) (M : Hp → Prop), i < n → Kp h H1 H → HandAt H h (m + c * i) → Y i H x H' → (∀ y H4, Kp h H H4 → HandAt H4 h (m + c * (i + 1)) → R i H4 y → N y H4) →
      g x (wipe σ vs) H' fun σ2 H2 => wipe σ2 vs = wipe σ vs ∧ tt σ2 H2 fun b H3 => if b = true then te σ2 H3 N else M H3)
    (hd : ∀ H ys, Kp h H1 H → HandAt H h (m + c * n) → H D = some (.lst ys) → ys.length = n → (∀ i y, ys[i]? = some y → R i H y) → Qd H) :
    ∃ W : Nat → Nat → Hp → Prop, (∃ m, W 0 m (upd H1 D (.lst []))) ∧ ∀ i m H, W i m H →
      (J.stop i H ∧ Qd H) ∨ (J.go i H ∧ ∃ Nx : Hp → Prop, (∀ H', Nx H' → ∃ m', m' < m ∧ W (i + 1) m' H') ∧ ∀ x H', J.yld i H x H' → g x (wipe σ vs) H' fun σ2 H2 => wipe σ2 vs = wipe σ vs ∧ tt σ2 H2 fun b H3 =>
        if b = true then te σ2 H3 fun y H4 => ∃ acc, H4 D = some (.lst acc) ∧ acc.length < sizeLine ∧ Nx (upd H4 D (.lst (acc ++ [y]))) else Nx H3) := by
  have nDh : D ≠ h := hh.ne hD
  refine lc_it w (fun i H => Kp h H1 H ∧ HandAt H h (m + c * i) ∧ ∃ ys, H D = some (.lst ys) ∧ ys.length = i ∧ ∀ j y, ys[j]? = some y → R j H y) ⟨(Kp.refl _ _).up hD, hh.up hD, [], upd_same, rfl, fun j y hy => by simp at hy⟩ (fun i H _ p => hG _) (fun i x H H' hi p y => ?_) (fun H p => ?_)
  · obtain ⟨s1, hhi, ys, h1, h2, h3⟩ := p
    refine hs i x H H' _ _ hi s1 hhi y (fun v H4 s4 hh4 r4 => ⟨ys, s4 _ _ h1 nDh, by omega, ?_, hh4.put nDh, ys ++ [v], upd_same, by rw [List.length_append, h2]; rfl, ?_⟩)
    · exact (s1.trans s4).putN hD
    · intro j z hj
      have n4 : Nl H4 (upd H4 D (.lst (ys ++ [v]))) := Nl.put (s4 _ _ h1 nDh)
      by_cases hlt : j < ys.length
      · rw [List.getElem?_append_left hlt] at hj
        exact hR _ _ _ _ (hR _ _ _ _ (h3 j z hj) (s4.nlh hhi)) n4
      · have hj2 : j = ys.length := by
          have := (List.getElem?_eq_some_iff.mp hj).1
          rw [List.length_append, List.length_singleton] at this
          omega
        subst hj2
        rw [List.getElem?_append_right (Nat.le_refl _), Nat.sub_self] at hj
        cases hj
        rw [h2]
        exact hR _ _ _ _ r4 n4
  · obtain ⟨s1, hhi, ys, h1, h2, h3⟩ := p
    exact hd H ys s1 hhi h1 h2 h3
/-! ### things that are the same, one within another -/
def AtomV (x : V) : Prop := (∃ z : Int, x = .int z) ∨ (∃ s : Str, x = .str s) ∨ x = .non ∨ ∃ b : Bool, x = .bl b
def SameV (K : PySem.W.Frag) (H : Hp) : Nat → V → V → Prop
  | 0, x, y => x = y ∧ AtomV x
  | n + 1, x, y => (x = y ∧ AtomV x) ∨ ∃ p q xs ys, x = .ref p ∧ y = .ref q ∧ SqT K H p xs ∧ SqT K H q ys ∧ xs.length = ys.length ∧ xs.length ≤ 900 ∧ ∀ (i : Nat) (a b : V), xs[i]? = some a → ys[i]? = some b → SameV K H n a b
theorem SameV.same {K : PySem.W.Frag} {H H' : Hp} (s : Same H H') : ∀ {n : Nat} {x y : V}, SameV K H n x y → SameV K H' n x y
  | 0, _, _, h => h
  | n + 1, _, _, .inl h => .inl h
  | n + 1, _, _, .inr ⟨p, q, xs, ys, h1, h2, h3, h4, h5, h6, h7⟩ => .inr ⟨p, q, xs, ys, h1, h2, s.sqt h3, s.sqt h4, h5, h6, fun i a b ha hb => SameV.same s (h7 i a b ha hb)⟩
theorem SameV.atom {K : PySem.W.Frag} {H : Hp} {x : V} (a : AtomV x) : ∀ n, SameV K H n x x
  | 0 => ⟨rfl, a⟩
  | _ + 1 => .inl ⟨rfl, a⟩
theorem SameV.ints {K : PySem.W.Frag} {H : Hp} {p q : Addr} {ss : List Int} (n : Nat) (hp : SqT K H p (ss.map V.int)) (hq : SqT K H q (ss.map V.int)) (l : ss.length ≤ 900) : SameV K H (n + 1) (.ref p) (.ref q) :=
  .inr ⟨p, q, _, _, rfl, rfl, hp, hq, rfl, by rw [List.length_map]; exact l, fun i a b ha hb => by
    rw [ha] at hb
    cases hb
    obtain ⟨s, _, rfl⟩ := List.mem_map.mp (List.mem_of_getElem? ha)
    exact SameV.atom (.inl ⟨s, rfl⟩) n⟩
/-! ### a Grid -/
def gf (a b c : V) : List (Str × V) := [("lengths", a), ("breadths", b), ("grade", c)]
section
variable (a b c : V)
end
/-- a ladder, whatever its rule and ends -/
def LadE (K : PySem.W.Frag) (CM CL : Addr) (H : Hp) (p : Addr) (k : Nat) (zs : List Q2) : Prop := ∃ r lo hi, LadAt K CM CL H p k zs r lo hi
structure GrdAt (K : PySem.W.Frag) (CM CL CG : Addr) (H : Hp) (p : Addr) (k : Nat) (L1 L2 : Addr) (g : Q2) : Prop where
  ob : ∃ dx q, H p = some (.ins CG dx (gf (.ref L1) (.ref L2) (.ref q))) ∧ QAt CM H q k g
theorem GrdAt.same {K : PySem.W.Frag} {CM CL CG : Addr} {H H' : Hp} {p : Addr} {k : Nat} {L1 L2 : Addr} {g : Q2} (a : GrdAt K CM CL CG H p k L1 L2 g) (s : Same H H') : GrdAt K CM CL CG H' p k L1 L2 g := by
  obtain ⟨dx, q, h1, h2⟩ := a.ob
  exact ⟨dx, q, s _ _ h1, h2.same s⟩
theorem GrdAt.kp {K : PySem.W.Frag} {CM CL CG : Addr} {H H' : Hp} {p h : Addr} {k n : Nat} {L1 L2 : Addr} {g : Q2} (a : GrdAt K CM CL CG H p k L1 L2 g) (hh : HandAt H h n) (s : Kp h H H') : GrdAt K CM CL CG H' p k L1 L2 g := by
  obtain ⟨dx, q, h1, h2⟩ := a.ob
  exact ⟨dx, q, s.get hh h1 rfl, h2.kp hh s⟩
/-! ### the laws' sides of a grid -/
structure SidesAt (H : Hp) (h p : Addr) (k : Nat) (zs ys : List Q2) (g : Q2) : Prop where
  ob : ∃ l1 l2 v us ws, H p = some (.lst [.ref l1, .ref l2, v]) ∧ H l1 = some (.lst us) ∧ H l2 = some (.lst ws) ∧ Tqs H k us zs ∧ Tqs H k ws ys ∧ TQ H v 20 g ∧ p ≠ h ∧ l1 ≠ h ∧ l2 ≠ h
  l0 : 0 < zs.length
  l1 : zs.length ≤ 8
  m0 : 0 < ys.length
  m1 : ys.length ≤ 8
theorem SidesAt.same {H H' : Hp} {h p : Addr} {k : Nat} {zs ys : List Q2} {g : Q2} (a : SidesAt H h p k zs ys g) (s : Same H H') : SidesAt H' h p k zs ys g := by
  obtain ⟨⟨l1, l2, v, us, ws, a1, a2, a3, a4, a5, a6, a7⟩, b1, b2, b3, b4⟩ := a
  exact ⟨⟨l1, l2, v, us, ws, s _ _ a1, s _ _ a2, s _ _ a3, a4.same s, a5.same s, a6.same s, a7⟩, b1, b2, b3, b4⟩
theorem SidesAt.kp {H H' : Hp} {h p : Addr} {k n : Nat} {zs ys : List Q2} {g : Q2} (a : SidesAt H h p k zs ys g) (hh : HandAt H h n) (s : Kp h H H') : SidesAt H' h p k zs ys g := by
  obtain ⟨⟨l1, l2, v, us, ws, a1, a2, a3, a4, a5, a6, a7, a8, a9⟩, b1, b2, b3, b4⟩ := a
  exact ⟨⟨l1, l2, v, us, ws, s _ _ a1 a7, s _ _ a2 a8, s _ _ a3 a9, a4.kp hh s, a5.kp hh s, a6.kp hh s, a7, a8, a9⟩, b1, b2, b3, b4⟩
theorem sqt_nl {K : PySem.W.Frag} {H H' : Hp} {a : Addr} {xs : List V} (s : SqT K H a xs) (k : Nl H H') : SqT K H' a xs := by
  rcases s with (s | ⟨o, s⟩) | s
  · exact .inl (.inl (k _ _ s rfl))
  · exact .inl (.inr ⟨o, k _ _ s rfl⟩)
  · exact .inr s
end My
namespace My
open PySem PySem.Spec PyProof.Rows L2
/-! ### sizes by fractions -/
/-- f holds of the first ones alone -/
def DownQ (f : Q2 → Bool) (zs : List Q2) : Prop := ∀ (i j : Nat) (a b : Q2), i < j → zs[i]? = some a → zs[j]? = some b → f b = true → f a = true
theorem DownQ.tail {f : Q2 → Bool} {x : Q2} {zs : List Q2} (h : DownQ f (x :: zs)) : DownQ f zs := fun i j a b hij ha hb hf => h (i + 1) (j + 1) a b (by omega) (by simpa using ha) (by simpa using hb) hf
theorem cntQ (f : Q2 → Bool) : ∀ {zs : List Q2}, DownQ f zs → ∀ (k : Nat) (a : Q2), zs[k]? = some a → (f a = true ↔ k < zs.countP f)
  | [], _, k, a, h => by simp at h
  | x :: zs, hd, k, a, h => by
    rw [List.countP_cons]
    cases e : f x with
    | true =>
      rw [if_pos rfl]
      cases k with
      | zero =>
        have : x = a := by simpa using h
        subst this
        simp [e]
      | succ k =>
        have := cntQ f hd.tail k a (by simpa using h)
        rw [this]
        omega
    | false =>
      rw [if_neg (by simp)]
      have z0 : zs.countP f = 0 := by
        rw [List.countP_eq_zero]
        intro y hy q
        obtain ⟨n, hn⟩ := List.mem_iff_getElem?.mp hy
        have := hd 0 (n + 1) x y (by omega) rfl (by simpa using hn) q
        rw [e] at this
        cases this
      rw [z0]
      have fa : f a = false := by
        cases k with
        | zero =>
          have : x = a := by simpa using h
          rw [← this]; exact e
        | succ k =>
          cases q : f a with
          | false => rfl
          | true =>
            have := hd 0 (k + 1) x a (by omega) rfl h q
            rw [e] at this
            cases this
      rw [fa]
      simp
theorem down_lt {zs : List Q2} {x : Q2} (h : RiseQ zs) (hp : ∀ z ∈ zs, 0 < z.2) (hx : 0 < x.2) : DownQ (fun a => ltq a x) zs := fun i j a b hij ha hb hf =>
  ltq_trans (hp b (List.mem_of_getElem? hb)) (hp a (List.mem_of_getElem? ha)) hx (rise_ltq h hp hij ha hb) hf
theorem leq_trans_lt {a b c : Q2} (ha : 0 < a.2) (hb : 0 < b.2) (hc : 0 < c.2) (h : ltq a b = true) (g : leq b c = true) : leq a c = true := by
  rw [leq_not] at g ⊢
  have g' : ltq c b = false := by simpa using g
  cases e : ltq c a with
  | false => rfl
  | true =>
    rw [ltq_trans ha hc hb e h] at g'
    cases g'
theorem down_le {zs : List Q2} {x : Q2} (h : RiseQ zs) (hp : ∀ z ∈ zs, 0 < z.2) (hx : 0 < x.2) : DownQ (fun a => leq a x) zs := fun i j a b hij ha hb hf =>
  leq_trans_lt (hp a (List.mem_of_getElem? ha)) (hp b (List.mem_of_getElem? hb)) hx (rise_ltq h hp hij ha hb) hf
section
variable {zs : List Q2} {r : Str} {lo hi : Option Q2} {x : Q2}
end
end My
namespace My
open PySem PySem.Spec PyProof.Rows L2
/-! ### what stood ahead, wanted at a later heap: the step first -/
section
variable {K : PySem.W.Frag} {C CM CL CG p q h a L1 L2 : Addr} {H H' H1 : Hp} {v : V} {k j n : Nat} {z : Q2} {vs : List V} {zs ys : List Q2} {o : HO} {e : Option Q2} {r : Str} {lo hi : Option Q2}
theorem TQ.s (s : Same H H') (t : TQ H v k z) : TQ H' v k z := t.same s
theorem TQ.nq (s : Nl H H') (t : TQ H v k z) : TQ H' v k z := t.nl s
theorem Tqs.s (s : Same H H') (t : Tqs H k vs zs) : Tqs H' k vs zs := t.same s
theorem QAt.s (s : Same H H') (t : QAt C H p k z) : QAt C H' p k z := t.same s
theorem Mks.s (s : Same H H') (t : Mks C H k vs zs) : Mks C H' k vs zs := t.same s
theorem QO.s (s : Same H H') (t : QO C H k v e) : QO C H' k v e := t.same s
theorem TOq.s (s : Same H H') (t : TOq H k v e) : TOq H' k v e := t.same s
theorem TOq.mono (l : k ≤ j) : ∀ {e : Option Q2}, TOq H k v e → TOq H j v e
  | none, h => h
  | some _, h => TQ.mono h l
theorem LadAt.s (s : Same H H') (t : LadAt K CM CL H p k zs r lo hi) : LadAt K CM CL H' p k zs r lo hi := t.same s
theorem LadAt.mono (t : LadAt K CM CL H p k zs r lo hi) (l : k ≤ j) : LadAt K CM CL H p j zs r lo hi := by
  obtain ⟨⟨dx, T, ps, u, w, h1, h2, h3, h4, h5⟩, a1, a2, a3, a4, a5⟩ := t
  exact ⟨⟨dx, T, ps, u, w, h1, h2, h3.mono l, h4.mono l, h5.mono l⟩, a1, a2, a3, a4, a5⟩
theorem GrdAt.s (s : Same H H') (t : GrdAt K CM CL CG H p k L1 L2 z) : GrdAt K CM CL CG H' p k L1 L2 z := t.same s
theorem SidesAt.s (s : Same H H') (t : SidesAt H h p k zs ys z) : SidesAt H' h p k zs ys z := t.same s
theorem HandAt.s (s : Same H H') (t : HandAt H h n) : HandAt H' h n := t.same s
theorem TQ.u {u : HO} {b : Addr} (np : H b = none) (t : TQ H v k z) : TQ (upd H b u) v k z := t.same (same1 np)
theorem Tqs.u {u : HO} {b : Addr} (np : H b = none) (t : Tqs H k vs zs) : Tqs (upd H b u) k vs zs := t.same (same1 np)
theorem QAt.u {u : HO} {b : Addr} (np : H b = none) (t : QAt C H p k z) : QAt C (upd H b u) p k z := t.same (same1 np)
theorem Mks.u {u : HO} {b : Addr} (np : H b = none) (t : Mks C H k vs zs) : Mks C (upd H b u) k vs zs := t.same (same1 np)
theorem QO.u {u : HO} {b : Addr} (np : H b = none) (t : QO C H k v e) : QO C (upd H b u) k v e := t.same (same1 np)
theorem TOq.u {u : HO} {b : Addr} (np : H b = none) (t : TOq H k v e) : TOq (upd H b u) k v e := t.same (same1 np)
theorem LadAt.u {u : HO} {b : Addr} (np : H b = none) (t : LadAt K CM CL H p k zs r lo hi) : LadAt K CM CL (upd H b u) p k zs r lo hi := t.same (same1 np)
theorem GrdAt.u {u : HO} {b : Addr} (np : H b = none) (t : GrdAt K CM CL CG H p k L1 L2 z) : GrdAt K CM CL CG (upd H b u) p k L1 L2 z := t.same (same1 np)
theorem SidesAt.u {u : HO} {b : Addr} (np : H b = none) (t : SidesAt H h p k zs ys z) : SidesAt (upd H b u) h p k zs ys z := t.same (same1 np)
theorem HandAt.u {u : HO} {b : Addr} (np : H b = none) (t : HandAt H h n) : HandAt (upd H b u) h n := t.same (same1 np)
end
/-- each of these values is a fraction -/
def AllTQ (H : Hp) (k : Nat) (vs : List V) : Prop := ∀ x ∈ vs, ∃ z, TQ H x k z
theorem AllTQ.nil {H : Hp} {k : Nat} : AllTQ H k [] := fun x hx => by simp at hx
theorem AllTQ.cons {H : Hp} {k : Nat} {v : V} {z : Q2} {vs : List V} (t : TQ H v k z) (m : AllTQ H k vs) : AllTQ H k (v :: vs) := fun x hx => by
  rcases List.mem_cons.mp hx with e | e
  · rw [e]; exact ⟨z, t⟩
  · exact m x e
/-! ### a rule, a least and a most, as the laws draw them in fractions -/
structure ChartAt (H : Hp) (T : Addr) (k : Nat) (r : Str) (lo hi : Option Q2) : Prop where
  ob : ∃ u w, H T = some (.tup [.str r, u, w]) ∧ TOq H k u lo ∧ TOq H k w hi
  rule : IsRule r
  span : spanB lo hi = true
section
variable {H H' : Hp} {T h : Addr} {k n : Nat} {r : Str} {lo hi : Option Q2}
theorem ChartAt.same (c : ChartAt H T k r lo hi) (s : Same H H') : ChartAt H' T k r lo hi := by
  obtain ⟨⟨u, w, h1, h2, h3⟩, h4, h5⟩ := c
  exact ⟨⟨u, w, s _ _ h1, h2.same s, h3.same s⟩, h4, h5⟩
theorem ChartAt.kp (c : ChartAt H T k r lo hi) (hh : HandAt H h n) (s : Kp h H H') : ChartAt H' T k r lo hi := by
  obtain ⟨⟨u, w, h1, h2, h3⟩, h4, h5⟩ := c
  exact ⟨⟨u, w, s.get hh h1 rfl, h2.kp hh s, h3.kp hh s⟩, h4, h5⟩
theorem ChartAt.u {u : HO} {b : Addr} (np : H b = none) (c : ChartAt H T k r lo hi) : ChartAt (upd H b u) T k r lo hi := c.same (same1 np)
theorem ChartAt.s (s : Same H H') (c : ChartAt H T k r lo hi) : ChartAt H' T k r lo hi := c.same s
end
def PosE (o : Option Q2) : Prop := ∀ a, o = some a → 0 < a.2
theorem midq_pos : ∀ {zs : List Q2}, (∀ z ∈ zs, 0 < z.2) → ∀ z ∈ midq zs, 0 < z.2
  | [], _, z, hz => by simp [midq] at hz
  | [_], _, z, hz => by simp [midq] at hz
  | a :: b :: r, hp, z, hz => by
    have hz' : z ∈ qhalf a b :: midq (b :: r) := hz
    rcases List.mem_cons.mp hz' with e | e
    · rw [e, qhalf_eq]
      have := hp a (by simp)
      have := hp b (by simp)
      have := Int.mul_pos (hp a (by simp)) (hp b (by simp))
      show 0 < a.2 * b.2 * 2
      omega
    · exact midq_pos (fun y hy => hp y (by simp [hy])) z e
theorem inO_congr {lo hi : Option Q2} {x x' : Q2} (hl : PosE lo) (hh : PosE hi) (h : Re x x') : inO lo hi x = inO lo hi x' := by
  have e1 : loOk lo x = loOk lo x' := by
    cases lo with
    | none => rfl
    | some a =>
      show (!ltq x a) = (!ltq x' a)
      rw [ltq_congr h (Re.refl (hl a rfl))]
  have e2 : hiOk hi x = hiOk hi x' := by
    cases hi with
    | none => rfl
    | some a =>
      show (!ltq a x) = (!ltq a x')
      rw [ltq_congr (Re.refl (hh a rfl)) h]
  unfold inO
  rw [e1, e2]
theorem sizeQ_congr {zs : List Q2} {r : Str} {lo hi : Option Q2} {x x' : Q2} (hp : ∀ z ∈ zs, 0 < z.2) (hl : PosE lo) (hh : PosE hi) (h : Re x x') : sizeQ zs r lo hi x = sizeQ zs r lo hi x' := by
  have e1 := inO_congr hl hh h
  have e2 : sizeR zs r x = sizeR zs r x' := by
    have c1 : zs.countP (fun a => ltq a x) = zs.countP (fun a => ltq a x') := List.countP_congr fun a ha => by rw [ltq_congr (Re.refl (hp a ha)) h]
    have c2 : zs.countP (fun a => leq a x) = zs.countP (fun a => leq a x') := List.countP_congr fun a ha => by rw [leq_congr (Re.refl (hp a ha)) h]
    have c3 : (midq zs).countP (fun a => leq a x) = (midq zs).countP (fun a => leq a x') := List.countP_congr fun a ha => by rw [leq_congr (Re.refl (midq_pos hp a ha)) h]
    unfold sizeR
    rw [c1, c2, c3]
  unfold sizeQ
  rw [e1, e2]
theorem sizeQ_lt {zs : List Q2} {r : Str} {lo hi : Option Q2} {x : Q2} {i : Nat} (h : sizeQ zs r lo hi x = some i) : i < zs.length := by
  unfold sizeQ at h
  split at h
  · split at h
    · rename_i c
      have e := Option.some.inj h
      omega
    · cases h
  · cases h
/-- a pair of sizes, or None -/
def OwnV (H : Hp) (v : V) : Option (Nat × Nat) → Prop
  | none => v = .non
  | some x => ∃ T, v = .ref T ∧ H T = some (.tup [.int (x.1 : Int), .int (x.2 : Int)])
theorem OwnV.s {H H' : Hp} {v : V} (s : Same H H') : ∀ {o : Option (Nat × Nat)}, OwnV H v o → OwnV H' v o
  | none, h => h
  | some _, ⟨T, h1, h2⟩ => ⟨T, h1, s _ _ h2⟩
theorem OwnV.alike {K : PySem.W.Frag} {H : Hp} {v w : V} : ∀ {o : Option (Nat × Nat)}, OwnV H v o → OwnV H w o → SameV K H 1 v w
  | none, h, g => by
    cases h; cases g
    exact SameV.atom (.inr (.inr (.inl rfl))) 1
  | some x, ⟨T, h1, h2⟩, ⟨T', g1, g2⟩ => by
    subst h1 g1
    exact SameV.ints (ss := [(x.1 : Int), (x.2 : Int)]) 0 (SqT.of h2) (SqT.of g2) (Nat.le_of_ble_eq_true rfl)
/-! ### the numbers of the marks, first and last -/
end My
namespace My
open PySem PySem.Spec PyProof.Rows L2
/-! ### cuts of three stretches -/
theorem lt_w {x y w : Int} (hw : 0 < w) : x < y ↔ x * w < y * w := ⟨fun h => Int.mul_lt_mul_of_pos_right h hw, fun h => Int.lt_of_mul_lt_mul_right h (Int.le_of_lt hw)⟩
theorem eq_w {x y w : Int} (hw : 0 < w) : x = y ↔ x * w = y * w := ⟨fun h => by rw [h], fun h => Int.eq_of_mul_eq_mul_right (by omega) h⟩
/-- three fractions by three whole numbers -/
structure Ord3 (a b c : Q2) (A B C : Int) : Prop where
  ab : ltq a b = decide (A < B)
  ba : ltq b a = decide (B < A)
  eab : eqq a b = decide (A = B)
  eba : eqq b a = decide (B = A)
  bc : ltq b c = decide (B < C)
  cb : ltq c b = decide (C < B)
  ebc : eqq b c = decide (B = C)
  ecb : eqq c b = decide (C = B)
  ac : ltq a c = decide (A < C)
  ca : ltq c a = decide (C < A)
  eac : eqq a c = decide (A = C)
  eca : eqq c a = decide (C = A)
theorem ltw {a b : Q2} {w : Int} (hw : 0 < w) {A B : Int} (h1 : A = a.1 * b.2 * w) (h2 : B = b.1 * a.2 * w) : ltq a b = decide (A < B) := by
  unfold ltq; rw [h1, h2]; exact decide_eq_decide.mpr (lt_w hw)
theorem eqw {a b : Q2} {w : Int} (hw : 0 < w) {A B : Int} (h1 : A = a.1 * b.2 * w) (h2 : B = b.1 * a.2 * w) : eqq a b = decide (A = B) := by
  unfold eqq; rw [h1, h2]; exact decide_eq_decide.mpr (eq_w hw)
theorem ord3 {a b c : Q2} (ha : 0 < a.2) (hb : 0 < b.2) (hc : 0 < c.2) : Ord3 a b c (a.1 * b.2 * c.2) (b.1 * a.2 * c.2) (c.1 * a.2 * b.2) := by
  have z1 : b.1 * a.2 * c.2 = b.1 * c.2 * a.2 := by rw [Int.mul_assoc, Int.mul_comm a.2, Int.mul_assoc]
  have z2 : c.1 * a.2 * b.2 = c.1 * b.2 * a.2 := by rw [Int.mul_assoc, Int.mul_comm a.2, Int.mul_assoc]
  have z3 : a.1 * b.2 * c.2 = a.1 * c.2 * b.2 := by rw [Int.mul_assoc, Int.mul_comm b.2, Int.mul_assoc]
  exact ⟨ltw hc rfl rfl, ltw hc rfl rfl, eqw hc rfl rfl, eqw hc rfl rfl, ltw ha z1 z2, ltw ha z2 z1, eqw ha z1 z2, eqw ha z2 z1, ltw hb z3 rfl, ltw hb rfl z3, eqw hb z3 rfl, eqw hb rfl z3⟩
theorem Alike.of {x y : Q2} {i j : Bool} (h : Re x y) (e : i = j) : Alike (some x, i) (some y, j) := ⟨h, fun _ => e⟩
theorem Alike.refl {x : Option Q2 × Bool} (h : PosO x.1) : Alike x x := ⟨ReO.refl h, fun _ => rfl⟩
theorem Alike.symm {x y : Option Q2 × Bool} (h : Alike x y) : Alike y x := ⟨h.1.symm, fun e => (h.2 (by rw [h.1.isS]; exact e)).symm⟩

theorem cutLo_pos {a b : Option Q2} {i j : Bool} (ha : PosO a) (hb : PosO b) : PosO (cutLo a i b j).1 := by
  cases a with
  | none => exact hb
  | some a => cases b with
    | none => exact ha
    | some b =>
      show PosO (if ltq a b then (some b, j) else if eqq a b then (some a, i && j) else (some a, i)).1
      split
      · exact hb
      · split <;> exact ha
theorem cutHi_pos {a b : Option Q2} {i j : Bool} (ha : PosO a) (hb : PosO b) : PosO (cutHi a i b j).1 := by
  cases a with
  | none => exact hb
  | some a => cases b with
    | none => exact ha
    | some b =>
      show PosO (if ltq b a then (some b, j) else if eqq a b then (some a, i && j) else (some a, i)).1
      split
      · exact hb
      · split <;> exact ha
theorem in_some {lo hi : Option Q2} {li hj : Bool} {x : Q2} (h1 : PosO lo) (h2 : PosO hi) (hx : 0 < x.2) (a : loIn lo li x = true) (b : hiIn hi hj x = true) : someB lo hi li hj = true := by
  cases lo with
  | none => rfl
  | some l =>
    cases hi with
    | none => rfl
    | some h =>
      have o := ord3 (a := l) (b := h) (c := x) h1 h2 hx
      revert o
      generalize l.1 * h.2 * x.2 = A
      generalize h.1 * l.2 * x.2 = B
      generalize x.1 * l.2 * h.2 = C
      intro o
      have a : (ltq l x || (li && eqq l x)) = true := a
      have b : (ltq x h || (hj && eqq x h)) = true := b
      show (ltq l h || (eqq l h && li && hj)) = true
      rw [o.ac, o.eac] at a
      rw [o.cb, o.ecb] at b
      rw [o.ab, o.eab]
      simp only [Bool.or_eq_true, Bool.and_eq_true, decide_eq_true_eq] at a b ⊢
      rcases a with a | ⟨a1, a2⟩ <;> rcases b with b | ⟨b1, b2⟩
      · exact .inl (by omega)
      · exact .inl (by omega)
      · exact .inl (by omega)
      · exact .inr ⟨⟨by omega, a1⟩, b1⟩
theorem some_in {lo hi : Option Q2} {li hj : Bool} (h1 : PosO lo) (h2 : PosO hi) (h : someB lo hi li hj = true) : ∃ x : Q2, 0 < x.2 ∧ loIn lo li x = true ∧ hiIn hi hj x = true := by
  cases lo with
  | none =>
    cases hi with
    | none => exact ⟨(0, 1), by decide, rfl, rfl⟩
    | some b =>
      have h2 : 0 < b.2 := h2
      refine ⟨(b.1 - b.2, b.2), h2, rfl, ?_⟩
      show (ltq (b.1 - b.2, b.2) b || (hj && eqq (b.1 - b.2, b.2) b)) = true
      have : ltq (b.1 - b.2, b.2) b = true := by
        unfold ltq
        exact decide_eq_true ((lt_w h2).mp (by omega))
      rw [this]; rfl
  | some a =>
    have h1 : 0 < a.2 := h1
    cases hi with
    | none =>
      refine ⟨(a.1 + a.2, a.2), h1, ?_, rfl⟩
      show (ltq a (a.1 + a.2, a.2) || (li && eqq a (a.1 + a.2, a.2))) = true
      have : ltq a (a.1 + a.2, a.2) = true := by
        unfold ltq
        exact decide_eq_true ((lt_w h1).mp (by omega))
      rw [this]; rfl
    | some b =>
      have h2 : 0 < b.2 := h2
      have h : (ltq a b || (eqq a b && li && hj)) = true := h
      simp only [Bool.or_eq_true, Bool.and_eq_true] at h
      rcases h with h | ⟨⟨h, e1⟩, e2⟩
      · have h0 : a.1 * b.2 < b.1 * a.2 := of_decide_eq_true h
        have p2 : 0 < a.2 * b.2 := Int.mul_pos h1 h2
        refine ⟨(a.1 * b.2 + b.1 * a.2, 2 * (a.2 * b.2)), by show 0 < 2 * (a.2 * b.2); omega, ?_, ?_⟩
        · show (ltq a _ || (li && eqq a _)) = true
          have : ltq a (a.1 * b.2 + b.1 * a.2, 2 * (a.2 * b.2)) = true := by
            unfold ltq
            refine decide_eq_true ?_
            show a.1 * (2 * (a.2 * b.2)) < (a.1 * b.2 + b.1 * a.2) * a.2
            have e1 : a.1 * (2 * (a.2 * b.2)) = (2 * (a.1 * b.2)) * a.2 := by grind
            rw [e1]
            exact (lt_w h1).mp (by omega)
          rw [this]; rfl
        · show (ltq _ b || (hj && eqq _ b)) = true
          have : ltq (a.1 * b.2 + b.1 * a.2, 2 * (a.2 * b.2)) b = true := by
            unfold ltq
            refine decide_eq_true ?_
            show (a.1 * b.2 + b.1 * a.2) * b.2 < b.1 * (2 * (a.2 * b.2))
            have e1 : b.1 * (2 * (a.2 * b.2)) = (2 * (b.1 * a.2)) * b.2 := by grind
            rw [e1]
            exact (lt_w h2).mp (by omega)
          rw [this]; rfl
      · refine ⟨a, h1, ?_, ?_⟩
        · show (ltq a a || (li && eqq a a)) = true
          rw [e1, eqq_self]; simp
        · show (ltq a b || (hj && eqq a b)) = true
          rw [e2, h]; simp
/-- a Measure whose numbers are not too great -/
def PtM (CM : Addr) (H : Hp) (y : V) : Prop := ∃ (q : Addr) (x : Q2), y = .ref q ∧ MAt CM H q x.1 x.2 ∧ 0 < x.2 ∧ Sz 20000 x.1 ∧ Sz 20000 x.2
theorem PtM.nl {CM : Addr} {H H' : Hp} {y : V} (h : PtM CM H y) (s : Nl H H') : PtM CM H' y := by
  obtain ⟨q, x, e, ⟨d, m⟩, r⟩ := h
  exact ⟨q, x, e, ⟨d, s _ _ m rfl⟩, r⟩
theorem PtM.same {CM : Addr} {H H' : Hp} {y : V} (h : PtM CM H y) (s : Same H H') : PtM CM H' y := h.nl (Nl.of s)
end My
namespace My
open PySem PySem.Spec PyProof.Rows L2
/-! ### which measures a size's stretch holds -/
theorem loIn_t (a x : Q2) : loIn (some a) true x = leq a x := by
  show (ltq a x || (true && eqq a x)) = (ltq a x || eqq a x)
  rw [Bool.true_and]
theorem loIn_f (a x : Q2) : loIn (some a) false x = ltq a x := by
  show (ltq a x || (false && eqq a x)) = ltq a x
  rw [Bool.false_and, Bool.or_false]
theorem hiIn_t (a x : Q2) : hiIn (some a) true x = !ltq a x := by
  show (ltq x a || (true && eqq x a)) = _
  rw [Bool.true_and]
  exact leq_not
theorem hiIn_f (a x : Q2) : hiIn (some a) false x = !leq a x := by
  show (ltq x a || (false && eqq x a)) = _
  rw [Bool.false_and, Bool.or_false, leq_not (a := a), Bool.not_not]
/-- what comes to a size by the rule alone -/
def rulIn (zs : List Q2) (r : Str) (n : Nat) (x : Q2) : Bool := loIn (rulE zs r n).1.1 (rulE zs r n).1.2 x && hiIn (rulE zs r n).2.1 (rulE zs r n).2.2 x
theorem rul_in {zs : List Q2} {r : Str} {n : Nat} {x : Q2} (hr : RiseQ zs) (hp : PosL zs) (hx : 0 < x.2) (hn : n < zs.length) : rulIn zs r n x = true ↔ sizeR zs r x = (n : Int) := by
  unfold rulIn rulE sizeR
  by_cases e1 : r = "up"
  · rw [if_pos e1, if_pos e1]
    obtain ⟨a, ha⟩ := ge2 hn
    have c := cntQ (fun a => ltq a x) (down_lt hr hp hx)
    have ca := c n a ha
    show (loIn (endQ zs ((n : Int) - 1)) false x && hiIn zs[n]? true x) = true ↔ _
    rw [ha, hiIn_t]
    cases n with
    | zero =>
      rw [endQ_none (by omega)]
      show (true && !ltq a x) = true ↔ _
      cases e : ltq a x <;> simp [e] at ca ⊢ <;> omega
    | succ n =>
      obtain ⟨b, hb⟩ := ge2 (zs := zs) (n := n) (by omega)
      have cb := c n b hb
      rw [endQ_in (n := n) (by omega), hb, loIn_f]
      cases e : ltq a x <;> cases e2 : ltq b x <;> simp [e, e2] at ca cb ⊢ <;> omega
  · rw [if_neg e1, if_neg e1]
    by_cases e2 : r = "down"
    · rw [if_pos e2, if_pos e2]
      obtain ⟨a, ha⟩ := ge2 hn
      have c := cntQ (fun a => leq a x) (down_le hr hp hx)
      have ca := c n a ha
      have cl : zs.countP (fun a => leq a x) ≤ zs.length := List.countP_le_length
      show (loIn zs[n]? true x && hiIn (endQ zs ((n : Int) + 1)) false x) = true ↔ _
      rw [ha, loIn_t, endQ_in (n := n + 1) (by omega)]
      cases hb : zs[n + 1]? with
      | none =>
        have := List.getElem?_eq_none_iff.mp hb
        show (leq a x && true) = true ↔ _
        cases e : leq a x <;> simp [e] at ca ⊢ <;> omega
      | some b =>
        have cb := c (n + 1) b hb
        rw [hiIn_f]
        cases e : leq a x <;> cases e3 : leq b x <;> simp [e, e3] at ca cb ⊢ <;> omega
    · rw [if_neg e2, if_neg e2]
      have hm := midq_rise hr hp
      have hpm : PosL (midq zs) := midq_pos hp
      have c := cntQ (fun a => leq a x) (down_le hm hpm hx)
      have cl : (midq zs).countP (fun a => leq a x) ≤ (midq zs).length := List.countP_le_length
      have ml := midq_len zs
      show (loIn (endQ (midq zs) ((n : Int) - 1)) true x && hiIn (endQ (midq zs) n) false x) = true ↔ _
      rw [endQ_in (i := (n : Int)) (n := n) rfl]
      have lo : loIn (endQ (midq zs) ((n : Int) - 1)) true x = true ↔ n ≤ (midq zs).countP (fun a => leq a x) := by
        cases n with
        | zero =>
          rw [endQ_none (by omega)]
          exact ⟨fun _ => by omega, fun _ => rfl⟩
        | succ n =>
          obtain ⟨b, hb⟩ := ge2 (zs := midq zs) (n := n) (by omega)
          rw [endQ_in (n := n) (by omega), hb, loIn_t]
          exact c n b hb
      have hi : hiIn (midq zs)[n]? false x = true ↔ (midq zs).countP (fun a => leq a x) ≤ n := by
        cases hb : (midq zs)[n]? with
        | none =>
          have := List.getElem?_eq_none_iff.mp hb
          exact ⟨fun _ => by omega, fun _ => rfl⟩
        | some b =>
          have cb := c n b hb
          rw [hiIn_f]
          cases e3 : leq b x <;> simp [e3] at cb ⊢ <;> omega
      rw [Bool.and_eq_true, lo, hi]
      omega
theorem loIn_ok (lo : Option Q2) (x : Q2) : loIn lo true x = loOk lo x := by
  cases lo with
  | none => rfl
  | some a => rw [loIn_t, leq_not]; rfl
theorem hiIn_ok (hi : Option Q2) (x : Q2) : hiIn hi true x = hiOk hi x := by
  cases hi with
  | none => rfl
  | some a => rw [hiIn_t]; rfl
/-- what is in a size's stretch -/
def sizIn (zs : List Q2) (r : Str) (lo hi : Option Q2) (n : Nat) (x : Q2) : Bool := loIn (sizE zs r lo hi n).1.1 (sizE zs r lo hi n).1.2 x && hiIn (sizE zs r lo hi n).2.1 (sizE zs r lo hi n).2.2 x
/-- whether there is such a stretch -/
def sizB (zs : List Q2) (r : Str) (lo hi : Option Q2) (n : Nat) : Bool := someB (sizE zs r lo hi n).1.1 (sizE zs r lo hi n).2.1 (sizE zs r lo hi n).1.2 (sizE zs r lo hi n).2.2
structure LadQ (zs : List Q2) (r : Str) (lo hi : Option Q2) : Prop where
  rise : RiseQ zs
  pos : PosL zs
  plo : PosO lo
  phi : PosO hi
  span : spanB lo hi = true
theorem endQ_pos {zs : List Q2} (hp : PosL zs) (i : Int) : PosO (endQ zs i) := by
  unfold endQ
  split
  · cases e : zs[i.toNat]? with
    | none => trivial
    | some a => exact hp a (List.mem_of_getElem? e)
  · trivial
theorem getQ_pos {zs : List Q2} (hp : PosL zs) (i : Nat) : PosO zs[i]? := by
  cases e : zs[i]? with
  | none => trivial
  | some a => exact hp a (List.mem_of_getElem? e)
theorem rulE_pos {zs : List Q2} {r : Str} {n : Nat} (hp : PosL zs) : PosO (rulE zs r n).1.1 ∧ PosO (rulE zs r n).2.1 := by
  unfold rulE
  split
  · exact ⟨endQ_pos hp _, getQ_pos hp _⟩
  · split
    · exact ⟨getQ_pos hp _, endQ_pos hp _⟩
    · exact ⟨endQ_pos (midq_pos hp) _, endQ_pos (midq_pos hp) _⟩
theorem siz_in {zs : List Q2} {r : Str} {lo hi : Option Q2} {n : Nat} {x : Q2} (L : LadQ zs r lo hi) (hx : 0 < x.2) (hn : n < zs.length) : sizIn zs r lo hi n x = true ↔ sizeQ zs r lo hi x = some n := by
  have p := rulE_pos (r := r) (n := n) L.pos
  have a1 := cutLo_in (i := (rulE zs r n).1.2) (j := true) p.1 L.plo hx
  have a2 := cutHi_in (i := (rulE zs r n).2.2) (j := true) p.2 L.phi hx
  have e : sizIn zs r lo hi n x = (rulIn zs r n x && inO lo hi x) := by
    show (loIn (cutLo _ _ lo true).1 (cutLo _ _ lo true).2 x && hiIn (cutHi _ _ hi true).1 (cutHi _ _ hi true).2 x) = _
    rw [a1, a2, loIn_ok, hiIn_ok]
    unfold rulIn inO
    cases loIn (rulE zs r n).1.1 (rulE zs r n).1.2 x <;> cases loOk lo x <;> cases hiIn (rulE zs r n).2.1 (rulE zs r n).2.2 x <;> rfl
  rw [e, Bool.and_eq_true, rul_in L.rise L.pos hx hn]
  unfold sizeQ
  by_cases h : inO lo hi x = true
  · rw [if_pos h]
    constructor
    · rintro ⟨h1, _⟩
      rw [h1, if_pos (by omega)]
      rfl
    · intro q
      split at q
      · next c =>
        refine ⟨?_, h⟩
        have := Option.some.inj q
        omega
      · cases q
  · rw [if_neg h]
    constructor
    · rintro ⟨_, h2⟩; exact absurd h2 h
    · intro q; cases q
theorem sizE_pos {zs : List Q2} {r : Str} {lo hi : Option Q2} {n : Nat} (L : LadQ zs r lo hi) : PosO (sizE zs r lo hi n).1.1 ∧ PosO (sizE zs r lo hi n).2.1 :=
  ⟨cutLo_pos (rulE_pos L.pos).1 L.plo, cutHi_pos (rulE_pos L.pos).2 L.phi⟩
/-- there is a measure of that size just where its stretch is told -/
theorem siz_some {zs : List Q2} {r : Str} {lo hi : Option Q2} {n : Nat} (L : LadQ zs r lo hi) : sizB zs r lo hi n = true ↔ ∃ x : Q2, 0 < x.2 ∧ sizIn zs r lo hi n x = true := by
  have p := sizE_pos (n := n) L
  constructor
  · intro h
    obtain ⟨x, hx, a, b⟩ := some_in p.1 p.2 h
    exact ⟨x, hx, by unfold sizIn; rw [a, b]; rfl⟩
  · rintro ⟨x, hx, h⟩
    unfold sizIn at h
    rw [Bool.and_eq_true] at h
    exact in_some p.1 p.2 hx h.1 h.2
end My
namespace My
open PySem PySem.Spec PyProof.Rows L2
/-! ### lists of numbers -/
/-! ### the sizes that fit some feet -/
structure FitsL (H : Hp) (D : Addr) (ls : List (List Int)) : Prop where
  ob : ∃ ts : List V, H D = some (.lst ts) ∧ ts.length = ls.length ∧ ∀ (i : Nat) (v : V) (l : List Int), ts[i]? = some v → ls[i]? = some l → ∃ T, v = .ref T ∧ H T = some (.tup (l.map V.int))
theorem FitsL.same {H H' : Hp} {D : Addr} {ls : List (List Int)} (a : FitsL H D ls) (s : Same H H') : FitsL H' D ls := by
  obtain ⟨ts, h1, h2, h3⟩ := a.ob
  refine ⟨ts, s _ _ h1, h2, fun i v l e1 e2 => ?_⟩
  obtain ⟨T, e, h⟩ := h3 i v l e1 e2
  exact ⟨T, e, s _ _ h⟩
theorem FitsL.at {H : Hp} {D : Addr} {ls : List (List Int)} {ts : List V} (h2 : ts.length = ls.length) (h3 : ∀ (i : Nat) (v : V) (l : List Int), ts[i]? = some v → ls[i]? = some l → ∃ T, v = .ref T ∧ H T = some (.tup (l.map V.int))) {i : Nat} {l : List Int} (h : ls[i]? = some l) : ∃ T, ts[i]? = some (.ref T) ∧ H T = some (.tup (l.map V.int)) := by
  have hi : i < ts.length := by rw [h2]; exact (List.getElem?_eq_some_iff.mp h).1
  obtain ⟨T, e, k⟩ := h3 i _ l (List.getElem?_eq_getElem hi) h
  exact ⟨T, by rw [List.getElem?_eq_getElem hi, e], k⟩
/-- the first one of which there is none -/
def BareAt (ls : List (List Int)) : Option Nat → Prop
  | none => ∀ l ∈ ls, l ≠ []
  | some n => ls[n]? = some [] ∧ ∀ j l, j < n → ls[j]? = some l → l ≠ []
theorem BareAt.uniq {ls : List (List Int)} : ∀ {o o' : Option Nat}, BareAt ls o → BareAt ls o' → o = o'
  | none, none, _, _ => rfl
  | none, some n, h, g => absurd rfl (h _ (List.mem_of_getElem? g.1))
  | some n, none, h, g => absurd rfl (g _ (List.mem_of_getElem? h.1))
  | some n, some m, h, g => by
    rcases Nat.lt_trichotomy n m with q | q | q
    · exact absurd rfl (g.2 n _ q h.1)
    · rw [q]
    · exact absurd rfl (h.2 m _ q g.1)
def firstI (ls : List (List Int)) (a : Int) : Int := ((ls.getD a.toNat []).head?).getD 0
def lastI (ls : List (List Int)) (a : Int) : Int := ((ls.getD a.toNat []).getLast?).getD 0
/-- runs: none is bare, each begins no later than it ends -/
def RunsI (ls : List (List Int)) : Prop := ∀ i : Nat, i < ls.length → ls.getD i [] ≠ [] ∧ firstI ls i ≤ lastI ls i
structure GInv (ls : List (List Int)) (done : List (Int × Int)) (ss as : List Int) : Prop where
  len : ss.length = as.length
  hits : ∀ q ∈ done, ∃ s ∈ ss, firstI ls q.2 ≤ s ∧ s ≤ q.1
  own : ∀ (j : Nat) (s a : Int), ss[j]? = some s → as[j]? = some a → (s, a) ∈ done
  ap : ∀ (j j' : Nat) (s a : Int), j < j' → ss[j]? = some s → as[j']? = some a → s < firstI ls a
theorem GInv.nil {ls : List (List Int)} : GInv ls [] [] [] := ⟨rfl, fun q h => by simp at h, fun j s a h => by simp at h, fun j j' s a _ h => by simp at h⟩
/-- the pairs of last sizes and numbers -/
structure PairsOf (ls : List (List Int)) (ps : List (Int × Int)) : Prop where
  perm : ps.Perm ((List.range ls.length).map fun i : Nat => (lastI ls i, (i : Int)))
  srt : ∀ (i j : Nat) (p q : Int × Int), i < j → ps[i]? = some p → ps[j]? = some q → p.1 ≤ q.1
theorem PairsOf.mem {ls : List (List Int)} {ps : List (Int × Int)} (h : PairsOf ls ps) {q : Int × Int} : q ∈ ps ↔ ∃ i : Nat, i < ls.length ∧ q = (lastI ls i, (i : Int)) := by
  rw [h.perm.mem_iff, List.mem_map]
  constructor
  · rintro ⟨i, hi, e⟩; exact ⟨i, List.mem_range.mp hi, e.symm⟩
  · rintro ⟨i, hi, e⟩; exact ⟨i, List.mem_range.mpr hi, e.symm⟩
theorem GInv.rise {ls : List (List Int)} {ps : List (Int × Int)} {k : Nat} {ss as : List Int} (P : PairsOf ls ps) (R : RunsI ls) (g : GInv ls (ps.take k) ss as) : ∀ (j j' : Nat) (s s' : Int), j < j' → ss[j]? = some s → ss[j']? = some s' → s < s' := fun j j' s s' hj h h' => by
  have l := (List.getElem?_eq_some_iff.mp h').1
  obtain ⟨a', ha'⟩ := geI (zs := as) (n := j') (by rw [← g.len]; exact l)
  have h1 := g.ap j j' s a' hj h ha'
  have h2 := g.own j' s' a' h' ha'
  obtain ⟨i, hi, e⟩ := P.mem.mp (List.mem_of_mem_take h2)
  obtain ⟨rfl, rfl⟩ := Prod.mk.inj e
  have := (R i hi).2
  omega
theorem GInv.skip {ls : List (List Int)} {ps : List (Int × Int)} {k : Nat} {ss as : List Int} {b n s : Int} (P : PairsOf ls ps) (R : RunsI ls) (hk : ps[k]? = some (b, n)) (g : GInv ls (ps.take k) ss as) (hl : ss.getLast? = some s) (h : firstI ls n ≤ s) : GInv ls (ps.take (k + 1)) ss as := by
  have e : ps.take (k + 1) = ps.take k ++ [(b, n)] := by rw [List.take_add_one, hk]; rfl
  refine ⟨g.len, fun q hq => ?_, fun j s' a h1 h2 => ?_, g.ap⟩
  · rw [e] at hq
    rcases List.mem_append.mp hq with hq | hq
    · exact g.hits q hq
    · have : q = (b, n) := by simpa using hq
      subst this
      refine ⟨s, List.mem_of_getLast? hl, h, ?_⟩
      have l0 : 0 < ss.length := by cases ss with | nil => simp at hl | cons => simp
      have hs : ss[ss.length - 1]? = some s := by rw [← List.getLast?_eq_getElem?]; exact hl
      obtain ⟨a, ha⟩ := geI (zs := as) (n := ss.length - 1) (by rw [← g.len]; omega)
      have hm := g.own _ s a hs ha
      obtain ⟨i, hi⟩ := List.mem_iff_getElem?.mp hm
      have li := (List.getElem?_eq_some_iff.mp hi).1
      rw [List.length_take] at li
      rw [List.getElem?_take_of_lt (by omega)] at hi
      exact P.srt i k (s, a) (b, n) (by omega) hi hk
  · rw [e]
    exact List.mem_append.mpr (.inl (g.own j s' a h1 h2))
theorem GInv.take {ls : List (List Int)} {ps : List (Int × Int)} {k : Nat} {ss as : List Int} {b n : Int} (P : PairsOf ls ps) (R : RunsI ls) (hk : ps[k]? = some (b, n)) (g : GInv ls (ps.take k) ss as) (h : ∀ s, ss.getLast? = some s → s < firstI ls n) : GInv ls (ps.take (k + 1)) (ss ++ [b]) (as ++ [n]) := by
  have e : ps.take (k + 1) = ps.take k ++ [(b, n)] := by rw [List.take_add_one, hk]; rfl
  obtain ⟨i, hi, ei⟩ := P.mem.mp (List.mem_of_getElem? hk)
  obtain ⟨rfl, rfl⟩ := Prod.mk.inj ei
  refine ⟨by rw [List.length_append, List.length_append, g.len]; rfl, fun q hq => ?_, fun j s' a h1 h2 => ?_, fun j j' s' a hj h1 h2 => ?_⟩
  · rw [e] at hq
    rcases List.mem_append.mp hq with hq | hq
    · obtain ⟨s, hs, q1⟩ := g.hits q hq
      exact ⟨s, List.mem_append.mpr (.inl hs), q1⟩
    · have : q = (lastI ls (i : Int), (i : Int)) := by simpa using hq
      subst this
      exact ⟨lastI ls i, by simp, (R i hi).2, Int.le_refl _⟩
  · rw [e]
    by_cases hlt : j < ss.length
    · rw [List.getElem?_append_left hlt] at h1
      rw [List.getElem?_append_left (by rw [← g.len]; exact hlt)] at h2
      exact List.mem_append.mpr (.inl (g.own j s' a h1 h2))
    · have l1 := (List.getElem?_eq_some_iff.mp h1).1
      rw [List.length_append, List.length_singleton] at l1
      have ej : j = ss.length := by omega
      rw [ej, List.getElem?_append_right (Nat.le_refl _), Nat.sub_self] at h1
      rw [ej, g.len, List.getElem?_append_right (Nat.le_refl _), Nat.sub_self] at h2
      have h1 : lastI ls i = s' := by simpa using h1
      have h2 : (i : Int) = a := by simpa using h2
      rw [← h1, ← h2]
      simp
  · have l2 := (List.getElem?_eq_some_iff.mp h2).1
    rw [List.length_append, List.length_singleton, ← g.len] at l2
    have h1' : ss[j]? = some s' := by
      rw [List.getElem?_append_left (by omega)] at h1; exact h1
    by_cases hlt : j' < ss.length
    · rw [List.getElem?_append_left (by rw [← g.len]; exact hlt)] at h2
      exact g.ap j j' s' a hj h1' h2
    · have ej : j' = ss.length := by omega
      rw [ej, g.len, List.getElem?_append_right (Nat.le_refl _), Nat.sub_self] at h2
      have h2 : (i : Int) = a := by simpa using h2
      rw [← h2]
      have hs : ss[ss.length - 1]? = ss.getLast? := List.getLast?_eq_getElem?.symm
      obtain ⟨s, hs2⟩ := geI (zs := ss) (n := ss.length - 1) (by omega)
      have hlast := h s (by rw [← hs]; exact hs2)
      by_cases q : j = ss.length - 1
      · rw [q, hs2] at h1'
        cases h1'
        exact hlast
      · have := g.rise P R j (ss.length - 1) s' s (by omega) h1' hs2
        omega
theorem idx_sorted {n : Nat} {c : Nat → Bool} : (idx n c).Pairwise (· < ·) := by
  unfold idx
  rw [List.pairwise_map]
  refine List.Pairwise.imp ?_ (List.Pairwise.filter c List.pairwise_lt_range)
  intro a b h
  omega
/-! ### tuples of the heap: sums and slices -/
section
variable {X : Cx}
def rCatH : R2 := fun x y H Q => ∃ (a b : Addr) (xs ys : List V), x = .ref a ∧ y = .ref b ∧ H a = some (.tup xs) ∧ H b = some (.tup ys) ∧ xs.length + ys.length ≤ sizeLine ∧ ∀ (p : Addr) (H' : Hp), Same H H' → H' p = some (.tup (xs ++ ys)) → Q (.ref p) H'
theorem catH : OpR X (binaryOp .Add) rCatH := by
  intro pins s σ H x y v u Q I rx ry h
  obtain ⟨a, b, xs, ys, e1, e2, ha, hb, hz, q⟩ := h
  refine op_catA pins s σ H x y v u Q I rx ry ⟨a, b, xs, ys, e1, e2, SqT.of ha, SqT.of hb, hz, fun e => q b H (Same.refl _) ?_, fun _ e => q a H (Same.refl _) ?_, fun _ _ p np => q p _ (same1 np) upd_same⟩
  · rw [e]; exact hb
  · rw [e, List.append_nil]; exact ha
def rSlH : V → Option Int → Option Int → Hp → VK → Prop := fun x lo hi H Q => ∃ (a : Addr) (xs : List V), x = .ref a ∧ H a = some (.tup xs) ∧ ∀ (p : Addr) (H' : Hp), Same H H' → H' p = some (.tup (cutV xs lo hi)) → Q (.ref p) H'
theorem slH : SlR X rSlH := by
  intro pins s σ H x v vl vu lo hi sl Q I rx hs pl pu h
  obtain ⟨a, xs, e1, hx, q⟩ := h
  refine sl_tupA pins s σ H x v vl vu lo hi sl Q I rx hs pl pu ⟨a, xs, e1, SqT.of hx, fun e => q a H (Same.refl _) ?_, fun _ p np => q p _ (same1 np) upd_same⟩
  have e2 : cutV xs lo hi = xs := by
    unfold cutV
    rw [e.1, e.2, List.drop_zero, Nat.sub_zero, List.take_length]
  rw [e2]
  exact hx
end
/-! ### fractions as rational numbers -/
def toR (z : Q2) : Rat := (z.1 : Rat) / (z.2 : Rat)
theorem posR {n : Int} (h : 0 < n) : (0 : Rat) < (n : Rat) := by
  have := Rat.intCast_lt_intCast.mpr h
  simpa using this
section
variable {a b z w x y : Q2}
theorem div_ltR {a b c d : Int} (hb : 0 < b) (hd : 0 < d) : ((a : Rat) / b < (c : Rat) / d) ↔ (a : Rat) * d < c * b := by
  have hb := posR hb
  have hd := posR hd
  constructor
  · intro h
    have e1 : (a : Rat) * d = (a / b) * (b * d) := by grind
    have e2 : (c : Rat) * b = (c / d) * (b * d) := by grind
    rw [e1, e2]
    exact Rat.mul_lt_mul_of_pos_right h (Rat.mul_pos hb hd)
  · intro h
    by_cases g : (c : Rat) / d ≤ (a : Rat) / b
    · have := Rat.mul_le_mul_of_nonneg_right g (Rat.le_of_lt (Rat.mul_pos hb hd))
      have e1 : (a : Rat) * d = (a / b) * (b * d) := by grind
      have e2 : (c : Rat) * b = (c / d) * (b * d) := by grind
      grind
    · grind
theorem ltq_R (ha : 0 < a.2) (hb : 0 < b.2) : ltq a b = true ↔ toR a < toR b := by
  unfold toR
  rw [div_ltR ha hb]
  unfold ltq
  rw [decide_eq_true_iff, ← Rat.intCast_mul, ← Rat.intCast_mul, Rat.intCast_lt_intCast]
theorem leq_R (ha : 0 < a.2) (hb : 0 < b.2) : leq a b = true ↔ toR a ≤ toR b := by
  rw [leq_not]
  cases e : ltq b a with
  | true =>
    have := (ltq_R hb ha).mp e
    constructor
    · intro h; simp at h
    · intro h; grind
  | false =>
    have : ¬ toR b < toR a := fun q => by rw [(ltq_R hb ha).mpr q] at e; cases e
    constructor
    · intro _; grind
    · intro _; rfl
theorem ltq_F (ha : 0 < a.2) (hb : 0 < b.2) : ltq a b = false ↔ toR b ≤ toR a := by
  rw [← leq_R hb ha, leq_not]
  cases ltq a b <;> simp
theorem re_R (h : Re z w) : toR z = toR w := by
  obtain ⟨h1, h2, h3⟩ := h
  unfold toR
  have p1 := posR h1
  have p2 := posR h2
  have e : (z.1 : Rat) * (w.2 : Rat) = (w.1 : Rat) * (z.2 : Rat) := by rw [← Rat.intCast_mul, ← Rat.intCast_mul, h3]
  grind
theorem re_of_R (h1 : 0 < z.2) (h2 : 0 < w.2) (h : toR z = toR w) : Re z w := by
  refine ⟨h1, h2, ?_⟩
  unfold toR at h
  have p1 := posR h1
  have p2 := posR h2
  have e : (z.1 : Rat) * (w.2 : Rat) = (w.1 : Rat) * (z.2 : Rat) := by grind
  rw [← Rat.intCast_mul, ← Rat.intCast_mul] at e
  exact Rat.intCast_inj.mp e
theorem half_R (ha : 0 < a.2) (hb : 0 < b.2) : toR (qhalf a b) = (toR a + toR b) / 2 := by
  rw [qhalf_eq]
  unfold toR
  have p1 := posR ha
  have p2 := posR hb
  simp only [Rat.intCast_add, Rat.intCast_mul]
  grind
theorem nn_R (ha : 0 < a.2) : 0 ≤ a.1 ↔ 0 ≤ toR a := by
  have p : 0 < ((0, 1) : Q2).2 := by decide
  have h := leq_R (a := (0, 1)) (b := a) p ha
  have e : toR (0, 1) = 0 := by unfold toR; grind
  rw [e] at h
  rw [← h, leq_not]
  unfold ltq
  simp
end
theorem Re.nn {z w : Q2} (r : Re z w) (h : 0 ≤ w.1) : 0 ≤ z.1 := by
  rw [nn_R r.1, re_R r]
  exact (nn_R r.2.1).mp h
section
variable {zs : List Q2} {a z x y e w : Q2} {i : Nat}
end
/-! ### lists of tuples of numbers as data -/
section
variable {X : Cx} {K : PySem.W.Frag}
end
theorem dpAll_of {α : Type} {K : PySem.W.Frag} {H : Hp} (f : α → PyData) : ∀ {ts : List V} {ls : List α}, ts.length = ls.length → (∀ (i : Nat) (v : V) (l : α), ts[i]? = some v → ls[i]? = some l → Dp K H v (f l)) → DpAll K H ts (ls.map f)
  | [], [], _, _ => .nil
  | [], _ :: _, h, _ => by simp at h
  | _ :: _, [], h, _ => by simp at h
  | t :: ts, l :: ls, h, g => .cons (g 0 t l rfl rfl) (dpAll_of f (by simpa using h) fun i v l' h1 h2 => g (i + 1) v l' (by simpa using h1) (by simpa using h2))
theorem FitsL.dp {K : PySem.W.Frag} {H : Hp} {D : Addr} {ls : List (List Int)} (a : FitsL H D ls) : Dp K H (.ref D) (.list (ls.map fun l => intsD l)) := by
  obtain ⟨ts, h1, h2, h3⟩ := a.ob
  refine .lst (SqL.of h1) (dpAll_of (fun l => intsD l) h2 fun i v l e1 e2 => ?_)
  obtain ⟨T, rfl, h⟩ := h3 i v l e1 e2
  exact dpT h
/-! ### a set of a tuple of numbers -/
/-! ### looked at ahead of a step (apply fails at once where exact, refine and show take seconds) -/
section
variable {K : PySem.W.Frag} {C CM CL CG p h a L1 L2 : Addr} {H H' : Hp} {v : V} {k n : Nat} {z : Q2} {vs : List V} {zs ys : List Q2} {e : Option Q2} {r : Str} {lo hi : Option Q2} {o : Option HO} {x : HO} {P Q : Prop}
end
/-! ### what follows a statement, kept out of sight while it is read -/
/-! ### a comprehension over a list that draws, some left out -/
theorem AllTQ.nl {H H' : Hp} {k : Nat} {vs : List V} (m : AllTQ H k vs) (s : Nl H H') : AllTQ H' k vs := fun x hx => by
  obtain ⟨z, t⟩ := m x hx
  exact ⟨z, t.nl s⟩
theorem AllTQ.same {H H' : Hp} {k : Nat} {vs : List V} (m : AllTQ H k vs) (s : Same H H') : AllTQ H' k vs := m.nl (Nl.of s)
theorem AllTQ.mono {H : Hp} {k j : Nat} {vs : List V} (m : AllTQ H k vs) (l : k ≤ j) : AllTQ H j vs := fun x hx => by
  obtain ⟨z, t⟩ := m x hx
  exact ⟨z, t.mono l⟩
theorem Kp.up2 {h D : Addr} {H H1 : Hp} {u : HO} (k : Kp h H H1) (hD : H D = none) : Kp h H (upd H1 D u) := fun c o e n => by
  rw [upd_ne (ne_of_none e hD)]
  exact k c o e n
end My
namespace My
open PySem PySem.Spec PyProof.Rows L2
/-! ### the stretches of a ladder's sizes, held -/
theorem MAt.nl {C p : Addr} {H H' : Hp} {t u : Int} (a : MAt C H p t u) (s : Nl H H') : MAt C H' p t u := by
  obtain ⟨dx, h⟩ := a
  exact ⟨dx, s _ _ h rfl⟩
theorem MsV.nl {C : Addr} {H H' : Hp} {v : V} (s : Nl H H') : ∀ {e : Option Q2}, MsV C H v e → MsV C H' v e
  | none, h => h
  | some _, ⟨p, h1, h2⟩ => ⟨p, h1, h2.nl s⟩
theorem StAt.nl {CM CS p : Addr} {H H' : Hp} {lo hi : Option Q2} {li hj : Bool} (a : StAt CM CS H p lo hi li hj) (s : Nl H H') : StAt CM CS H' p lo hi li hj := by
  obtain ⟨⟨dx, l, h, h1, h2, h3⟩, a1, a2, a3, a4⟩ := a
  exact ⟨⟨dx, l, h, s _ _ h1 rfl, h2.nl s, h3.nl s⟩, a1, a2, a3, a4⟩
theorem StQ.nl {CM CS p : Addr} {H H' : Hp} {x y : Option Q2 × Bool} (a : StQ CM CS H p x y) (s : Nl H H') : StQ CM CS H' p x y := by
  obtain ⟨lo, hi, h1, h2, h3⟩ := a
  exact ⟨lo, hi, h1.nl s, h2, h3⟩
/-- the stretch of a size, or None -/
def RunV (CM CS : Addr) (H : Hp) (v : V) (zs : List Q2) (r : Str) (lo hi : Option Q2) (n : Nat) : Prop :=
  (sizB zs r lo hi n = true ∧ ∃ p, v = .ref p ∧ StQ CM CS H p (sizE zs r lo hi n).1 (sizE zs r lo hi n).2) ∨ (sizB zs r lo hi n = false ∧ v = .non)
section
variable {CM CS : Addr} {H H' : Hp} {v : V} {zs : List Q2} {r : Str} {lo hi : Option Q2} {n : Nat}
theorem RunV.same (a : RunV CM CS H v zs r lo hi n) (s : Same H H') : RunV CM CS H' v zs r lo hi n := by
  rcases a with ⟨h, p, e, q⟩ | h
  · exact .inl ⟨h, p, e, q.same s⟩
  · exact .inr h
theorem RunV.nl (a : RunV CM CS H v zs r lo hi n) (s : Nl H H') : RunV CM CS H' v zs r lo hi n := by
  rcases a with ⟨h, p, e, q⟩ | h
  · exact .inl ⟨h, p, e, q.nl s⟩
  · exact .inr h
theorem run_of (c : CutQ CM CS H v (sizE zs r lo hi n).1 (sizE zs r lo hi n).2) : RunV CM CS H v zs r lo hi n := by
  obtain ⟨x', y', c, ax, ay⟩ := c
  have e := Alike.someB ax ay
  rcases c with ⟨h, p, rfl, st⟩ | ⟨h, rfl⟩
  · refine .inl ⟨by unfold sizB; rw [← e]; exact h, p, rfl, x'.1, y'.1, ?_, ax.1, ay.1⟩
    rw [← ax.flag, ← ay.flag]
    exact st
  · exact .inr ⟨by unfold sizB; rw [← e]; exact h, rfl⟩
end
section
variable {CM CS : Addr} {H : Hp} {p q : Addr} {x y x2 y2 : Option Q2 × Bool}
theorem StQ.raw (a : StQ CM CS H p x y) {m : Str} (h1 : ¬ m = "low") (h2 : ¬ m = "high") (h3 : ¬ m = "low_in") (h4 : ¬ m = "high_in") {R : Prop} (h : R) : ∃ a dx fs, V.ref p = .ref a ∧ H a = some (.ins CS dx fs) ∧ fs.lookup m = none ∧ R := by
  obtain ⟨lo, hi, s, _⟩ := a
  exact meth_s s h1 h2 h3 h4 h
/-- an end of so many bits -/
def SzE (k : Nat) : Option Q2 → Prop
  | none => True
  | some a => Sz k a.1 ∧ Sz k a.2
theorem qo_of {k : Nat} {v : V} {m e : Option Q2} (a : MsV CM H v m) (l : LowO m) (r : ReO m e) (s : SzE k e) : QO CM H k v e := by
  cases m with
  | none =>
    cases e with
    | none => exact a
    | some _ => exact r.elim
  | some m =>
    cases e with
    | none => exact r.elim
    | some e =>
      obtain ⟨p, rfl, hp⟩ := a
      exact ⟨p, rfl, QAt.of hp l r s.1 s.2⟩
end
theorem SzE.mono {k j : Nat} (l : k ≤ j) : ∀ {o : Option Q2}, SzE k o → SzE j o
  | none, _ => trivial
  | some _, h => ⟨h.1.mono l, h.2.mono l⟩
theorem cutLo_sze {k : Nat} {a b : Option Q2} {i j : Bool} (h : SzE k a) (g : SzE k b) : SzE k (cutLo a i b j).1 := by
  cases a with
  | none => exact g
  | some a =>
    cases b with
    | none => exact h
    | some b =>
      show SzE k (if ltq a b then (some b, j) else if eqq a b then (some a, i && j) else (some a, i)).1
      split
      · exact g
      · split <;> exact h
theorem cutHi_sze {k : Nat} {a b : Option Q2} {i j : Bool} (h : SzE k a) (g : SzE k b) : SzE k (cutHi a i b j).1 := by
  cases a with
  | none => exact g
  | some a =>
    cases b with
    | none => exact h
    | some b =>
      show SzE k (if ltq b a then (some b, j) else if eqq a b then (some a, i && j) else (some a, i)).1
      split
      · exact g
      · split <;> exact h
def SzL (k : Nat) (zs : List Q2) : Prop := ∀ z ∈ zs, Sz k z.1 ∧ Sz k z.2
theorem SzL.get {k : Nat} {zs : List Q2} (h : SzL k zs) (i : Nat) : SzE k zs[i]? := by
  cases e : zs[i]? with
  | none => trivial
  | some a => exact h a (List.mem_of_getElem? e)
theorem SzL.end {k : Nat} {zs : List Q2} (h : SzL k zs) (i : Int) : SzE k (endQ zs i) := by
  unfold endQ
  split
  · exact h.get _
  · trivial
theorem SzL.mid {k : Nat} : ∀ {zs : List Q2}, SzL k zs → SzL (k + k + 12) (midq zs)
  | [], _ => fun z hz => by simp [midq] at hz
  | [_], _ => fun z hz => by simp [midq] at hz
  | a :: b :: r, h => fun z hz => by
    have hz' : z ∈ qhalf a b :: midq (b :: r) := hz
    rcases List.mem_cons.mp hz' with e | e
    · rw [e, qhalf_eq]
      have ha := h a (by simp)
      have hb := h b (by simp)
      have c1 : Sz (k + k + 1) (a.1 * b.2 + b.1 * a.2) := (ha.1.mul hb.2).add (hb.1.mul ha.2)
      have c2 : Sz (k + k) (a.2 * b.2) := ha.2.mul hb.2
      exact ⟨c1.mono (by omega), (c2.mul (show Sz 2 2 by decide)).mono (by omega)⟩
    · exact SzL.mid (fun y hy => h y (by simp [hy])) z e
theorem rulE_sz {k : Nat} {zs : List Q2} {r : Str} {n : Nat} (h : SzL k zs) : SzE (k + k + 12) (rulE zs r n).1.1 ∧ SzE (k + k + 12) (rulE zs r n).2.1 := by
  unfold rulE
  split
  · exact ⟨(h.end _).mono (by omega), (h.get _).mono (by omega)⟩
  · split
    · exact ⟨(h.get _).mono (by omega), (h.end _).mono (by omega)⟩
    · exact ⟨h.mid.end _, h.mid.end _⟩
theorem sizE_sz {k : Nat} {zs : List Q2} {r : Str} {lo hi : Option Q2} {n : Nat} (h : SzL k zs) (hl : SzE k lo) (hh : SzE k hi) : SzE (k + k + 12) (sizE zs r lo hi n).1.1 ∧ SzE (k + k + 12) (sizE zs r lo hi n).2.1 :=
  ⟨cutLo_sze (rulE_sz h).1 (hl.mono (by omega)), cutHi_sze (rulE_sz h).2 (hh.mono (by omega))⟩
theorem LawL.szs {H : Hp} {p : Addr} {part : Int} {ms : List Int} {r : Str} {lo hi : Option Int} (a : LawL H p part ms r lo hi) : SzL 40 (zq (4 * part) ms) ∧ SzE 40 (oq (4 * part) lo) ∧ SzE 40 (oq (4 * part) hi) := by
  have p0 := a.p0
  have p1 := a.p1
  have sp : Sz 40 (4 * part) := by show (4 * part).natAbs < 2 ^ 40; omega
  have sz : ∀ z : Int, -4000040 ≤ z → z ≤ 4000040 → Sz 40 z := fun z h1 h2 => by show z.natAbs < 2 ^ 40; omega
  refine ⟨fun z hz => ?_, ?_, ?_⟩
  · obtain ⟨m, hm, rfl⟩ := List.mem_map.mp hz
    have := a.bnd m hm
    exact ⟨sz m (by omega) (by omega), sp⟩
  · cases lo with
    | none => trivial
    | some z => have := a.blo z rfl; exact ⟨sz z this.1 this.2, sp⟩
  · cases hi with
    | none => trivial
    | some z => have := a.bhi z rfl; exact ⟨sz z this.1 this.2, sp⟩
theorem LadAt.up {K : PySem.W.Frag} {CM CL : Addr} {H : Hp} {p : Addr} {k j : Nat} {zs : List Q2} {r : Str} {lo hi : Option Q2} (a : LadAt K CM CL H p k zs r lo hi) (l : k ≤ j) : LadAt K CM CL H p j zs r lo hi := a.mono l
/-! ### measures that a stretch holds -/
def GoodM (CM : Addr) (x y : Option Q2 × Bool) (H : Hp) (ys : List V) : Prop := ∀ v ∈ ys, ∃ q z, v = .ref q ∧ QAt CM H q 300 z ∧ (loIn x.1 x.2 z && hiIn y.1 y.2 z) = true
theorem GoodM.nl {CM : Addr} {x y : Option Q2 × Bool} {H H' : Hp} {ys : List V} (g : GoodM CM x y H ys) (s : Nl H H') : GoodM CM x y H' ys := fun v hv => by
  obtain ⟨q, z, e, a, h⟩ := g v hv
  exact ⟨q, z, e, a.nl s, h⟩
theorem GoodM.snoc {CM : Addr} {x y : Option Q2 × Bool} {H : Hp} {ys : List V} {q : Addr} {z : Q2} (g : GoodM CM x y H ys) (a : QAt CM H q 300 z) (h : (loIn x.1 x.2 z && hiIn y.1 y.2 z) = true) : GoodM CM x y H (ys ++ [.ref q]) := fun v hv => by
  rcases List.mem_append.mp hv with hv | hv
  · exact g v hv
  · have : v = .ref q := by simpa using hv
    exact ⟨q, z, this, a, h⟩
section
variable {a b : Q2} {i j : Bool} {yo xo : Option Q2}
end
end My
namespace My
open PySem PySem.Spec PyProof.Rows L2
/-! ### comprehensions within comprehensions: the readings of the inner ones are found ahead -/
section
variable {X : Cx}
theorem pi_listK {K : PySem.W.Frag} {tg l : Expr} {tl : TE} (hl : PE X l tl) (hK : X.K = K := by rfl) : PI X tg l (iList K tl) := by subst hK; exact pi_list hl
end
end My
namespace My
open PySem PySem.Spec PyProof.Rows L2
/-! ### repr of a tuple that holds own objects -/
section
variable {X : Cx} {n : Nat} {CX : CXT} {C f : Addr} {fd : FuncData} {ps : List Str} {sp : Sp} {E : XK}
end
/-! ### == of tuples, item by item -/
section
open GQ
open AutoSeq1 (wpAny_loadPart')
variable {prog : Program} {w : World} {A : Around} {R : Result → Shared → Prop}
end
section
variable {X : Cx} {n : Nat} {D : Eqb}
end
/-! ### {x} of an own object, repr of one whose own def shows a tuple -/
section
variable {X : Cx} {n : Nat} {CX : CXT} {C f : Addr} {fd : FuncData} {ps : List Str} {sp : Sp} {E : XK}
end
end My
namespace My
open PySem PySem.Spec PyProof.Rows L2
/-! ### signs of texts; dicts beside own == -/
/-! ### own == within comprehensions: K by name -/
end My
/-! ### own errors whose __init__ calls super().__init__(..): over any built-in base -/
namespace My
open PySem PySem.Spec PyProof.Rows L2 NdefX Builtin Builtin.ObjectAttr
/-- own classes, then T -/
def refsT (T : List Value) : List Value → Bool
  | .ref _ :: r => refsT T r
  | l => l == T
/-- what is asked of the built-in base -/
structure BaseX (B newId initId : String) (T : List Value) : Prop where
  F : ExcBaseFacts B newId initId T
  KF : PySem.W.KxsFacts B initId
  pass : ∀ self, refuseLoop self "__setattr__" T = pure ()
  ob : T.contains (.type "object") = true
  ne : T ≠ []
  nr : ∀ c r, T ≠ .ref c :: r
theorem refsT_cases {T : List Value} : ∀ l : List Value, refsT T l = true → (∃ c r, l = .ref c :: r ∧ refsT T r = true) ∨ l = T
  | [], e => .inr (beq_iff_eq.mp e)
  | .ref c :: r, e => .inl ⟨c, r, rfl, e⟩
  | .none :: _, e => .inr (beq_iff_eq.mp e)
  | .ellipsis :: _, e => .inr (beq_iff_eq.mp e)
  | .notImplemented :: _, e => .inr (beq_iff_eq.mp e)
  | .bool _ :: _, e => .inr (beq_iff_eq.mp e)
  | .int _ _ :: _, e => .inr (beq_iff_eq.mp e)
  | .float _ _ :: _, e => .inr (beq_iff_eq.mp e)
  | .str _ _ :: _, e => .inr (beq_iff_eq.mp e)
  | .bytes _ _ :: _, e => .inr (beq_iff_eq.mp e)
  | .type _ :: _, e => .inr (beq_iff_eq.mp e)
  | .builtin _ :: _, e => .inr (beq_iff_eq.mp e)
section
variable {B newId initId : String} {T : List Value} (bx : BaseX B newId initId T)
include bx
theorem BaseX.contains (X : String) : ∀ l : List Value, refsT T l = true → l.contains (.type X) = T.contains (.type X) := by
  intro l
  induction l with
  | nil => intro e; exact absurd (beq_iff_eq.mp e).symm bx.ne
  | cons a r ih =>
    intro e
    rcases refsT_cases (a :: r) e with ⟨c, r', q, h⟩ | q
    · obtain ⟨rfl, rfl⟩ := List.cons.inj q
      rw [List.contains_cons, ih h]; rfl
    · rw [q]
end
section
open PySem.HandSPX (store_in_new)
variable {prog : Program} {w : World} {A : Around} {E : Value → Shared → Prop} {R : Result → Shared → Prop} {hp : Heap} {g : Array GenState} {d : Drawn} {t : Nat} {os : OsState}
end
section
variable {Bn newId initId : String} {T : List Value} (bx : BaseX Bn newId initId T) {X : Cx} {pins : List (Addr × Obj)} {σ : L2.St} {H : Hp} {s : Shared} {a C dx : Addr} {f : Str} {y : V} {u : Value} {fs : List (Str × V)} {Q : Unit → Shared → Prop} {E : Value → Shared → Prop} {A : Around}
include bx
end
/-! ### super().__init__(..), then the fields -/
/-- an own __init__ as it stands behind the top: its closure one cell that holds its class; f its address, cc the cell, cda its code object, told by the file fl -/
structure SupD (K : PySem.W.Frag) (C : Addr) (name qual : Str) (params : Arguments) (body : List Stmt) (scope : Scope) (dvs : List V) (f cc cda : Addr) (fl : Str) (fd : FuncData) : Prop where
  ex : ∃ (oc : Value) (od : Option Addr) (dV kV doc pm : Value) (an : Option Addr) (ct : Value) (osl : Array (Option Value)),
    fd = PySem.W.fnX name qual params body scope [("__class__", cc)] dV kV doc pm an (.ref cda) ct ∧ K.lookup f = some ⟨oc, od, .func fd, osl⟩ ∧ DflV K dV dvs ∧ KwdV K kV []
  cell : ∃ (c0 : Value) (d0 : Option Addr) (s0 : Array (Option Value)), K.lookup cc = some ⟨c0, d0, .cell (some (.ref C)), s0⟩
  code : ∃ (c0 : Value) (d0 : Option Addr) (vs : Array Value) (s0 : Array (Option Value)) (tf : Tok), K.lookup cda = some ⟨c0, d0, .fields vs, s0⟩ ∧ vs[2]? = some (.str fl tf)
  cin : PySem.W.codeIn K (.ref cda) qual = true
  kp : PySem.W.keepIn K (.ref f) = true
section
variable {Bn newId initId : String} {T : List Value} (bx : BaseX Bn newId initId T) {X : Cx} {pins : List (Addr × Obj)} {σ : L2.St} {H : Hp} {s : Shared} {e C : Addr} {Q : Value → Shared → Prop}
include bx
end
section
variable {Bn newId initId : String} {T : List Value} (bx : BaseX Bn newId initId T) {X : Cx} {pins : List (Addr × Obj)} {σ : L2.St} {H : Hp} {s : Shared} {a C cc cda f : Addr}
include bx
end
section
variable {Bn newId initId : String} {T : List Value} (bx : BaseX Bn newId initId T) {CX : CXT} {P : Program} {w : World} {K : PySem.W.Frag} {mg : Str → Option Value} {base : Heap} {k : Nat} {C : Addr}
include bx
end
end My
/-! ### errors with fields: made, caught, kept -/
namespace My
open PySem PySem.Spec PyProof.Rows L2 NdefX
/-! #### what the top has written of them -/
/-! #### the head with such __init__ -/
theorem SupD.bindsA {K : PySem.W.Frag} {C : Addr} {name qual : Str} {params : Arguments} {body : List Stmt} {scope : Scope} {f cc cda : Addr} {fl : Str} {fd : FuncData} {ps : List Str} (D : SupD K C name qual params body scope [] f cc cda fl fd)
    (h : ∀ (kV doc pm : Value) (an : Option Addr) (ct : Value) (us : List Value), us.length = ps.length → bindArgs (PySem.W.fnX name qual params body scope [("__class__", cc)] .none kV doc pm an (.ref cda) ct) ⟨us, []⟩ = pure (ps.zip us)) : Binds K fd ps [] := by
  obtain ⟨oc, od, dV, kV, doc, pm, an, ct, osl, rfl, lk, hD, hK⟩ := D.ex
  rcases hD with ⟨_, rfl⟩ | ⟨e, _⟩
  · exact .all (h kV doc pm an ct)
  · exact absurd rfl e
/-! #### self.f = e -/
/-! #### C(e, ..) -/
section
variable {Bn newId initId : String} {T : List Value} {X : Cx} {e : Expr} {es : List Expr} {ta : TA} {p pos : Pos} {CX : CXT} {x : Str} {C fI : Addr} {k : Nat} {fd : FuncData} {ps : List Str} {ds : List Value} {dvs : List V} {f g : Str}
end
/-! #### an error that was caught and is kept -/
/-! #### what is asked of a kept error -/
end My
namespace PySem.W
open PySem PySem.Spec PySem.Calls PyProof.Rows
section
variable {prog : Program} {w : World} {A : Around} {E : Value → Shared → Prop} {s : Shared} {K : Frag} {x D : Addr} {ox : Obj} {od : Option Obj}
end
end PySem.W
namespace My
open PySem PySem.Spec PyProof.Rows L2 NdefX
end My
/-! ### repr of plain dicts; things of any kind -/
namespace My
open PySem PySem.Spec PyProof.Rows L2 NdefX
def encK : Key → PyData
  | .inl i => .int i
  | .inr x => .str x
/-- a plain value: none, a truth, a whole number, a text -/
inductive Plain : V → PyData → Prop
  | non : Plain .non .none
  | bl (b : Bool) : Plain (.bl b) (.bool b)
  | int (i : Int) : Plain (.int i) (.int i)
  | str (x : Str) : Plain (.str x) (.str x)
inductive Flat : List (Key × V) → List (PyData × PyData) → Prop
  | nil : Flat [] []
  | cons {k : Key} {v : V} {d : PyData} {kvs : List (Key × V)} {D : List (PyData × PyData)} : Plain v d → Flat kvs D → Flat ((k, v) :: kvs) ((encK k, d) :: D)
/-- what repr shows of it -/
inductive Shw (K : PySem.W.Frag) (H : Hp) : V → Str → Prop
  | data {v : V} {d : PyData} : Dp K H v d → d.showable = true → d.hasDict = false → d.depth ≤ 60 → d.shown.length ≤ sizeLine → Shw K H v d.shown
  | dict {a : Addr} {kvs : List (Key × V)} {D : List (PyData × PyData)} : H a = some (.dK kvs) → Flat kvs D → (PyData.dict D).showable = true → (PyData.dict D).depth ≤ 60 → (PyData.dict D).shown.length ≤ sizeLine → Shw K H (.ref a) (PyData.dict D).shown
mutual
theorem Dp.same {K : PySem.W.Frag} {H H' : Hp} (s : Same H H') : ∀ {v : V} {d : PyData}, Dp K H v d → Dp K H' v d
  | _, _, .non => .non
  | _, _, .bl b => .bl b
  | _, _, .int i => .int i
  | _, _, .str x => .str x
  | _, _, .lst h a => .lst (s.seq h) (DpAll.same s a)
  | _, _, .tup h a => .tup (s.sqt h) (DpAll.same s a)
theorem DpAll.same {K : PySem.W.Frag} {H H' : Hp} (s : Same H H') : ∀ {vs : List V} {ds : List PyData}, DpAll K H vs ds → DpAll K H' vs ds
  | _, _, .nil => .nil
  | _, _, .cons h r => .cons (Dp.same s h) (DpAll.same s r)
end
theorem Shw.same {K : PySem.W.Frag} {H H' : Hp} {v : V} {z : Str} (h : Shw K H v z) (s : Same H H') : Shw K H' v z := by
  cases h with
  | data d a b c e => exact .data (Dp.same s d) a b c e
  | dict ha hf a b c => exact .dict (s _ _ ha) hf a b c
/-- its kind: one of the seven built-in ones -/
def Kd (H : Hp) (v : V) (kn : String) : Prop := (v = .non ∧ kn = "NoneType") ∨ (∃ b, v = .bl b ∧ kn = "bool") ∨ (∃ i, v = .int i ∧ kn = "int") ∨ (∃ z, v = .str z ∧ kn = "str") ∨ (∃ a xs, v = .ref a ∧ H a = some (.lst xs) ∧ kn = "list") ∨ (∃ a xs, v = .ref a ∧ H a = some (.tup xs) ∧ kn = "tuple") ∨ (∃ a xs, v = .ref a ∧ H a = some (.dK xs) ∧ kn = "dict")
theorem Kd.same {H H' : Hp} {v : V} {kn : String} (h : Kd H v kn) (s : Same H H') : Kd H' v kn := by
  rcases h with h | h | h | h | ⟨a, xs, e, h, n⟩ | ⟨a, xs, e, h, n⟩ | ⟨a, xs, e, h, n⟩
  · exact .inl h
  · exact .inr (.inl h)
  · exact .inr (.inr (.inl h))
  · exact .inr (.inr (.inr (.inl h)))
  · exact .inr (.inr (.inr (.inr (.inl ⟨a, xs, e, s _ _ h, n⟩))))
  · exact .inr (.inr (.inr (.inr (.inr (.inl ⟨a, xs, e, s _ _ h, n⟩)))))
  · exact .inr (.inr (.inr (.inr (.inr (.inr ⟨a, xs, e, s _ _ h, n⟩)))))
theorem Kd.ty {K : PySem.W.Frag} {H : Hp} {v : V} {kn : String} (h : Kd H v kn) : TyX K H v (.type kn) := by
  rcases h with ⟨rfl, rfl⟩ | ⟨b, rfl, rfl⟩ | ⟨i, rfl, rfl⟩ | ⟨z, rfl, rfl⟩ | ⟨a, xs, rfl, h, rfl⟩ | ⟨a, xs, rfl, h, rfl⟩ | ⟨a, xs, rfl, h, rfl⟩
  · exact .base .non
  · exact .base (.bl b)
  · exact .base (.int i)
  · exact .base (.str z)
  · exact .base (.lst h)
  · exact .base (.tup h)
  · exact .base (.dK h)
/-! ### o.m(e, ..) in a body from which an error may come -/
section
variable {X : Cx} {CX : CXT} {k : Nat} {f C : Addr} {fd : FuncData} {ps : List Str} {sp : Sp} {dvs : List V} {ds : List Value} {E : L2.St → XK} {x m : Str} {p pos apos : Pos} {e o : Expr} {es : List Expr} {ta : TE} {t : TA}
end
end My
namespace My
open PySem PySem.Spec PyProof.Rows L2
/-! ### comprehensions with two walks -/
/-- what the inner walk is asked -/
def Inn2 (g1 : TG) (tt1 : TT) (te : TE) (vs1 : List Nat) (D : Addr) (NX : Hp → Prop) (σ2 : L2.St) (J1 : It) (H4 : Hp) : Prop :=
  ∃ W1 : Nat → Nat → Hp → Prop, (∃ m, W1 0 m H4) ∧ ∀ j k H, W1 j k H →
      (J1.stop j H ∧ NX H) ∨ (J1.go j H ∧ ∃ Nx1 : Hp → Prop, (∀ H', Nx1 H' → ∃ k', k' < k ∧ W1 (j + 1) k' H') ∧ ∀ x H', J1.yld j H x H' → g1 x (wipe σ2 vs1) H' fun σ3 H5 => wipe σ3 vs1 = wipe σ2 vs1 ∧ tt1 σ3 H5 fun b H6 =>
        if b = true then te σ3 H6 fun y H7 => ∃ acc, H7 D = some (.lst acc) ∧ acc.length < sizeLine ∧ Nx1 (upd H7 D (.lst (acc ++ [y]))) else Nx1 H6)
theorem inn2 {J1 : It} {m : Nat} {G1 : Hp → Prop} {Y1 : Nat → Hp → V → Hp → Prop} (w : Walk J1 m G1 Y1) {g1 : TG} {tt1 : TT} {te : TE} {vs1 : List Nat} {D : Addr} {NX : Hp → Prop} {σ2 : L2.St} {H4 : Hp} (Pv : Nat → Hp → Prop) (h0 : Pv 0 H4) (hG : ∀ j H, j ≤ m → Pv j H → G1 H)
    (hs : ∀ j x H H', j < m → Pv j H → Y1 j H x H' → g1 x (wipe σ2 vs1) H' fun σ3 H5 => wipe σ3 vs1 = wipe σ2 vs1 ∧ tt1 σ3 H5 fun b H6 =>
        if b = true then te σ3 H6 fun y H7 => ∃ acc, H7 D = some (.lst acc) ∧ acc.length < sizeLine ∧ Pv (j + 1) (upd H7 D (.lst (acc ++ [y]))) else Pv (j + 1) H6) (hd : ∀ H, Pv m H → NX H) : Inn2 g1 tt1 te vs1 D NX σ2 J1 H4 := by
  refine ⟨fun j k H => k = m - j ∧ j ≤ m ∧ Pv j H, ⟨m, by simp, Nat.zero_le _, h0⟩, ?_⟩
  rintro i k H ⟨rfl, hi, p⟩
  have q := hG i H hi p
  by_cases hlt : i < m
  · refine .inr ⟨w.goes i H hlt q, Pv (i + 1), fun H' p' => ⟨m - (i + 1), by omega, rfl, hlt, p'⟩, fun x H' y => hs i x H H' hlt p (w.yields i H x H' hlt q y)⟩
  · have e : i = m := by omega
    subst e
    exact .inl ⟨w.stops H q, hd H p⟩
/-! ### pairs of sizes, feet, rules broken -/
def PrV (H : Hp) (v : V) (p : Nat × Nat) : Prop := ∃ T, v = .ref T ∧ H T = some (.tup [.int (p.1 : Int), .int (p.2 : Int)])
theorem PrV.same {H H' : Hp} {v : V} {p : Nat × Nat} (a : PrV H v p) (s : Same H H') : PrV H' v p := by
  obtain ⟨T, e, h⟩ := a
  exact ⟨T, e, s _ _ h⟩
theorem PrV.nl {H H' : Hp} {v : V} {p : Nat × Nat} (a : PrV H v p) (s : Nl H H') : PrV H' v p := by
  obtain ⟨T, e, h⟩ := a
  exact ⟨T, e, s _ _ h rfl⟩
theorem PrV.kp {H H' : Hp} {h : Addr} {n : Nat} {v : V} {p : Nat × Nat} (a : PrV H v p) (hh : HandAt H h n) (s : Kp h H H') : PrV H' v p := by
  obtain ⟨T, e, h⟩ := a
  exact ⟨T, e, s.get hh h rfl⟩
/-- a grid, its ladders, their bits -/
structure GC (K : PySem.W.Frag) (CM CL CG : Addr) (H : Hp) (p : Addr) (j k : Nat) (L1 L2 : Addr) (zs ys : List Q2) (g : Q2) : Prop where
  ag : GrdAt K CM CL CG H p j L1 L2 g
  a1 : LadE K CM CL H L1 k zs
  a2 : LadE K CM CL H L2 k ys
  j0 : 0 < j
  j1 : j ≤ 1000
  k0 : 0 < k
  k1 : k ≤ 1000
  l0 : 0 < zs.length
  l1 : zs.length ≤ 24
  m0 : 0 < ys.length
  m1 : ys.length ≤ 24
section
variable {K : PySem.W.Frag} {CM CL CG p h L1 L2 : Addr} {H H' : Hp} {j k n : Nat} {zs ys : List Q2} {g : Q2}
theorem GC.same (a : GC K CM CL CG H p j k L1 L2 zs ys g) (s : Same H H') : GC K CM CL CG H' p j k L1 L2 zs ys g := by
  obtain ⟨r1, lo1, hi1, a1⟩ := a.a1
  obtain ⟨r2, lo2, hi2, a2⟩ := a.a2
  exact { a with ag := a.ag.same s, a1 := ⟨_, _, _, a1.same s⟩, a2 := ⟨_, _, _, a2.same s⟩ }
theorem GC.kp (a : GC K CM CL CG H p j k L1 L2 zs ys g) (hh : HandAt H h n) (s : Kp h H H') : GC K CM CL CG H' p j k L1 L2 zs ys g := by
  obtain ⟨r1, lo1, hi1, a1⟩ := a.a1
  obtain ⟨r2, lo2, hi2, a2⟩ := a.a2
  exact { a with ag := a.ag.kp hh s, a1 := ⟨_, _, _, a1.kp hh s⟩, a2 := ⟨_, _, _, a2.kp hh s⟩ }
end
/-- a foot: two Measures -/
def FtV (K : PySem.W.Frag) (CM : Addr) (H : Hp) (m : Nat) (v : V) (f : Q2 × Q2) : Prop := ∃ t f1 f2, v = .ref t ∧ SqT K H t [.ref f1, .ref f2] ∧ QAt CM H f1 m f.1 ∧ QAt CM H f2 m f.2
theorem FtV.same {K : PySem.W.Frag} {CM : Addr} {H H' : Hp} {m : Nat} {v : V} {f : Q2 × Q2} (a : FtV K CM H m v f) (s : Same H H') : FtV K CM H' m v f := by
  obtain ⟨t, f1, f2, e, h1, h2, h3⟩ := a
  exact ⟨t, f1, f2, e, s.sqt h1, h2.same s, h3.same s⟩
theorem FtV.nl {K : PySem.W.Frag} {CM : Addr} {H H' : Hp} {m : Nat} {v : V} {f : Q2 × Q2} (a : FtV K CM H m v f) (s : Nl H H') : FtV K CM H' m v f := by
  obtain ⟨t, f1, f2, e, h1, h2, h3⟩ := a
  exact ⟨t, f1, f2, e, sqt_nl h1 s, h2.nl s, h3.nl s⟩
theorem FtV.kp {K : PySem.W.Frag} {CM : Addr} {H H' : Hp} {h : Addr} {n m : Nat} {v : V} {f : Q2 × Q2} (a : FtV K CM H m v f) (hh : HandAt H h n) (s : Kp h H H') : FtV K CM H' m v f := by
  obtain ⟨t, f1, f2, e, h1, h2, h3⟩ := a
  exact ⟨t, f1, f2, e, sqt_kp h1 hh s, h2.kp hh s, h3.kp hh s⟩
/-- several feet -/
structure Fts (K : PySem.W.Frag) (CM : Addr) (H : Hp) (m : Nat) (us : List V) (fs : List (Q2 × Q2)) : Prop where
  len : us.length = fs.length
  all : ∀ (i : Nat) (v : V) (f : Q2 × Q2), us[i]? = some v → fs[i]? = some f → FtV K CM H m v f
section
variable {K : PySem.W.Frag} {CM h : Addr} {H H' : Hp} {m n : Nat} {us : List V} {fs : List (Q2 × Q2)}
theorem Fts.same (a : Fts K CM H m us fs) (s : Same H H') : Fts K CM H' m us fs := ⟨a.len, fun i v f h1 h2 => (a.all i v f h1 h2).same s⟩
theorem Fts.nl (a : Fts K CM H m us fs) (s : Nl H H') : Fts K CM H' m us fs := ⟨a.len, fun i v f h1 h2 => (a.all i v f h1 h2).nl s⟩
theorem Fts.kp (a : Fts K CM H m us fs) (hh : HandAt H h n) (s : Kp h H H') : Fts K CM H' m us fs := ⟨a.len, fun i v f h1 h2 => (a.all i v f h1 h2).kp hh s⟩
theorem Fts.of (a : Fts K CM H m us fs) {i : Nat} {v : V} (h1 : us[i]? = some v) : ∃ f, fs[i]? = some f ∧ FtV K CM H m v f := by
  have hi : i < fs.length := by rw [← a.len]; exact (List.getElem?_eq_some_iff.mp h1).1
  exact ⟨_, List.getElem?_eq_getElem hi, a.all i v _ h1 (List.getElem?_eq_getElem hi)⟩
theorem Fts.at (a : Fts K CM H m us fs) {i : Nat} {f : Q2 × Q2} (h1 : fs[i]? = some f) : ∃ v, us[i]? = some v ∧ FtV K CM H m v f := by
  have hi : i < us.length := by rw [a.len]; exact (List.getElem?_eq_some_iff.mp h1).1
  exact ⟨_, List.getElem?_eq_getElem hi, a.all i _ f (List.getElem?_eq_getElem hi) h1⟩
end
def FoV (H : Hp) (v : V) : Option (Nat × Str) → Prop
  | none => v = .non
  | some q => ∃ T, v = .ref T ∧ H T = some (.tup [.int (q.1 : Int), .str q.2])
theorem FoV.same {H H' : Hp} {v : V} (s : Same H H') : ∀ {o : Option (Nat × Str)}, FoV H v o → FoV H' v o
  | none, h => h
  | some _, ⟨T, h1, h2⟩ => ⟨T, h1, s _ _ h2⟩
/-- a paper -/
def PpV (H : Hp) (v : V) (p : Nat × Nat) (q : Nat × Str) : Prop := ∃ T, v = .ref T ∧ H T = some (.tup [.int (p.1 : Int), .int (p.2 : Int), .int (q.1 : Int), .str q.2])
theorem PpV.same {H H' : Hp} {v : V} {p : Nat × Nat} {q : Nat × Str} (a : PpV H v p q) (s : Same H H') : PpV H' v p q := by
  obtain ⟨T, e, h⟩ := a
  exact ⟨T, e, s _ _ h⟩
theorem PpV.nl {H H' : Hp} {v : V} {p : Nat × Nat} {q : Nat × Str} (a : PpV H v p q) (s : Nl H H') : PpV H' v p q := by
  obtain ⟨T, e, h⟩ := a
  exact ⟨T, e, s _ _ h rfl⟩
theorem PpV.kp {H H' : Hp} {h : Addr} {n : Nat} {v : V} {p : Nat × Nat} {q : Nat × Str} (a : PpV H v p q) (hh : HandAt H h n) (s : Kp h H H') : PpV H' v p q := by
  obtain ⟨T, e, h⟩ := a
  exact ⟨T, e, s.get hh h rfl⟩
/-- the papers of pairs each of which is broken -/
structure Pps (H : Hp) (us : List V) (ps : List (Nat × Nat)) (F : Nat × Nat → Option (Nat × Str)) : Prop where
  len : us.length = ps.length
  all : ∀ (i : Nat) (v : V) (p : Nat × Nat), us[i]? = some v → ps[i]? = some p → ∃ q, F p = some q ∧ PpV H v p q
section
variable {H H' : Hp} {h : Addr} {n : Nat} {us : List V} {ps : List (Nat × Nat)} {F : Nat × Nat → Option (Nat × Str)}
theorem Pps.same (a : Pps H us ps F) (s : Same H H') : Pps H' us ps F := ⟨a.len, fun i v p h1 h2 => by
  obtain ⟨q, e, h⟩ := a.all i v p h1 h2
  exact ⟨q, e, h.same s⟩⟩
theorem Pps.nl (a : Pps H us ps F) (s : Nl H H') : Pps H' us ps F := ⟨a.len, fun i v p h1 h2 => by
  obtain ⟨q, e, h⟩ := a.all i v p h1 h2
  exact ⟨q, e, h.nl s⟩⟩
theorem Pps.kp (a : Pps H us ps F) (hh : HandAt H h n) (s : Kp h H H') : Pps H' us ps F := ⟨a.len, fun i v p h1 h2 => by
  obtain ⟨q, e, h⟩ := a.all i v p h1 h2
  exact ⟨q, e, h.kp hh s⟩⟩
end
/-- what pair_for tells -/
def ToldV (H : Hp) (v : V) (ps : List (Nat × Nat)) (F : Nat × Nat → Option (Nat × Str)) : Option (Nat × Nat) → Prop
  | some p => ∃ T w, v = .ref T ∧ H T = some (.tup [.str "pair", w]) ∧ PrV H w p
  | none => ∃ T q us, v = .ref T ∧ H T = some (.tup [.str "none", .ref q]) ∧ H q = some (.tup us) ∧ Pps H us ps F
theorem ToldV.same {H H' : Hp} {v : V} {ps : List (Nat × Nat)} {F : Nat × Nat → Option (Nat × Str)} (s : Same H H') : ∀ {o : Option (Nat × Nat)}, ToldV H v ps F o → ToldV H' v ps F o
  | some _, ⟨T, w, h1, h2, h3⟩ => ⟨T, w, h1, s _ _ h2, h3.same s⟩
  | none, ⟨T, q, us, h1, h2, h3, h4⟩ => ⟨T, q, us, h1, s _ _ h2, s _ _ h3, h4.same s⟩
theorem ToldV.nl {H H' : Hp} {v : V} {ps : List (Nat × Nat)} {F : Nat × Nat → Option (Nat × Str)} (s : Nl H H') : ∀ {o : Option (Nat × Nat)}, ToldV H v ps F o → ToldV H' v ps F o
  | some _, ⟨T, w, h1, h2, h3⟩ => ⟨T, w, h1, s _ _ h2 rfl, h3.nl s⟩
  | none, ⟨T, q, us, h1, h2, h3, h4⟩ => ⟨T, q, us, h1, s _ _ h2 rfl, s _ _ h3 rfl, h4.nl s⟩
theorem ToldV.kp {H H' : Hp} {h : Addr} {n : Nat} {v : V} {ps : List (Nat × Nat)} {F : Nat × Nat → Option (Nat × Str)} (hh : HandAt H h n) (s : Kp h H H') : ∀ {o : Option (Nat × Nat)}, ToldV H v ps F o → ToldV H' v ps F o
  | some _, ⟨T, w, h1, h2, h3⟩ => ⟨T, w, h1, s.get hh h2 rfl, h3.kp hh s⟩
  | none, ⟨T, q, us, h1, h2, h3, h4⟩ => ⟨T, q, us, h1, s.get hh h2 rfl, s.get hh h3 rfl, h4.kp hh s⟩
end My
/-! ### zip of two walks, each over a list (false) or a tuple (true) -/
namespace My
open PySem PySem.Spec PyProof.Rows L2
def KI (b : Bool) (h : Heap) (it l : Addr) (i : Nat) : Prop := if b = true then h.IsTupleIter it l i else h.IsListIter it l i
def KS (b : Bool) (h : Heap) (l : Addr) (items : Array Value) : Prop := if b = true then h.IsTuple l items else h.IsList l items
section
variable {b : Bool} {h h' : Heap} {it l c : Addr} {i : Nat} {items : Array Value}
theorem KI.ext (a : KI b h it l i) (k : Heap.ExtBut c h h') (n : it ≠ c) : KI b h' it l i := by
  cases b with
  | false => exact Heap.IsListIter.extBut (show h.IsListIter it l i from a) k n
  | true => exact Heap.IsTupleIter.extBut (show h.IsTupleIter it l i from a) k n
theorem KS.ext (a : KS b h l items) (k : Heap.ExtBut c h h') (n : l ≠ c) : KS b h' l items := by
  cases b with
  | false => exact Heap.IsList.extBut (show h.IsList l items from a) k n
  | true => exact Heap.IsTuple.extBut (show h.IsTuple l items from a) k n
theorem KS.lt (a : KS b h l items) : l < h.objs.size := by
  cases b with
  | false =>
    obtain ⟨o, e, _⟩ := (show h.IsList l items from a)
    exact Heap.lt_size e
  | true =>
    obtain ⟨o, e, _⟩ := (show h.IsTuple l items from a)
    exact Heap.lt_size e
end
section
variable {prog : Program} {w : World} {A : Around} {E : Value → Shared → Prop} {s : Shared} {b : Bool} {it l : Addr} {i : Nat} {items : Array Value}
end

section
variable {prog : Program} {w : World} {A : Around} {E : Value → Shared → Prop} {s : Shared} {b1 b2 : Bool} {z TI TO i1 i2 l1 l2 : Addr} {k1 k2 : Nat} {xs ys : Array Value} {x y a b : Value}
end

/-! ### a > b of pairs of whole numbers -/
/-! ### t != () -/
end My
namespace My
open PySem PySem.Spec PyProof.Rows L2
end My
namespace My
open PySem PySem.Spec PyProof.Rows L2
/-! ### sorted(xs, key=len), xs a list of tuples -/
section
variable {prog : Program} {w : World} {A : Around} {E : Value → Shared → Prop} {s : Shared} {h0 : Heap} {a kS : Addr} {vs : List Value} {kz : List Int} {keys : Array Value} {e e1 : Nat} {P : PySem.Fin → Shared → Prop}
end
section
variable {prog : Program} {w : World} {A : Around} {E : Value → Shared → Prop} {s : Shared} {l : Addr} {vs : List Value} {kz : List Int} {Q : Value → Shared → Prop}
end
section
variable {X : Cx}
end
end My
namespace My
open PySem PySem.Spec PyProof.Rows L2
/-! ### min of a list of pairs of whole numbers -/
section
variable {prog : Program} {w : World} {A : Around} {R : Result → Shared → Prop} {I : Addr} {fp wr : List Addr} {n : Nat} {P : Nat → Value → Prop} {St : Nat → Heap → Prop}
end
section
variable {prog : Program} {w : World} {A : Around} {E : Value → Shared → Prop} {s : Shared}
end
end My
namespace My
open PySem PySem.Spec PyProof.Rows L2
/-! ### where two ladders part -/
/-- a rational number as a fraction -/
def ofR (r : Rat) : Q2 := (r.num, (r.den : Int))
theorem ofR_pos (r : Rat) : 0 < (ofR r).2 := by
  have := r.den_pos
  show (0 : Int) < (r.den : Int)
  omega
theorem toR_ofR (r : Rat) : toR (ofR r) = r := by
  unfold toR ofR
  show (r.num : Rat) / ((r.den : Int) : Rat) = r
  rw [← Rat.divInt_eq_div, Rat.num_divInt_den]
/-- the size of a measure, as a rational number -/
def sizF (zs : List Q2) (r : Str) (lo hi : Option Q2) (x : Rat) : Option Nat := sizeQ zs r lo hi (ofR x)
theorem posO_E {o : Option Q2} (h : PosO o) : PosE o := fun a e => by
  subst e
  exact h
theorem sizF_eq {zs : List Q2} {r : Str} {lo hi : Option Q2} {x : Q2} (L : LadQ zs r lo hi) (hx : 0 < x.2) : sizeQ zs r lo hi x = sizF zs r lo hi (toR x) :=
  sizeQ_congr L.pos (posO_E L.plo) (posO_E L.phi) (re_of_R hx (ofR_pos _) (toR_ofR _).symm)
def alkB (a b : Option Nat) (sh : Int) : Bool := match a, b with
  | none, none => true
  | some m, some n => decide ((n : Int) = (m : Int) + sh)
  | _, _ => false
/-- what parting tells: None for alike, else the measure, whether behind it, both sizes -/
abbrev PRes := Option (Rat × Bool × Option Nat × Option Nat)
def PartS (F G : Rat → Option Nat) (sh : Int) (lo hi : Rat) : PRes → Prop
  | none => ∀ x, lo ≤ x → x ≤ hi → alkB (F x) (G x) sh = true
  | some (m, false, a, b) => lo ≤ m ∧ m ≤ hi ∧ F m = a ∧ G m = b ∧ alkB a b sh = false ∧ ∀ x, lo ≤ x → x < m → alkB (F x) (G x) sh = true
  | some (m, true, a, b) => lo ≤ m ∧ m < hi ∧ alkB a b sh = false ∧ (∀ x, lo ≤ x → x ≤ m → alkB (F x) (G x) sh = true) ∧ ∃ e, m < e ∧ e ≤ hi ∧ ∀ x, m < x → x < e → F x = a ∧ G x = b
theorem midR {a b : Rat} (h : a < b) : a < (a + b) / 2 ∧ (a + b) / 2 < b := by
  constructor <;> grind
theorem PartS.uniq {F G : Rat → Option Nat} {sh : Int} {lo hi : Rat} : ∀ {r s : PRes}, PartS F G sh lo hi r → PartS F G sh lo hi s → r = s
  | none, none, _, _ => rfl
  | none, some (m, false, a, b), h, g => by
    obtain ⟨g1, g2, g3, g4, g5, g6⟩ := g
    have := h m g1 g2
    rw [g3, g4, g5] at this
    cases this
  | some (m, false, a, b), none, h, g => by
    obtain ⟨g1, g2, g3, g4, g5, g6⟩ := h
    have := g m g1 g2
    rw [g3, g4, g5] at this
    cases this
  | none, some (m, true, a, b), h, g => by
    obtain ⟨g1, g2, g3, g4, e, g5, g6, g7⟩ := g
    obtain ⟨m1, m2⟩ := midR g5
    have := h ((m + e) / 2) (by grind) (by grind)
    rw [(g7 _ m1 m2).1, (g7 _ m1 m2).2, g3] at this
    cases this
  | some (m, true, a, b), none, h, g => by
    obtain ⟨g1, g2, g3, g4, e, g5, g6, g7⟩ := h
    obtain ⟨m1, m2⟩ := midR g5
    have := g ((m + e) / 2) (by grind) (by grind)
    rw [(g7 _ m1 m2).1, (g7 _ m1 m2).2, g3] at this
    cases this
  | some (m, false, a, b), some (m', false, a', b'), h, g => by
    obtain ⟨h1, h2, h3, h4, h5, h6⟩ := h
    obtain ⟨g1, g2, g3, g4, g5, g6⟩ := g
    have e : m = m' := by
      by_cases c : m < m'
      · have := g6 m h1 c
        rw [h3, h4, h5] at this
        cases this
      · by_cases c' : m' < m
        · have := h6 m' g1 c'
          rw [g3, g4, g5] at this
          cases this
        · grind
    subst e
    rw [← h3, ← h4, ← g3, ← g4]
  | some (m, false, a, b), some (m', true, a', b'), h, g => by
    obtain ⟨h1, h2, h3, h4, h5, h6⟩ := h
    obtain ⟨g1, g2, g3, g4, e, g5, g6, g7⟩ := g
    by_cases c : m ≤ m'
    · have := g4 m h1 c
      rw [h3, h4, h5] at this
      cases this
    · by_cases d : e ≤ m
      · obtain ⟨m1, m2⟩ := midR g5
        have := h6 ((m' + e) / 2) (by grind) (by grind)
        rw [(g7 _ m1 m2).1, (g7 _ m1 m2).2, g3] at this
        cases this
      · have c2 : m' < m := by grind
        obtain ⟨m1, m2⟩ := midR c2
        have := h6 ((m' + m) / 2) (by grind) m2
        have q := g7 ((m' + m) / 2) m1 (by grind)
        rw [q.1, q.2, g3] at this
        cases this
  | some (m', true, a', b'), some (m, false, a, b), g, h => by
    obtain ⟨h1, h2, h3, h4, h5, h6⟩ := h
    obtain ⟨g1, g2, g3, g4, e, g5, g6, g7⟩ := g
    by_cases c : m ≤ m'
    · have := g4 m h1 c
      rw [h3, h4, h5] at this
      cases this
    · by_cases d : e ≤ m
      · obtain ⟨m1, m2⟩ := midR g5
        have := h6 ((m' + e) / 2) (by grind) (by grind)
        rw [(g7 _ m1 m2).1, (g7 _ m1 m2).2, g3] at this
        cases this
      · have c2 : m' < m := by grind
        obtain ⟨m1, m2⟩ := midR c2
        have := h6 ((m' + m) / 2) (by grind) m2
        have q := g7 ((m' + m) / 2) m1 (by grind)
        rw [q.1, q.2, g3] at this
        cases this
  | some (m, true, a, b), some (m', true, a', b'), h, g => by
    obtain ⟨h1, h2, h3, h4, d, h5, h6, h7⟩ := h
    obtain ⟨g1, g2, g3, g4, e, g5, g6, g7⟩ := g
    have key : ∀ (m m' d : Rat), m < d → m < m' → ∃ x, m < x ∧ x < d ∧ x ≤ m' := fun m m' d q1 q2 => by
      by_cases c : d ≤ m'
      · exact ⟨(m + d) / 2, (midR q1).1, (midR q1).2, by have := (midR q1).2; grind⟩
      · exact ⟨(m + m') / 2, (midR q2).1, by have := (midR q2).2; grind, by have := (midR q2).2; grind⟩
    have em : m = m' := by
      by_cases c : m < m'
      · obtain ⟨x, x1, x2, x3⟩ := key m m' d h5 c
        have := g4 x (by grind) x3
        rw [(h7 x x1 x2).1, (h7 x x1 x2).2, h3] at this
        cases this
      · by_cases c' : m' < m
        · obtain ⟨x, x1, x2, x3⟩ := key m' m e g5 c'
          have := h4 x (by grind) x3
          rw [(g7 x x1 x2).1, (g7 x x1 x2).2, g3] at this
          cases this
        · grind
    subst em
    obtain ⟨x, x1, x2, x3⟩ := key m e d h5 g5
    have x4 : m < (m + x) / 2 ∧ (m + x) / 2 < x := midR x1
    have p := h7 ((m + x) / 2) x4.1 (by grind)
    have q := g7 ((m + x) / 2) x4.1 (by grind)
    rw [← p.1, ← p.2, ← q.1, ← q.2]
/-- points from lo to hi between which nothing changes -/
structure Pts (F G : Rat → Option Nat) (lo hi : Rat) (ps : List Rat) : Prop where
  fst : ps[0]? = some lo
  lst : ps.getLast? = some hi
  rise : ∀ (i : Nat) (a b : Rat), ps[i]? = some a → ps[i + 1]? = some b → a < b
  gap : ∀ (i : Nat) (a b : Rat), ps[i]? = some a → ps[i + 1]? = some b → ∀ x y, a < x → x < b → a < y → y < b → F x = F y ∧ G x = G y
theorem riseR {ps : List Rat} (h : ∀ (i : Nat) (a b : Rat), ps[i]? = some a → ps[i + 1]? = some b → a < b) : ∀ {i j : Nat} {a b : Rat}, i < j → ps[i]? = some a → ps[j]? = some b → a < b
  | i, 0, _, _, hij, _, _ => by omega
  | i, j + 1, a, b, hij, ha, hb => by
    by_cases e : i = j
    · subst e; exact h i a b ha hb
    · have lj := (List.getElem?_eq_some_iff.mp hb).1
      have hc : ps[j]? = some ps[j] := List.getElem?_eq_getElem (by omega)
      have h1 := riseR h (show i < j by omega) ha hc
      have h2 := h j _ _ hc hb
      grind
theorem coverR : ∀ {ps : List Rat} {lo hi x : Rat}, ps[0]? = some lo → ps.getLast? = some hi → lo ≤ x → x ≤ hi → ∃ i a, ps[i]? = some a ∧ (x = a ∨ ∃ b, ps[i + 1]? = some b ∧ a < x ∧ x < b)
  | [], _, _, _, h, _, _, _ => by simp at h
  | [p], lo, hi, x, h, g, h1, h2 => by
    cases h
    cases g
    exact ⟨0, p, rfl, .inl (by grind)⟩
  | p :: q :: r, lo, hi, x, h, g, h1, h2 => by
    cases h
    by_cases c : x = p
    · exact ⟨0, p, rfl, .inl c⟩
    · by_cases d : x < q
      · exact ⟨0, p, rfl, .inr ⟨q, rfl, by grind, d⟩⟩
      · obtain ⟨i, a, e1, e2⟩ := coverR (ps := q :: r) (lo := q) (hi := hi) (x := x) rfl (by rw [List.getLast?_cons_cons] at g; exact g) (by grind) h2
        exact ⟨i + 1, a, by simpa using e1, by rcases e2 with e2 | ⟨b, e2, e3⟩
                                               · exact .inl e2
                                               · exact .inr ⟨b, by simpa using e2, e3⟩⟩
section
variable {F G : Rat → Option Nat} {sh : Int} {lo hi : Rat} {ps : List Rat}
theorem Pts.le (P : Pts F G lo hi ps) {i : Nat} {a : Rat} (h : ps[i]? = some a) : lo ≤ a ∧ a ≤ hi := by
  have l := (List.getElem?_eq_some_iff.mp h).1
  constructor
  · by_cases e : i = 0
    · subst e
      rw [P.fst] at h
      cases h
      exact Rat.le_refl
    · have := riseR P.rise (show 0 < i by omega) P.fst h
      grind
  · have hl : ps[ps.length - 1]? = some hi := by rw [← List.getLast?_eq_getElem?]; exact P.lst
    by_cases e : i = ps.length - 1
    · subst e
      rw [hl] at h
      cases h
      exact Rat.le_refl
    · have := riseR P.rise (show i < ps.length - 1 by omega) h hl
      grind
/-- all points and gaps ahead of the i-th are alike -/
theorem Pts.ahead (P : Pts F G lo hi ps) {i : Nat} {a : Rat} (h : ps[i]? = some a) (h1 : ∀ (j : Nat) (c : Rat), j < i → ps[j]? = some c → alkB (F c) (G c) sh = true)
    (h2 : ∀ (j : Nat) (c d : Rat), j < i → ps[j]? = some c → ps[j + 1]? = some d → ∃ y, c < y ∧ y < d ∧ alkB (F y) (G y) sh = true) : ∀ x, lo ≤ x → x < a → alkB (F x) (G x) sh = true := fun x x1 x2 => by
  obtain ⟨j, c, e1, e2⟩ := coverR P.fst P.lst x1 (by have := (P.le h).2; grind)
  have hj : j < i := by
    refine Nat.lt_of_not_le fun q => ?_
    have : a ≤ c := by
      by_cases e : i = j
      · subst e
        rw [h] at e1
        cases e1
        exact Rat.le_refl
      · have := riseR P.rise (show i < j by omega) h e1
        grind
    rcases e2 with e2 | ⟨b, _, e3, _⟩ <;> grind
  rcases e2 with rfl | ⟨b, e3, e4, e5⟩
  · exact h1 j _ hj e1
  · obtain ⟨y, y1, y2, y3⟩ := h2 j c b hj e1 e3
    have g := P.gap j c b e1 e3 x y e4 e5 y1 y2
    rw [g.1, g.2]
    exact y3
theorem Pts.part_at (P : Pts F G lo hi ps) {i : Nat} {a : Rat} (h : ps[i]? = some a) (h1 : ∀ (j : Nat) (c : Rat), j < i → ps[j]? = some c → alkB (F c) (G c) sh = true)
    (h2 : ∀ (j : Nat) (c d : Rat), j < i → ps[j]? = some c → ps[j + 1]? = some d → ∃ y, c < y ∧ y < d ∧ alkB (F y) (G y) sh = true) (n : alkB (F a) (G a) sh = false) : PartS F G sh lo hi (some (a, false, F a, G a)) :=
  ⟨(P.le h).1, (P.le h).2, rfl, rfl, n, P.ahead h h1 h2⟩
theorem Pts.part_behind (P : Pts F G lo hi ps) {i : Nat} {a b y : Rat} (h : ps[i]? = some a) (hb : ps[i + 1]? = some b) (y1 : a < y) (y2 : y < b) (h1 : ∀ (j : Nat) (c : Rat), j ≤ i → ps[j]? = some c → alkB (F c) (G c) sh = true)
    (h2 : ∀ (j : Nat) (c d : Rat), j < i → ps[j]? = some c → ps[j + 1]? = some d → ∃ y, c < y ∧ y < d ∧ alkB (F y) (G y) sh = true) (n : alkB (F y) (G y) sh = false) : PartS F G sh lo hi (some (a, true, F y, G y)) := by
  have lt := P.rise i a b h hb
  refine ⟨(P.le h).1, by have := (P.le hb).2; grind, n, fun x x1 x2 => ?_, b, lt, (P.le hb).2, fun x x1 x2 => P.gap i a b h hb x y x1 x2 y1 y2⟩
  by_cases c : x < a
  · exact P.ahead h (fun j c hj => h1 j c (by omega)) h2 x x1 c
  · have : x = a := by grind
    subst this
    exact h1 i _ (Nat.le_refl _) h
theorem Pts.part_none (P : Pts F G lo hi ps) (h1 : ∀ (j : Nat) (c : Rat), ps[j]? = some c → alkB (F c) (G c) sh = true) (h2 : ∀ (j : Nat) (c d : Rat), ps[j]? = some c → ps[j + 1]? = some d → ∃ y, c < y ∧ y < d ∧ alkB (F y) (G y) sh = true) : PartS F G sh lo hi none := fun x x1 x2 => by
  obtain ⟨j, c, e1, e2⟩ := coverR P.fst P.lst x1 x2
  rcases e2 with rfl | ⟨b, e3, e4, e5⟩
  · exact h1 j _ e1
  · obtain ⟨y, y1, y2, y3⟩ := h2 j c b e1 e3
    have g := P.gap j c b e1 e3 x y e4 e5 y1 y2
    rw [g.1, g.2]
    exact y3
end
/-- no end of a stretch lies strictly between -/
def NoTurn (zs : List Q2) (r : Str) (lo hi : Option Q2) (a b : Rat) : Prop := ∀ n, n < zs.length → sizB zs r lo hi n = true → (∀ e, (sizE zs r lo hi n).1.1 = some e → ¬ (a < toR e ∧ toR e < b)) ∧ ∀ e, (sizE zs r lo hi n).2.1 = some e → ¬ (a < toR e ∧ toR e < b)
theorem loIn_gap {a b x y : Rat} {o : Option Q2} {i : Bool} (p : PosO o) (h : ∀ e, o = some e → ¬ (a < toR e ∧ toR e < b)) (x1 : a < x) (x2 : x < b) (y1 : a < y) (y2 : y < b) : loIn o i (ofR x) = true → loIn o i (ofR y) = true := by
  cases o with
  | none => exact fun _ => rfl
  | some e =>
    have pe : 0 < e.2 := p
    have q := h e rfl
    intro g
    have g : (ltq e (ofR x) || (i && eqq e (ofR x))) = true := g
    show (ltq e (ofR y) || (i && eqq e (ofR y))) = true
    have le : toR e ≤ x := by
      rw [Bool.or_eq_true] at g
      rcases g with g | g
      · have := (ltq_R pe (ofR_pos x)).mp g
        rw [toR_ofR] at this
        grind
      · rw [Bool.and_eq_true] at g
        have := re_R (eqq_re pe (ofR_pos x) g.2)
        rw [toR_ofR] at this
        grind
    have lt : toR e < y := by grind
    rw [(ltq_R pe (ofR_pos y)).mpr (by rw [toR_ofR]; exact lt)]
    rfl
theorem hiIn_gap {a b x y : Rat} {o : Option Q2} {i : Bool} (p : PosO o) (h : ∀ e, o = some e → ¬ (a < toR e ∧ toR e < b)) (x1 : a < x) (x2 : x < b) (y1 : a < y) (y2 : y < b) : hiIn o i (ofR x) = true → hiIn o i (ofR y) = true := by
  cases o with
  | none => exact fun _ => rfl
  | some e =>
    have pe : 0 < e.2 := p
    have q := h e rfl
    intro g
    have g : (ltq (ofR x) e || (i && eqq (ofR x) e)) = true := g
    show (ltq (ofR y) e || (i && eqq (ofR y) e)) = true
    have le : x ≤ toR e := by
      rw [Bool.or_eq_true] at g
      rcases g with g | g
      · have := (ltq_R (ofR_pos x) pe).mp g
        rw [toR_ofR] at this
        grind
      · rw [Bool.and_eq_true] at g
        have := re_R (eqq_re (ofR_pos x) pe g.2)
        rw [toR_ofR] at this
        grind
    have lt : y < toR e := by grind
    rw [(ltq_R (ofR_pos y) pe).mpr (by rw [toR_ofR]; exact lt)]
    rfl
theorem siz_gap1 {zs : List Q2} {r : Str} {lo hi : Option Q2} {a b x y : Rat} {n : Nat} (L : LadQ zs r lo hi) (h : NoTurn zs r lo hi a b) (x1 : a < x) (x2 : x < b) (y1 : a < y) (y2 : y < b) (e : sizF zs r lo hi x = some n) : sizF zs r lo hi y = some n := by
  have hn := sizeQ_lt e
  have hi1 := (siz_in L (ofR_pos x) hn).mpr e
  have hs := (siz_some (n := n) L).mpr ⟨ofR x, ofR_pos x, hi1⟩
  obtain ⟨t1, t2⟩ := h n hn hs
  have p := sizE_pos (n := n) L
  refine (siz_in L (ofR_pos y) hn).mp ?_
  unfold sizIn at hi1 ⊢
  rw [Bool.and_eq_true] at hi1
  rw [loIn_gap p.1 t1 x1 x2 y1 y2 hi1.1, hiIn_gap p.2 t2 x1 x2 y1 y2 hi1.2]
  rfl
/-- between two neighbouring turns the size is one -/
theorem siz_gap {zs : List Q2} {r : Str} {lo hi : Option Q2} {a b x y : Rat} (L : LadQ zs r lo hi) (h : NoTurn zs r lo hi a b) (x1 : a < x) (x2 : x < b) (y1 : a < y) (y2 : y < b) : sizF zs r lo hi x = sizF zs r lo hi y := by
  cases e : sizF zs r lo hi x with
  | some n => exact (siz_gap1 L h x1 x2 y1 y2 e).symm
  | none =>
    cases g : sizF zs r lo hi y with
    | none => rfl
    | some n =>
      have := siz_gap1 L h y1 y2 x1 x2 g
      rw [e] at this
      cases this
/-- a comprehension of two walks: what stands of the list so far is said by P and Pin; an outer turn may be left out -/
theorem lc2p {J : It} {n m : Nat} {G : Hp → Prop} {Y : Nat → Hp → V → Hp → Prop} {g g1 : TG} {tt tt1 : TT} {wi1 : TI} {te : TE} {vs vs1 : List Nat} {σ : L2.St} {H1 : Hp} {D : Addr} {Qd : Hp → Prop}
    (w : Walk J n G Y) (hGs : ∀ H H', G H → Same H H' → G H') (P : Nat → Hp → List V → Prop) (Pin : Nat → Nat → Hp → List V → Prop)
    (hP : ∀ i H H' acc, P i H acc → Nl H H' → P i H' acc) (hPin : ∀ i j H H' acc, Pin i j H acc → Nl H H' → Pin i j H' acc)
    (hz : n * m < sizeLine) (hG : G H1) (hD : H1 D = none) (h0 : P 0 (upd H1 D (.lst [])) [])
    (hs : ∀ (i : Nat) (x : V) (H H' : Hp) (acc : List V) (NX : Hp → Prop), i < n → Same H1 H → H D = some (.lst acc) → P i H acc → Y i H x H' → (∀ H3, Same H H3 → P (i + 1) H3 acc → NX H3) →
      (∀ (J1 : It) (H4 : Hp) (σ2 : L2.St) (G1 : Hp → Prop) (Y1 : Nat → Hp → V → Hp → Prop), Same H H4 → Pin i 0 H4 acc → Walk J1 m G1 Y1 → (∀ H5, Kp D H4 H5 → G1 H5) →
        (∀ (j : Nat) (x : V) (H5 H6 : Hp) (acc : List V) (N : VK) (M : Hp → Prop), j < m → Kp D H4 H5 → H5 D = some (.lst acc) → Pin i j H5 acc → Y1 j H5 x H6 → (∀ y H7, Same H5 H7 → Pin i (j + 1) H7 (acc ++ [y]) → N y H7) → (∀ H7, Same H5 H7 → Pin i (j + 1) H7 acc → M H7) →
          g1 x (wipe σ2 vs1) H6 fun σ3 H8 => wipe σ3 vs1 = wipe σ2 vs1 ∧ tt1 σ3 H8 fun b H9 => if b = true then te σ3 H9 N else M H9) →
        (∀ H5 acc, Kp D H4 H5 → Pin i m H5 acc → P (i + 1) H5 acc) → Inn2 g1 tt1 te vs1 D NX σ2 J1 H4) →
      g x (wipe σ vs) H' fun σ2 H2 => wipe σ2 vs = wipe σ vs ∧ tt σ2 H2 fun b H3 => if b = true then wi1 σ2 H3 fun J1 H4 => Inn2 g1 tt1 te vs1 D NX σ2 J1 H4 else NX H3)
    (hd : ∀ H acc, Same H1 H → H D = some (.lst acc) → acc.length ≤ n * m → P n H acc → Qd H) :
    ∃ W : Nat → Nat → Hp → Prop, (∃ m, W 0 m (upd H1 D (.lst []))) ∧ ∀ i m H, W i m H →
  (J.stop i H ∧ Qd H) ∨ (J.go i H ∧ ∃ Nx : Hp → Prop, (∀ H', Nx H' → ∃ m', m' < m ∧ W (i + 1) m' H') ∧ ∀ x H', J.yld i H x H' → g x (wipe σ vs) H' fun σ2 H2 => wipe σ2 vs = wipe σ vs ∧ tt σ2 H2 fun b H3 =>
    if b = true then wi1 σ2 H3 fun J1 H4 => Inn2 g1 tt1 te vs1 D Nx σ2 J1 H4
    else Nx H3) := by
  let Pv : Nat → Hp → Prop := fun i H => Same H1 H ∧ ∃ acc, H D = some (.lst acc) ∧ acc.length ≤ i * m ∧ P i H acc
  refine ⟨fun i k H => k = n - i ∧ i ≤ n ∧ Pv i H, ⟨n, by simp, Nat.zero_le _, same1 hD, [], upd_same, Nat.zero_le _, h0⟩, ?_⟩
  rintro i k H ⟨rfl, hi, p⟩
  have q := hGs _ _ hG p.1
  by_cases hlt : i < n
  · refine .inr ⟨w.goes i H hlt q, Pv (i + 1), fun H' p' => ⟨n - (i + 1), by omega, rfl, hlt, p'⟩, fun x H' y => ?_⟩
    obtain ⟨sH, acc, hacc, lacc, pH⟩ := p
    have em : (i + 1) * m = i * m + m := by rw [Nat.add_mul, Nat.one_mul]
    have le : (i + 1) * m ≤ n * m := Nat.mul_le_mul_right _ hlt
    refine hs i x H H' acc _ hlt sH hacc pH (w.yields i H x H' hlt q y) (fun H3 s3 p3 => ⟨sH.trans s3, acc, s3 _ _ hacc, by omega, p3⟩) (fun J1 H4 σ2 G1 Y1 s4 pin w1 hG1 hin hfin => ?_)
    refine inn2 w1 (fun j H => Kp D H4 H ∧ Same H1 H ∧ ∃ acc, H D = some (.lst acc) ∧ acc.length ≤ i * m + j ∧ Pin i j H acc) ⟨Kp.refl _ _, sH.trans s4, acc, s4 _ _ hacc, by omega, pin⟩ (fun j H _ p => hG1 _ p.1) (fun j x H5 H6 hj p5 y5 => ?_) (fun H p => ?_)
    · obtain ⟨k5, s5, acc5, h5, l5, pin5⟩ := p5
      refine hin j x H5 H6 acc5 _ _ hj k5 h5 pin5 y5 (fun v H7 s7 pin7 => ⟨acc5, s7 _ _ h5, Nat.lt_of_le_of_lt (show acc5.length ≤ n * m by omega) hz, ?_, ?_, acc5 ++ [v], upd_same, ?_, hPin _ _ _ _ _ pin7 (Nl.put (s7 _ _ h5))⟩) (fun H7 s7 pin7 => ⟨k5.trans (Kp.same s7), s5.trans s7, acc5, s7 _ _ h5, by omega, pin7⟩)
      · intro c o ec nc
        rw [upd_ne nc]
        exact s7 _ _ (k5 c o ec nc)
      · intro c o ec
        rw [upd_ne (ne_of_none ec hD)]
        exact s7 _ _ (s5 _ _ ec)
      · rw [List.length_append, List.length_singleton]
        omega
    · obtain ⟨k5, s5, acc5, h5, l5, pin5⟩ := p
      exact ⟨s5, acc5, h5, by omega, hfin _ _ k5 pin5⟩
  · have e : i = n := by omega
    subst e
    obtain ⟨sH, acc, hacc, lacc, pH⟩ := p
    exact .inl ⟨w.stops H q, hd H acc sH hacc lacc pH⟩
end My
namespace My
open PySem PySem.Spec PySem.Calls PyProof.Rows L2
/-! ### sorted(set(xs)) of a list of whole numbers, up to a thousand -/
/-- a set that is new -/
abbrev newSet (w : World) : Obj := ⟨.type "set", none, .set #[] 0 (.fresh 0 0 (!w.params.followText "set-order")), #[]⟩
section
variable {P : Program} {w : World} {A : Around} {E : Value → Shared → Prop} {s : Shared}
theorem set_listI {l : Addr} {its : Array Value} (ns : List Int) {Q : Value → Shared → Prop} (hh : A.handled = none) (hl : s.heap.IsList l its) (hit : IntsAre its.toList ns) (hb : ns.length + 1 < scanBound)
    (h : ∀ (h' : Heap) (tk c : Nat), SetR w h' s.heap.objs.size (fun j => decide (j ∈ ns)) c → c ≤ ns.length → (∀ b o, s.heap.get? b = some o → h'.get? b = some o) → Q (.ref s.heap.objs.size) { s with heap := h', toks := tk }) :
    wpAny (model P w) A (call (.type "set") [.ref l]) Q E s := by
  have zn : its.size = ns.length := by rw [← Array.length_toList]; exact hit.length
  obtain ⟨c, tl, hmro⟩ := F.called_set.mro
  have f1 := F.called_set.made
  have f2 := F.called_set.sub
  have f3 := F.called_set.notType
  have f4 := F.called_set.canCreate
  have f5 := F.typeCall_set_1 (.ref l)
  apply wpAny_call
  apply codeAny_of_tree
  show wpAny _ _ (callAny (.type "set") _) _ _ _
  refine wpAny_pure ⟨Code.quiet_builtin _ (by decide +kernel), codeAny_builtin F.entry_type_call ?_⟩
  rw [Around.under_plain (weight_type_call_type "set" [.ref l] []) rfl]
  repeat (any_goals (first | assumption | wp_step))
  refine codeAny_mono (code_set_led1 (.ref l) (E := E) (Q₁ := fun ob t => ob = .ref s.heap.objs.size ∧ t = { s with heap := s.heap.push (newSet w) }) ⟨rfl, rfl⟩) fun r t hr => ?_
  match r, hr with
  | .error e, hr => exact hr
  | .ok .next, hr => exact hr.elim
  | .ok .brk, hr => exact hr.elim
  | .ok .cont, hr => exact hr.elim
  | .ok (.ret ob), hr =>
  obtain ⟨rfl, rfl⟩ := hr
  have gS : (s.heap.push (newSet w)).get? s.heap.objs.size = some (newSet w) := Heap.get?_push_size _ rfl
  have tS : Shared.TypeIs { s with heap := s.heap.push (newSet w) } (.ref s.heap.objs.size) "set" := ⟨_, gS, rfl⟩
  have i1 := F.called_set.init.lookup
  have i2 := F.called_set.init.bind (.ref s.heap.objs.size)
  repeat (any_goals (first | assumption | wp_step))
  refine codeAny_mono (codeAny_call_builtin (R := wants (fun r t => r = .none ∧ ∃ h' tk c, t = { s with heap := h', toks := tk } ∧ SetR w h' s.heap.objs.size (fun j => decide (j ∈ ns)) c ∧ c ≤ ns.length ∧ (∀ b o, s.heap.get? b = some o → h'.get? b = some o)) E)
    F.called_set.init.plain F.entry_set_init (check_set_init_1 tS ?_)) fun r t hr => ?_
  · obtain ⟨ol, gl, hcl, nl, hdl⟩ := hl
    obtain ⟨ocls, odict, odata, oslots⟩ := ol
    simp only at hcl hdl
    subst hcl hdl
    have gl1 : (s.heap.push (newSet w)).get? l = some ⟨.type "list", odict, .seq its nl, oslots⟩ := Heap.get?_push_of_some _ gl
    have x1 := F.sub_list_set
    have x2 := F.sub_list_frozenset
    have x3 : (Value.type "list" == Value.type "dict") = false := by decide
    have li : (s.heap.push (newSet w)).IsList l its := ⟨_, gl1, rfl, nl, rfl⟩
    unfold Builtin.«set.__init__» noKeywords Builtin.Frozenset.updateFrom
    generalize ePI : pyIter = PI
    wp_walk
    subst ePI
    apply wpAny_pyIter_list li
    apply wpAny_bind
    apply wpAny_runValue
    have ll : l < s.heap.objs.size := Heap.lt_size gl
    have hn3 : A.in1.in1.in1.handled = none := by simp [hh]
    have sz : (s.heap.push (newSet w)).objs.size = s.heap.objs.size + 1 := Heap.size_push ..
    have lI : l ≠ (s.heap.push (newSet w)).objs.size := by rw [sz]; exact Nat.ne_of_lt (Nat.lt_succ_of_lt ll)
    have nS : s.heap.objs.size ∉ [(s.heap.push (newSet w)).objs.size, l] := by
      rw [sz]
      intro hm
      rcases List.mem_cons.mp hm with e | hm
      · exact absurd e (Nat.ne_of_lt (Nat.lt_succ_self _))
      · exact absurd (List.mem_singleton.mp hm) (Nat.ne_of_gt ll)
    refine set_update_ints ((Walks.list hn3 _ l lI its).toS) s.heap.objs.size nS ns zn hb (fun i v hv => ?_) (its.size - 0) 0 _ (by omega) (Nat.zero_le _) ⟨⟨_, Heap.get?_push_size _ rfl, rfl, rfl⟩, (li.push _)⟩ ⟨0, Nat.le_refl 0, setR_new_at (Heap.get?_push_of_some _ gS)⟩ fun t c hm hc hS => ?_
    · have hi : i < ns.length := by rw [← zn]; exact (Array.getElem?_eq_some_iff.mp hv).1
      obtain ⟨tk, e⟩ := IntsAre.int_at hit i v (by rw [Array.getElem?_toList]; exact hv)
      refine ⟨ns[i], tk, List.getElem?_eq_getElem hi, ?_⟩
      rw [e, List.getD_eq_getElem?_getD, List.getElem?_eq_getElem hi]
      rfl
    · obtain ⟨h', g2, d', tk, os'⟩ := t
      obtain rfl : g2 = s.gens := hm.gens
      obtain rfl : d' = s.drawn := hm.drawn
      obtain rfl : os' = s.os := hm.os
      show wpAny _ _ _ _ _ _
      apply wpAny_pure
      show wpAny _ _ (ret Value.none) _ _ _
      rw [zn] at hc
      refine wpAny_pure ⟨rfl, h', tk, c, rfl, hS, hc, fun b o e => ?_⟩
      have lb := Heap.lt_size e
      refine hm.heap b o (fun hm => ?_) (Heap.get?_push_of_some _ (Heap.get?_push_of_some _ e))
      rcases List.mem_cons.mp hm with z | hm
      · exact absurd z (Nat.ne_of_lt lb)
      · exact absurd ((List.mem_singleton.mp hm).trans sz) (Nat.ne_of_lt (Nat.lt_succ_of_lt lb))
  · match r, hr with
    | .error e, hr => exact hr
    | .ok .next, hr => exact hr.elim
    | .ok .brk, hr => exact hr.elim
    | .ok .cont, hr => exact hr.elim
    | .ok (.ret ob), hr =>
    obtain ⟨rfl, h', tk, c, rfl, hS, hc, hk⟩ := hr
    repeat (any_goals (first | assumption | wp_step))
    exact h _ _ _ hS hc hk
theorem sorted_setN {S : Int → Bool} {n : Nat} {Q : Value → Shared → Prop} (R : SetR w s.heap a S n) (hh : A.handled = none) (hz : n ≤ 1000)
    (hQ : ∀ t p (out : Array Value) (c : Nat) (ns : List Int), (∀ b o, s.heap.get? b = some o → t.heap.get? b = some o) → t.gens = s.gens → t.os = s.os → s.heap.objs.size ≤ p →
      t.heap.get? p = some (seqObj "list" out c) → IntsAre out.toList ns → ns.Pairwise (· < ·) → (∀ k, k ∈ ns ↔ S k = true) → ns.length = n → Q (.ref p) t) :
    wpAny (model P w) A (call (.builtin "sorted") [.ref a]) Q E s := by
  obtain ⟨o, es, ep, t, ho, hex, hd, g, nd, hm, hb, hf, hn, hr, hl⟩ := R
  apply call_function_entry kind_sorted plain_sorted entry_sorted (args_sorted1 _)
  unfold Builtin.«sorted»
  refine wpAny_bind (m := checkCount "sorted" 1 1 _) (wpAny_pure ?_)
  apply wpAny_bind
  refine collect_set (A := A.in1) hh ⟨o, ho, hex.1, hd⟩ hf hb hr hl fun t vs k1 hsz g1 o1 pm => ?_
  have lv : vs.length = n := by rw [pm.length_eq, List.length_map, Array.length_toList]; exact hn
  have iv : IntsAre vs (vs.map Builtin.Re.reRawOf) := ints_of vs fun v hv => by
    obtain ⟨e, he, rfl⟩ := List.mem_map.mp (pm.mem_iff.mp hv)
    obtain ⟨k, tk, h1, _⟩ := g e he
    exact ⟨k, tk, h1⟩
  have pk : (vs.map Builtin.Re.reRawOf).Perm (es.toList.map keyOf) := by
    have := pm.map Builtin.Re.reRawOf
    rwa [List.map_map] at this
  apply wpAny_bind
  refine wpAny_newList ?_ (by rw [lv, sizeLine_eq]; omega)
  have gL : (t.heap.push (seqObj "list" vs.toArray 0)).get? t.heap.objs.size = some (seqObj "list" vs.toArray 0) := Heap.get?_push_size _ rfl
  apply wpAny_bind
  apply wpAny_holding
  refine wpAny_call_entry slot_list_sort ⟨_, gL, rfl⟩ entry_list_sort (list_sort_treeAny gL iv (by rw [lv, sizeLine_eq]; omega) fun out ns a1 a2 a3 => ⟨_, rfl, ?_⟩) (args_list_sort _)
  obtain ⟨c, hc⟩ := sortedHeap_at (vs := vs) (out := out) gL
  have pn := a2.trans pk
  refine wpAny_pure ⟨_, rfl, hQ _ t.heap.objs.size out c ns (fun b u e => ?_) g1 o1 hsz hc a1 (lt_of_le_nodup ns a3 (pn.nodup_iff.mpr nd)) (fun k => by rw [pn.mem_iff, ← hm k]) (by rw [pn.length_eq, List.length_map, Array.length_toList]; exact hn)⟩
  have q := k1 b u e
  have lt := Heap.lt_size q
  show (sortedHeap (t.heap.push (seqObj "list" vs.toArray 0)) t.heap.objs.size vs out).get? b = some u
  rw [sortedHeap_old (Nat.ne_of_lt lt) (by rw [size_push']; exact Nat.lt_succ_of_lt lt)]
  exact Heap.get?_push_of_some _ q
end
/-- set(xs) of a list of whole numbers -/
theorem call_setL {X : Cx} {K : PySem.W.Frag} (hc : X.calm = true := by rfl) (hK : X.K = K := by rfl) : CallR X (.type "set") (fun xs H Q => ∃ (p : Addr) (ns : List Int), xs = [.ref p] ∧ SqL K H p (ns.map V.int) ∧ ns.length ≤ 1000 ∧ ∀ (q : Addr) (n : Nat), H q = none → n ≤ ns.length → Q (.ref q) (upd H q (SetO X.w q (fun k => decide (k ∈ ns)) n))) := by
  subst hK
  intro pins s σ H xs us Q I r h
  obtain ⟨p, ns, rfl, hq, hl, q⟩ := h
  obtain ⟨u, rfl, r1⟩ := vals1 r
  cases (show u = Value.ref p from r1)
  obtain ⟨its, rv, pt, hz⟩ := I.list hq
  have hi : IntsAre its.toArray.toList ns := ints_of_vals rv
  refine set_listI ns (I.ok.hd hc) (show s.heap.IsList p its.toArray from pt.isList) hi (by unfold scanBound; omega) fun h' tk c R1 hcn k => ?_
  exact ⟨.ref _, upd H s.heap.objs.size (SetO X.w s.heap.objs.size (fun j => decide (j ∈ ns)) c), I.laid (t' := tk) k (Nat.le_refl _) (setO_new R1), rfl, q _ c (I.hok.fresh (Nat.le_refl _)) hcn⟩
/-- sorted(found), up to a thousand members -/
def rSortedSetN (w : World) : List V → Hp → VK → Prop := fun vs H Q => ∃ (a : Addr) (S : Int → Bool) (n : Nat), vs = [V.ref a] ∧ H a = some (SetO w a S n) ∧ n ≤ 1000 ∧
  ∀ (ns : List Int) (p : Addr), ns.Pairwise (· < ·) → (∀ k : Int, k ∈ ns ↔ S k = true) → ns.length = n → H p = none → Q (.ref p) (upd H p (.lst (ns.map V.int)))
theorem cr_sortedSetN {X : Cx} (hc : X.calm = true) : CallR X (.builtin "sorted") (rSortedSetN X.w) := by
  intro pins s σ H vs us Q I r h
  obtain ⟨a, S, n, rfl, ha, hz, q⟩ := h
  rw [Vals.ref1 r]
  refine sorted_setN (setO_get I ha) (I.ok.hd hc) hz fun t p out c ns k g o hp hg hi hs hm hl => ?_
  have hlen : (ns.map V.int).length ≤ sizeLine := by rw [List.length_map, hl, sizeLine_eq]; omega
  have hn : H p = none := I.hok.fresh hp
  have J : Inv X pins σ (upd H p (.lst (ns.map V.int))) { s with heap := t.heap, gens := t.gens, drawn := t.drawn, toks := t.toks } :=
    I.call (ch := []) (Un.laid k hp hn) (I.hok.laid k hp ⟨hlen, out.toList, c, vals_of_ints hi, hg⟩) (by rw [g]; exact I.bare) (fun _ z => nomatch z)
  have e : t = { s with heap := t.heap, gens := t.gens, drawn := t.drawn, toks := t.toks } := by
    cases t
    cases s
    cases o
    rfl
  rw [e]
  exact ⟨.ref p, _, J, rfl, q ns p hs hm hl hn⟩
end My
namespace My
open PySem PySem.Spec PySem.Calls PyProof.Rows L2
/-! ### == and != of tuples whose items are whole numbers, texts, None or own objects -/
section
open GQ
open AutoSeq1 (wpAny_loadPart')
variable {prog : Program} {w : World} {A : Around} {R : Result → Shared → Prop}
end
section
variable {X : Cx} {n : Nat} {D : Eqb}
end
end My
namespace My
open PySem PySem.Spec PySem.Calls PyProof.Rows L2
/-! ### t[::-1] of a tuple -/
theorem fm_eq {α β : Type} {f g : α → Option β} : ∀ {l : List α}, (∀ x ∈ l, f x = g x) → l.filterMap f = l.filterMap g
  | [], _ => rfl
  | a :: l, h => by
    rw [List.filterMap_cons, List.filterMap_cons, h a (List.mem_cons_self ..), fm_eq (l := l) fun x hx => h x (List.mem_cons_of_mem _ hx)]
section
open HT
variable {prog : Program} {w : World} {A : Around} {E : Value → Shared → Prop} {s : Shared}
theorem backs_at {sl : Addr} {vl vu vs : Value} {n : Nat} {Q : Int × Int × Nat → Shared → Prop} (hs : s.heap.IsSliceOf sl vl vu vs) (pl : IsPart vl none) (pu : IsPart vu none) (ps : IsPart vs (some (-1)))
    (h : Q ((n : Int) - 1, -1, n) s) : wpAny (model prog w) A (Builtin.Slice.sliceApplied (.ref sl) (pure (n : Int))) Q E s := by
  obtain ⟨o, ho, _, hd⟩ := id hs
  have e1 : Builtin.Slice.sliceAdjust none none (-1) (n : Int) = ((n : Int) - 1, -1) := rfl
  have e2 : Builtin.Slice.slicePlaces ((n : Int) - 1) (-1) (-1) = n := by
    unfold Builtin.Slice.slicePlaces
    rw [if_neg (by decide)]
    split
    · show (((n : Int) - 1 - -1 - 1) / 1 + 1).toNat = n
      rw [Int.ediv_one]
      omega
    · omega
  unfold Builtin.Slice.sliceApplied Builtin.Slice.sliceFields
  apply wpAny_bind
  apply wpAny_bind
  refine wpAny_field ho hd (x := vl) rfl (wpAny_bind (wpAny_field ho hd (x := vu) rfl (wpAny_bind (wpAny_field ho hd (x := vs) rfl (wpAny_pure ?_)))))
  apply wpAny_bind
  refine slicePart_ ps ?_
  show wpAny _ _ (if ((-1 : Int) == 0) = true then _ else _) _ _ s
  rw [if_neg (by decide)]
  refine wpAny_bind (slicePart_ pl (wpAny_bind (slicePart_ pu (wpAny_bind (wpAny_pure ?_)))))
  show wpAny _ _ (match Builtin.Slice.sliceAdjust none none (-1) (n : Int) with | (lo, hi) => pure (lo, (-1 : Int), Builtin.Slice.slicePlaces lo hi (-1))) _ _ s
  rw [e1]
  show wpAny _ _ (pure ((n : Int) - 1, (-1 : Int), Builtin.Slice.slicePlaces ((n : Int) - 1) (-1) (-1))) _ _ s
  rw [e2]
  exact wpAny_pure h
theorem backs_pick (xs : Array Value) : ((List.range xs.size).filterMap fun (k : Nat) => xs[(((xs.size : Nat) : Int) - 1 + (k : Int) * (-1)).toNat]?) = xs.toList.reverse := by
  have e : ((List.range xs.size).filterMap fun (k : Nat) => xs[(((xs.size : Nat) : Int) - 1 + (k : Int) * (-1)).toNat]?) = (List.range xs.size).map fun k => xs.toList.reverse.getD k .none := by
    rw [← List.filterMap_eq_map]
    refine fm_eq fun k hk => ?_
    have lk := List.mem_range.mp hk
    have e1 : (((xs.size : Nat) : Int) - 1 + (k : Int) * (-1)).toNat = xs.size - 1 - k := by omega
    rw [e1]
    have l2 : k < xs.toList.reverse.length := by rw [List.length_reverse, Array.length_toList]; exact lk
    show _ = some (xs.toList.reverse.getD k .none)
    rw [List.getD_eq_getElem?_getD, List.getElem?_eq_getElem l2, List.getElem_reverse, Option.getD_some, Array.getElem?_eq_getElem (by omega)]
    simp
  rw [e]
  apply List.ext_getElem
  · simp
  · intro i h1 h2
    rw [List.getElem_map, List.getElem_range, List.getD_eq_getElem?_getD, List.getElem?_eq_getElem h2]
    rfl
theorem backs_item {t sl : Addr} {its : Array Value} {vl vu vs : Value} {Q : Value → Shared → Prop} (ht : IsTup s.heap t its) (hs : s.heap.IsSliceOf sl vl vu vs) (pl : IsPart vl none) (pu : IsPart vu none) (ps : IsPart vs (some (-1)))
    (h : Q (.ref s.heap.objs.size) { s with heap := s.heap.push { cls := .type "tuple", data := .seq its.toList.reverse.toArray } }) (hsz : its.size ≤ sizeLine) : wpAny (model prog w) A (getItem (.ref t) (.ref sl)) Q E s := by
  have ok : sizeOk (.seq its.toList.reverse.toArray) := by
    show its.toList.reverse.toArray.size ≤ sizeLine
    rw [List.size_toArray, List.length_reverse, Array.length_toList]
    exact hsz
  obtain ⟨o, ho, hc, hd⟩ := id hs
  have hT : s.TypeIs (.ref sl) "slice" := ⟨o, ho, hc⟩
  unfold getItem
  try with_reducible apply wpAny_holding
  first | refine wpAny_bind (wpAny_pure ?_) | skip
  refine wpAny_bind (wpAny_sequenceKey ht.typeIs (by decide) ?_)
  apply wpAny_bind
  refine wpAny_callSpecial?_slot (name := Str.ofString "__getitem__") ht.typeIs slot_tuple_getitem (wpAny_call_entry slot_tuple_getitem ht.typeIs entry_tuple_getitem ?_ (args_tuple_getitem _ _))
  show wpAny _ _ (Builtin.Tuple.tupleItemsOf (.ref t) >>= _) _ _ s
  refine wpAny_bind (tupleItemsOf_ ht ?_)
  refine wpAny_bind (wpAny_typeOf hT ?_)
  rw [if_pos (by decide)]
  refine wpAny_bind (backs_at hs pl pu ps ?_)
  have no : ¬ (((((its.size : Nat) : Int) - 1) == 0 && (-1 : Int) == 1 && its.size == its.size) = true) := by
    intro q
    rw [Bool.and_eq_true, Bool.and_eq_true] at q
    exact absurd q.1.2 (by decide)
  show wpAny _ _ (if ((((its.size : Nat) : Int) - 1) == 0 && (-1 : Int) == 1 && its.size == its.size) = true then _ else _) _ _ s
  rw [if_neg no, backs_pick]
  first
    | exact wpAny_bind (m := Builtin.Tuple.tupleExact _) (wpAny_newObj_type (wpAny_pure ⟨_, rfl, wpAny_pure h⟩) ok)
    | exact wpAny_bind (m := Builtin.Tuple.tupleExact _) (wpAny_newObj_type (wpAny_bind (wpAny_pure (wpAny_pure ⟨_, rfl, wpAny_pure h⟩))) ok)
    | exact wpAny_bind (wpAny_bind (m := Builtin.Tuple.tupleExact _) (wpAny_newObj_type (wpAny_pure (wpAny_pure ⟨_, rfl, wpAny_pure h⟩)) ok))
    | exact wpAny_bind (wpAny_bind (m := Builtin.Tuple.tupleExact _) (wpAny_newObj_type (wpAny_pure ⟨_, rfl, wpAny_pure h⟩) ok))
end
section
variable {X : Cx}
def tRevT (K : PySem.W.Frag) (te : TE) : TE := fun σ H Q => te σ H fun x H1 => ∃ a xs, x = .ref a ∧ SqT K H1 a xs ∧ ∀ p, H1 p = none → Q (.ref p) (upd H1 p (.tup xs.reverse))
theorem pe_revT {K : PySem.W.Frag} {e : Expr} {te : TE} {k : Nat} {p1 p2 p3 pos : Pos} (he : PE X e te) (hK : X.K = K := by rfl) : PE X (.Subscript e (.Slice none none (some (.UnaryOp .USub (.Constant (.int 1) k p1) p2)) p3) pos) (tRevT K te) := by
  subst hK
  refine ⟨fun pins s σ H Q I h => ?_⟩
  refine Subscript_ (thn (he.run pins s σ H _ I h) fun v s1 ⟨x, H1, I1, r1, a, xs, ex, hx, q⟩ => ?_)
  subst ex
  cases r1
  have st : PO X (some (.UnaryOp .USub (.Constant (.int 1) k p1) p2)) (tPart (tUn (rU fun i => .int (-i)) (tC (.int 1)))) := po_some (pe_un un_neg pe_int)
  refine wpAny_Slice (thn (po_none.run pins s1 σ H1 (fun o H2 => o = none ∧ H2 = H1) I1 ⟨rfl, rfl⟩) fun vl s2 ⟨l, H2, I2, pl, el, e2⟩ => ?_)
  subst el e2
  refine thn (po_none.run pins s2 σ H2 (fun o H3 => o = none ∧ H3 = H2) I2 ⟨rfl, rfl⟩) fun vu s3 ⟨u, H3, I3, pu, eu, e3⟩ => ?_
  subst eu e3
  refine thn (st.run pins s3 σ H3 (fun o H4 => o = some (-1) ∧ H4 = H3) I3 ⟨1, rfl, -1, rfl, rfl, rfl⟩) fun vs s4 ⟨o, H4, I4, ps, eo, e4⟩ => ?_
  subst eo e4
  have I5 : Inv X pins σ H4 { s4 with heap := s4.heap.push { cls := .type "slice", data := .fields #[vl, vu, vs] } } := I4.kept (t' := s4.toks) fun b ob q => Heap.get?_push_of_some _ q
  obtain ⟨its, r, ht, hz⟩ := I5.tuple hx
  have hlen := r.length
  show wpAny (model X.prog X.w) X.A (subscriptTail e (.Slice none none (some (.UnaryOp .USub (.Constant (.int 1) k p1) p2)) p3) (.ref a) (.ref s4.heap.objs.size)) (EP X pins σ Q) X.xe { s4 with heap := s4.heap.push { cls := .type "slice", data := .fields #[vl, vu, vs] } }
  refine tail_any (ops := [.ref a, .ref s4.heap.objs.size]) ht.typeIs slot_tuple_getitem.lookup ?_ (by with_unfolding_all rfl)
  refine backs_item ht (Heap.IsSliceOf.new _ vl vu vs) pl pu ps ?_ (by rw [List.size_toArray]; omega)
  refine ⟨.ref _, _, I5.laid (t' := s4.toks) (o := .tup xs.reverse) (fun b ob q => Heap.get?_push_of_some _ q) (Nat.le_refl _) ?_, rfl, q _ (I5.hok.fresh (Nat.le_refl _))⟩
  exact ⟨by rw [List.length_reverse]; exact hz, _, r.reverse, IsTup.new _ _⟩
end
/-! ### things of any kind beside what is due, kind by kind -/
theorem TyOf.same' {K : PySem.W.Frag} {H H' : Hp} {v : V} {t : Value} (h : TyOf K H v t) (s : Same H H') : TyOf K H' v t := by
  cases h with
  | non => exact .non
  | bl x => exact .bl x
  | int i => exact .int i
  | str x => exact .str x
  | flt x => exact .flt x
  | lst e => exact .lst (s _ _ e)
  | frz e => exact .frz (s _ _ e)
  | tup e => exact .tup (s _ _ e)
  | dK e => exact .dK (s _ _ e)
  | dT e => exact .dT (s _ _ e)
  | ins e cl ha hn htk hm => exact .ins (s _ _ e) cl ha hn htk hm
theorem TyX.same' {K : PySem.W.Frag} {H H' : Hp} {v : V} {t : Value} (h : TyX K H v t) (s : Same H H') : TyX K H' v t := by
  cases h with
  | base h => exact .base (TyOf.same' h s)
  | byt b => exact .byt b
  | set e => exact .set (s _ _ e)
  | kList e c => exact .kList e c
  | kTuple e c => exact .kTuple e c
  | kDict e c => exact .kDict e c
  | fTuple e => exact .fTuple (s _ _ e)
  | fDict e => exact .fDict (s _ _ e)
inductive PK where
  | int (z : Int) | str (s : Str) | bl (b : Bool) | non | meas (z : Q2) | tup | oth
def PK.isT : PK → Bool | .tup => true | _ => false
def PK.isS : PK → Bool | .str _ => true | _ => false
def PK.isI : PK → Bool | .int _ => true | .bl _ => true | _ => false
def PK.isB : PK → Bool | .bl _ => true | _ => false
def PK.isM : PK → Bool | .meas _ => true | _ => false
def Isi (K : PySem.W.Frag) (H : Hp) (v : V) (u : Value) (b : Bool) : Prop := ∃ t, TyX K H v t ∧ PySem.W.kitOne K t u = some b
def PKat (CM : Addr) (H : Hp) (v : V) : PK → Prop
  | .int z => v = .int z
  | .str s => v = .str s
  | .bl b => v = .bl b
  | .non => v = .non
  | .meas z => ∃ (p : Addr) (j : Nat), v = .ref p ∧ QAt CM H p j z ∧ j ≤ 4000
  | .tup => ∃ a : Addr, v = .ref a
  | .oth => ∃ a : Addr, v = .ref a
structure PKs (K : PySem.W.Frag) (CM : Addr) (H : Hp) (v : V) (k : PK) : Prop where
  at_ : PKat CM H v k
  tup : Isi K H v (.type "tuple") k.isT
  str : Isi K H v (.type "str") k.isS
  int : Isi K H v (.type "int") k.isI
  bl : Isi K H v (.type "bool") k.isB
  mea : Isi K H v (.ref CM) k.isM
theorem PKs.same {K : PySem.W.Frag} {CM : Addr} {H H' : Hp} {v : V} {k : PK} (p : PKs K CM H v k) (s : Same H H') : PKs K CM H' v k := by
  have i : ∀ {u b}, Isi K H v u b → Isi K H' v u b := fun ⟨t, h, g⟩ => ⟨t, TyX.same' h s, g⟩
  refine ⟨?_, i p.tup, i p.str, i p.int, i p.bl, i p.mea⟩
  have h := p.at_
  cases k with
  | meas z =>
    obtain ⟨q, j, e, r, l⟩ := h
    exact ⟨q, j, e, r.same s, l⟩
  | _ => exact h
/-- what isinstance says of the classes -/
structure KitT (K : PySem.W.Frag) (CM : Addr) (C : Value) (m : Bool) : Prop where
  tup : PySem.W.kitOne K C (.type "tuple") = some false
  str : PySem.W.kitOne K C (.type "str") = some false
  int : PySem.W.kitOne K C (.type "int") = some false
  bl : PySem.W.kitOne K C (.type "bool") = some false
  mea : PySem.W.kitOne K C (.ref CM) = some m
structure KitsT (K : PySem.W.Frag) (CM CS CL : Addr) : Prop where
  cm : Cls K CM
  im : IsC K CM
  cs : Cls K CS
  is : IsC K CS
  cl : Cls K CL
  il : IsC K CL
  mm : KitT K CM (.ref CM) true
  ss : KitT K CM (.ref CS) false
  ll : KitT K CM (.ref CL) false
  own : ∀ n : String, n = "NoneType" ∨ n = "bool" ∨ n = "int" ∨ n = "str" ∨ n = "list" ∨ n = "tuple" ∨ n = "dict" → PySem.W.kitOne K (.type n) (.ref CM) = some false
/-- a thing of any kind, a Measure, a Stretch or a Ladder -/
def ThgAt (CM CS CL h : Addr) (H : Hp) (v : V) : Prop := Thing h H v ∨ (∃ (p : Addr) (j : Nat) (z : Q2), v = .ref p ∧ QAt CM H p j z ∧ j ≤ 4000) ∨ ∃ (p C dx : Addr) (fs : List (Str × V)), v = .ref p ∧ H p = some (.ins C dx fs) ∧ (C = CS ∨ C = CL)
section
variable {K : PySem.W.Frag} {CM CS CL h : Addr} {H H' : Hp} {v : V} {n : Nat}
theorem ThgAt.same (t : ThgAt CM CS CL h H v) (s : Same H H') : ThgAt CM CS CL h H' v := by
  rcases t with t | ⟨p, j, z, e, q, l⟩ | ⟨p, C, dx, fs, e, g, c⟩
  · exact .inl (t.same s)
  · exact .inr (.inl ⟨p, j, z, e, q.same s, l⟩)
  · exact .inr (.inr ⟨p, C, dx, fs, e, s _ _ g, c⟩)
theorem ThgAt.kp (t : ThgAt CM CS CL h H v) (hh : HandAt H h n) (s : Kp h H H') : ThgAt CM CS CL h H' v := by
  rcases t with t | ⟨p, j, z, e, q, l⟩ | ⟨p, C, dx, fs, e, g, c⟩
  · exact .inl (t.kp hh s)
  · exact .inr (.inl ⟨p, j, z, e, q.kp hh s, l⟩)
  · exact .inr (.inr ⟨p, C, dx, fs, e, s.get hh g rfl, c⟩)
theorem isi_of {t : Value} (ty : TyX K H v t) {m : Bool} (k : KitT K CM t m) : Isi K H v (.type "tuple") false ∧ Isi K H v (.type "str") false ∧ Isi K H v (.type "int") false ∧ Isi K H v (.type "bool") false ∧ Isi K H v (.ref CM) m :=
  ⟨⟨t, ty, k.tup⟩, ⟨t, ty, k.str⟩, ⟨t, ty, k.int⟩, ⟨t, ty, k.bl⟩, ⟨t, ty, k.mea⟩⟩
/-- each such thing has a kind -/
theorem thg_pk (k : KitsT K CM CS CL) (t : ThgAt CM CS CL h H v) : ∃ q, PKs K CM H v q ∧ (q.isT = true ↔ ∃ (a : Addr) (xs : List V), v = .ref a ∧ H a = some (.tup xs)) := by
  have B : ∀ {a b : String} {r : Bool}, kitB a b = some r → PySem.W.kitOne K (.type a) (.type b) = some r := fun h => kit_ty h
  rcases t with t | ⟨p, j, z, rfl, q, l⟩ | ⟨p, C, dx, fs, rfl, g, c⟩
  · rcases t with rfl | ⟨b, rfl⟩ | ⟨i, rfl⟩ | ⟨z, rfl⟩ | ⟨a, xs, rfl, n, t⟩ | ⟨a, xs, rfl, t⟩ | ⟨a, xs, rfl, t⟩
    · have ty : TyX K H .non (.type "NoneType") := .base .non
      exact ⟨.non, ⟨rfl, ⟨_, ty, B (by decide +kernel)⟩, ⟨_, ty, B (by decide +kernel)⟩, ⟨_, ty, B (by decide +kernel)⟩, ⟨_, ty, B (by decide +kernel)⟩, ⟨_, ty, k.own _ (.inl rfl)⟩⟩, (fun h => by cases h), (fun ⟨a, xs, e, _⟩ => by cases e)⟩
    · have ty : TyX K H (.bl b) (.type "bool") := .base (.bl b)
      exact ⟨.bl b, ⟨rfl, ⟨_, ty, B (r := false) (by decide +kernel)⟩, ⟨_, ty, B (r := false) (by decide +kernel)⟩, ⟨_, ty, B (r := true) (by decide +kernel)⟩, ⟨_, ty, B (r := true) (by decide +kernel)⟩, ⟨_, ty, k.own _ (.inr (.inl rfl))⟩⟩, (fun h => by cases h), (fun ⟨a, xs, e, _⟩ => by cases e)⟩
    · have ty : TyX K H (.int i) (.type "int") := .base (.int i)
      exact ⟨.int i, ⟨rfl, ⟨_, ty, B (r := false) (by decide +kernel)⟩, ⟨_, ty, B (r := false) (by decide +kernel)⟩, ⟨_, ty, B (r := true) (by decide +kernel)⟩, ⟨_, ty, B (r := false) (by decide +kernel)⟩, ⟨_, ty, k.own _ (.inr (.inr (.inl rfl)))⟩⟩, (fun h => by cases h), (fun ⟨a, xs, e, _⟩ => by cases e)⟩
    · have ty : TyX K H (.str z) (.type "str") := .base (.str z)
      exact ⟨.str z, ⟨rfl, ⟨_, ty, B (r := false) (by decide +kernel)⟩, ⟨_, ty, B (r := true) (by decide +kernel)⟩, ⟨_, ty, B (r := false) (by decide +kernel)⟩, ⟨_, ty, B (r := false) (by decide +kernel)⟩, ⟨_, ty, k.own _ (.inr (.inr (.inr (.inl rfl))))⟩⟩, (fun h => by cases h), (fun ⟨a, xs, e, _⟩ => by cases e)⟩
    · have ty : TyX K H (.ref a) (.type "list") := .base (.lst t)
      exact ⟨.oth, ⟨⟨a, rfl⟩, ⟨_, ty, B (by decide +kernel)⟩, ⟨_, ty, B (by decide +kernel)⟩, ⟨_, ty, B (by decide +kernel)⟩, ⟨_, ty, B (by decide +kernel)⟩, ⟨_, ty, k.own _ (.inr (.inr (.inr (.inr (.inl rfl)))))⟩⟩, (fun h => by cases h), (fun ⟨b, ys, e, g⟩ => by cases e; rw [t] at g; cases g)⟩
    · have ty : TyX K H (.ref a) (.type "tuple") := .base (.tup t)
      exact ⟨.tup, ⟨⟨a, rfl⟩, ⟨_, ty, B (by decide +kernel)⟩, ⟨_, ty, B (by decide +kernel)⟩, ⟨_, ty, B (by decide +kernel)⟩, ⟨_, ty, B (by decide +kernel)⟩, ⟨_, ty, k.own _ (.inr (.inr (.inr (.inr (.inr (.inl rfl))))))⟩⟩, (fun _ => ⟨a, xs, rfl, t⟩), (fun _ => rfl)⟩
    · have ty : TyX K H (.ref a) (.type "dict") := .base (.dK t)
      exact ⟨.oth, ⟨⟨a, rfl⟩, ⟨_, ty, B (by decide +kernel)⟩, ⟨_, ty, B (by decide +kernel)⟩, ⟨_, ty, B (by decide +kernel)⟩, ⟨_, ty, B (by decide +kernel)⟩, ⟨_, ty, k.own _ (.inr (.inr (.inr (.inr (.inr (.inr rfl))))))⟩⟩, (fun h => by cases h), (fun ⟨b, ys, e, g⟩ => by cases e; rw [t] at g; cases g)⟩
  · obtain ⟨t, u, ⟨dx, m⟩, _⟩ := id q.ob
    obtain ⟨h1, h2, h3, h4, h5⟩ := isi_of (tyM m k.cm k.im) k.mm
    exact ⟨.meas z, ⟨⟨p, j, rfl, q, l⟩, h1, h2, h3, h4, h5⟩, (fun h => by cases h), (fun ⟨b, ys, e, g⟩ => by cases e; rw [m] at g; cases g)⟩
  · rcases c with rfl | rfl
    · obtain ⟨h1, h2, h3, h4, h5⟩ := isi_of (tyM g k.cs k.is) k.ss
      exact ⟨.oth, ⟨⟨p, rfl⟩, h1, h2, h3, h4, h5⟩, (fun h => by cases h), (fun ⟨b, ys, e, g2⟩ => by cases e; rw [g] at g2; cases g2)⟩
    · obtain ⟨h1, h2, h3, h4, h5⟩ := isi_of (tyM g k.cl k.il) k.ll
      exact ⟨.oth, ⟨⟨p, rfl⟩, h1, h2, h3, h4, h5⟩, (fun h => by cases h), (fun ⟨b, ys, e, g2⟩ => by cases e; rw [g] at g2; cases g2)⟩
end
/-- alike, kind by kind -/
def matchB : PK → PK → Bool
  | .int a, .int b => decide (a = b)
  | .str a, .str b => decide (a = b)
  | .non, .non => true
  | .meas a, .meas b => decide (toR a = toR b)
  | _, _ => false
def topB : Option (List PK) → List PK → Bool
  | none, _ => false
  | some ks, ds => decide (ks.length = ds.length) && (List.zipWith matchB ks ds).all _root_.id
def Kds (K : PySem.W.Frag) (CM : Addr) (H : Hp) (xs : List V) (ks : List PK) : Prop := xs.length = ks.length ∧ ∀ (i : Nat) (x : V) (k : PK), xs[i]? = some x → ks[i]? = some k → PKs K CM H x k
theorem Kds.same {K : PySem.W.Frag} {CM : Addr} {H H' : Hp} {xs : List V} {ks : List PK} (p : Kds K CM H xs ks) (s : Same H H') : Kds K CM H' xs ks := ⟨p.1, fun i x k h1 h2 => (p.2 i x k h1 h2).same s⟩
theorem kds_of {K : PySem.W.Frag} {CM : Addr} {H : Hp} : ∀ {xs : List V}, (∀ x ∈ xs, ∃ k, PKs K CM H x k) → ∃ ks, Kds K CM H xs ks
  | [], _ => ⟨[], rfl, fun i x k h _ => by simp at h⟩
  | x :: xs, h => by
    obtain ⟨ks, l, q⟩ := kds_of (xs := xs) fun y hy => h y (List.mem_cons_of_mem _ hy)
    obtain ⟨k, p⟩ := h x (List.mem_cons_self ..)
    refine ⟨k :: ks, by rw [List.length_cons, List.length_cons, l], fun i y k' h1 h2 => ?_⟩
    cases i with
    | zero => cases h1; cases h2; exact p
    | succ i => exact q i y k' (by simpa using h1) (by simpa using h2)
/-- a thing that is looked at: a tuple of things with their kinds, or none -/
def Fnd (K : PySem.W.Frag) (CM : Addr) (H : Hp) (v : V) : Option (List PK) → Prop
  | none => ∃ k, PKs K CM H v k ∧ k.isT = false
  | some ks => ∃ (a : Addr) (xs : List V), v = .ref a ∧ SqT K H a xs ∧ xs.length ≤ 900 ∧ PKs K CM H v .tup ∧ Kds K CM H xs ks
theorem Fnd.same {K : PySem.W.Frag} {CM : Addr} {H H' : Hp} {v : V} : ∀ {o : Option (List PK)}, Fnd K CM H v o → Same H H' → Fnd K CM H' v o
  | none, ⟨k, p, e⟩, s => ⟨k, p.same s, e⟩
  | some ks, ⟨a, xs, e, q, l, p, d⟩, s => ⟨a, xs, e, s.sqt q, l, p.same s, d.same s⟩
def FndAt (CM CS CL h : Addr) (H : Hp) (v : V) : Prop := (∃ (a : Addr) (xs : List V), v = .ref a ∧ H a = some (.tup xs) ∧ xs.length ≤ 900 ∧ ∀ x ∈ xs, ThgAt CM CS CL h H x) ∨ (ThgAt CM CS CL h H v ∧ ∀ (a : Addr) (xs : List V), v = .ref a → H a = some (.tup xs) → xs = [])
theorem fnd_pk {K : PySem.W.Frag} {CM CS CL h : Addr} {H : Hp} {v : V} (k : KitsT K CM CS CL) (t : FndAt CM CS CL h H v) : ∃ o, Fnd K CM H v o := by
  rcases t with ⟨a, xs, rfl, e, l, all⟩ | ⟨t, no⟩
  · obtain ⟨ks, d⟩ := kds_of (K := K) (CM := CM) (H := H) (xs := xs) fun x hx => by
      obtain ⟨q, p, _⟩ := thg_pk k (all x hx)
      exact ⟨q, p⟩
    obtain ⟨q, p, f⟩ := thg_pk k (.inl (Thing.of_tup e) : ThgAt CM CS CL h H (.ref a))
    have : q = .tup := by
      have := f.mpr ⟨a, xs, rfl, e⟩
      cases q <;> first | rfl | cases this
    subst this
    exact ⟨some ks, a, xs, rfl, SqT.of e, l, p, d⟩
  · obtain ⟨q, p, f⟩ := thg_pk k t
    cases eq : q.isT with
    | false => exact ⟨none, q, p, eq⟩
    | true =>
      obtain ⟨a, xs, rfl, e⟩ := f.mp eq
      have := no a xs rfl e
      subst this
      have : q = .tup := by cases q <;> first | rfl | cases eq
      subst this
      exact ⟨some [], a, [], rfl, SqT.of e, Nat.zero_le _, p, rfl, fun i x k h _ => by simp at h⟩
/-- a thing that is no tuple -/
def ThgN (CM CS CL h : Addr) (H : Hp) (v : V) : Prop := v = .non ∨ (∃ b, v = .bl b) ∨ (∃ i, v = .int i) ∨ (∃ z, v = .str z) ∨ (∃ (a : Addr) (xs : List V), v = .ref a ∧ a ≠ h ∧ H a = some (.lst xs)) ∨ (∃ (a : Addr) (kvs : List (Key × V)), v = .ref a ∧ H a = some (.dK kvs)) ∨ (∃ (p : Addr) (j : Nat) (z : Q2), v = .ref p ∧ QAt CM H p j z ∧ j ≤ 4000) ∨ ∃ (p C dx : Addr) (fs : List (Str × V)), v = .ref p ∧ H p = some (.ins C dx fs) ∧ (C = CS ∨ C = CL)
/-- a thing, and if it is a tuple, of such things -/
def TopAt (CM CS CL h : Addr) (H : Hp) (v : V) : Prop := (∃ (a : Addr) (xs : List V), v = .ref a ∧ H a = some (.tup xs) ∧ xs.length ≤ 900 ∧ ∀ x ∈ xs, ThgAt CM CS CL h H x) ∨ ThgN CM CS CL h H v
section
variable {K : PySem.W.Frag} {CM CS CL h : Addr} {H H' : Hp} {v : V} {n : Nat}
theorem ThgN.thg (t : ThgN CM CS CL h H v) : ThgAt CM CS CL h H v := by
  rcases t with t | t | t | t | ⟨a, xs, e, n, t⟩ | ⟨a, xs, e, t⟩ | t | t
  · exact .inl (.inl t)
  · exact .inl (.inr (.inl t))
  · exact .inl (.inr (.inr (.inl t)))
  · exact .inl (.inr (.inr (.inr (.inl t))))
  · subst e; exact .inl (Thing.of_lst n t)
  · subst e; exact .inl (Thing.of_dct t)
  · exact .inr (.inl t)
  · exact .inr (.inr t)
theorem ThgN.kp (t : ThgN CM CS CL h H v) (hh : HandAt H h n) (s : Kp h H H') : ThgN CM CS CL h H' v := by
  rcases t with t | t | t | t | ⟨a, xs, e, n, t⟩ | ⟨a, xs, e, t⟩ | ⟨p, j, z, e, q, l⟩ | ⟨p, C, dx, fs, e, g, c⟩
  · exact .inl t
  · exact .inr (.inl t)
  · exact .inr (.inr (.inl t))
  · exact .inr (.inr (.inr (.inl t)))
  · exact .inr (.inr (.inr (.inr (.inl ⟨a, xs, e, n, s _ _ t n⟩))))
  · exact .inr (.inr (.inr (.inr (.inr (.inl ⟨a, xs, e, s.get hh t rfl⟩)))))
  · exact .inr (.inr (.inr (.inr (.inr (.inr (.inl ⟨p, j, z, e, q.kp hh s, l⟩))))))
  · exact .inr (.inr (.inr (.inr (.inr (.inr (.inr ⟨p, C, dx, fs, e, s.get hh g rfl, c⟩))))))
theorem TopAt.kp (t : TopAt CM CS CL h H v) (hh : HandAt H h n) (s : Kp h H H') : TopAt CM CS CL h H' v := by
  rcases t with ⟨a, xs, e, g, l, all⟩ | t
  · exact .inl ⟨a, xs, e, s.get hh g rfl, l, fun x hx => (all x hx).kp hh s⟩
  · exact .inr (t.kp hh s)
theorem TopAt.same (t : TopAt CM CS CL h H v) (hh : HandAt H h n) (s : Same H H') : TopAt CM CS CL h H' v := t.kp hh (Kp.same s)
theorem TopAt.thg (t : TopAt CM CS CL h H v) : ThgAt CM CS CL h H v := by
  rcases t with ⟨a, xs, e, g, l, all⟩ | t
  · subst e; exact .inl (Thing.of_tup g)
  · exact t.thg
theorem top_pk (k : KitsT K CM CS CL) (t : TopAt CM CS CL h H v) : ∃ o, Fnd K CM H v o := by
  rcases t with ⟨a, xs, e, g, l, all⟩ | t
  · exact fnd_pk k (.inl ⟨a, xs, e, g, l, all⟩)
  · refine fnd_pk (h := h) k (.inr ⟨t.thg, fun a xs e g => ?_⟩)
    subst e
    rcases t with t | ⟨_, t⟩ | ⟨_, t⟩ | ⟨_, t⟩ | ⟨b, ys, e, n, t⟩ | ⟨b, ys, e, t⟩ | ⟨p, j, z, e, q, l⟩ | ⟨p, C, dx, fs, e, g2, c⟩
    · cases t
    · cases t
    · cases t
    · cases t
    · cases e; rw [t] at g; cases g
    · cases e; rw [t] at g; cases g
    · cases e
      obtain ⟨t, u, ⟨dx, m⟩, _⟩ := q.ob
      rw [m] at g
      cases g
    · cases e; rw [g2] at g; cases g
end
end My
namespace K40
open PySem PySem.Spec PyProof.Rows L2 My
local macro_rules | `(tactic| walk_at "c") => `(tactic| first | exact Eq.refl _ | ((with_reducible show (_ : Int) ≤ _); omega) | ((with_reducible show (_ : Int) < _); omega) | ((with_reducible show (_ : Nat) ≤ _); omega) | ((with_reducible show (_ : Nat) < _); omega) | assumption | with_reducible exact lf_marks _ _ _ _ | with_reducible exact lf_rule _ _ _ _ | with_reducible exact lf_least _ _ _ _ | with_reducible exact lf_most _ _ _ _ | with_reducible exact mf_top _ _ | with_reducible exact mf_bottom _ _ | with_reducible exact sf_low _ _ _ _ | with_reducible exact sf_high _ _ _ _ | with_reducible exact sf_low_in _ _ _ _ | with_reducible exact sf_high_in _ _ _ _ | exact SqL.of (by assumption) | exact SqT.of (by assumption) | exact Or.inl (SqL.of (by assumption)) | exact Or.inr (SqT.of (by assumption)) | exact Or.inr (by assumption) | exact Or.inl (by assumption) | omega | exact atI_nat (by assumption) | exact atI_of (n := 0) rfl (by assumption) | exact logS (by omega) | exact Or.inl (Or.inl ⟨by omega, by omega⟩) | exact Or.inl (Or.inr ⟨by omega, by omega⟩) | exact szb rfl | exact szs (by omega) | exact szl (by omega) | exact Or.inl ⟨Eq.refl _, _, SqL.of (by assumption)⟩ | exact ⟨_, SqT.of (by assumption)⟩ | exact ⟨_, SqL.of (by assumption)⟩ | exact ⟨by omega, by omega, by omega, by omega⟩)
local macro_rules | `(tactic| walk_at "e") => `(tactic| first | rfl | exact ⟨rfl, rfl⟩ | exact ⟨rfl, rfl, rfl⟩ | assumption | exact trivial)
local macro_rules | `(tactic| walk_at "w1") => `(tactic| first
  | refine q_belowT (by assumption) (by assumption) (by omega) (by omega) ?_ | refine q_belowA (by assumption) (by assumption) (by omega) (by omega) ?_ | refine q_subT (by assumption) (by assumption) (by omega) (by omega) (by omega) ?_
  | refine meth_q (by assumption) (by decide +kernel) (by decide +kernel) ?_ | refine meth_l (by assumption) (by decide +kernel) (by decide +kernel) (by decide +kernel) (by decide +kernel) ?_ | refine meth_s (by assumption) (by decide +kernel) (by decide +kernel) (by decide +kernel) (by decide +kernel) ?_
  | apply @Exists.intro V | apply @Exists.intro Int | apply @Exists.intro Addr | apply @Exists.intro Bool | apply @Exists.intro (List V) | apply @Exists.intro Str | apply @Exists.intro Nat | apply @Exists.intro (List (Str × V))
  | refine And.intro (by walk_at "c") ?_ | refine iteT ?_ | refine iteF ?_ | refine iteDT (by omega) ?_ | refine iteDF (by omega) ?_ | refine iteNS (by omega) ?_ | refine iteNT (by omega) ?_)
local macro_rules | `(tactic| walk_at "w") => `(tactic| repeat (walk_at "w1"))
local macro_rules | `(tactic| walk_at "wa1") => `(tactic| first | refine q_addT (by assumption) (by assumption) (by omega) (by omega) (by omega) ?_ | refine q_mulT (by assumption) (by assumption) (by omega) (by omega) (by omega) ?_ | walk_at "w1")
local macro_rules | `(tactic| walk_at "wa") => `(tactic| repeat (walk_at "wa1"))
local macro_rules | `(tactic| walk_at "hand") => `(tactic| first | assumption | exact HandAt.up (by walk_at "hand") (by assumption))
local macro_rules | `(tactic| walk_at "hp") => `(tactic| first | assumption | exact upd_same | exact up1 (by assumption) (by walk_at "hp") | exact Kp.get (by assumption) (by walk_at "hand") (by walk_at "hp") (by rfl) | exact L2.Same.get (by assumption) (by walk_at "hp") | exact up2 (by assumption) (by walk_at "hp") (by rfl))


/-- turns: Measures among which are all ends of the stretches of a ladder's sizes -/
structure TurnsL (CM : Addr) (H : Hp) (k : Nat) (ps : List V) (qs : List Q2) (zs : List Q2) (r : Str) (lo hi : Option Q2) : Prop where
  ms : Mks CM H k ps qs
  has : ∀ n, n < zs.length → sizB zs r lo hi n = true → (∀ e, (sizE zs r lo hi n).1.1 = some e → ∃ q ∈ qs, toR q = toR e) ∧ ∀ e, (sizE zs r lo hi n).2.1 = some e → ∃ q ∈ qs, toR q = toR e
theorem szE_of {CM : Addr} {H : Hp} {k : Nat} {v : V} : ∀ {o : Option Q2}, QO CM H k v o → SzE k o
  | none, _ => trivial
  | some _, ⟨_, _, q⟩ => ⟨q.s1, q.s2⟩
theorem szL_of {CM : Addr} {H : Hp} {k : Nat} {ps : List V} {zs : List Q2} (m : Mks CM H k ps zs) : SzL k zs := fun z hz => by
  obtain ⟨i, hi⟩ := List.mem_iff_getElem?.mp hz
  obtain ⟨p, _, q⟩ := m.at hi
  exact ⟨q.s1, q.s2⟩
def AllE (CM : Addr) (H : Hp) (k : Nat) (acc : List V) : Prop := ∀ v ∈ acc, ∃ e, QO CM H k v e
theorem AllE.snoc {CM : Addr} {H : Hp} {k : Nat} {acc : List V} {v : V} {e : Option Q2} (a : AllE CM H k acc) (q : QO CM H k v e) : AllE CM H k (acc ++ [v]) := fun u hu => by
  rcases List.mem_append.mp hu with h | h
  · exact a u h
  · rw [List.mem_singleton.mp h]; exact ⟨e, q⟩
theorem AllE.nl {CM : Addr} {H H' : Hp} {k : Nat} {acc : List V} (a : AllE CM H k acc) (s : Nl H H') : AllE CM H' k acc := fun u hu => by
  obtain ⟨e, q⟩ := a u hu
  exact ⟨e, QO.nl s q⟩
def HasE (CM : Addr) (H : Hp) (k : Nat) (acc : List V) (e : Option Q2) : Prop := ∃ v ∈ acc, QO CM H k v e
theorem HasE.nl {CM : Addr} {H H' : Hp} {k : Nat} {acc : List V} {e : Option Q2} (a : HasE CM H k acc e) (s : Nl H H') : HasE CM H' k acc e := by
  obtain ⟨v, hv, q⟩ := a
  exact ⟨v, hv, QO.nl s q⟩
theorem HasE.snoc {CM : Addr} {H : Hp} {k : Nat} {acc : List V} {e : Option Q2} (a : HasE CM H k acc e) (v : V) : HasE CM H k (acc ++ [v]) e := by
  obtain ⟨u, hu, q⟩ := a
  exact ⟨u, List.mem_append.mpr (.inl hu), q⟩
/-- the ends of the first i stretches are there -/
def HasI (CM : Addr) (H : Hp) (k : Nat) (acc : List V) (zs : List Q2) (r : Str) (lo hi : Option Q2) (i : Nat) : Prop := ∀ n, n < i → sizB zs r lo hi n = true → HasE CM H k acc (sizE zs r lo hi n).1.1 ∧ HasE CM H k acc (sizE zs r lo hi n).2.1
theorem HasI.nl {CM : Addr} {H H' : Hp} {k : Nat} {acc : List V} {zs : List Q2} {r : Str} {lo hi : Option Q2} {i : Nat} (a : HasI CM H k acc zs r lo hi i) (s : Nl H H') : HasI CM H' k acc zs r lo hi i := fun n hn h => ⟨(a n hn h).1.nl s, (a n hn h).2.nl s⟩
theorem HasI.snoc {CM : Addr} {H : Hp} {k : Nat} {acc : List V} {zs : List Q2} {r : Str} {lo hi : Option Q2} {i : Nat} (a : HasI CM H k acc zs r lo hi i) (v : V) : HasI CM H k (acc ++ [v]) zs r lo hi i := fun n hn h => ⟨(a n hn h).1.snoc v, (a n hn h).2.snoc v⟩
def TuP (CM : Addr) (k : Nat) (zs : List Q2) (r : Str) (lo hi : Option Q2) (i : Nat) (H : Hp) (acc : List V) : Prop := AllE CM H k acc ∧ HasI CM H k acc zs r lo hi i
def TuI (CM : Addr) (k : Nat) (zs : List Q2) (r : Str) (lo hi : Option Q2) (i j : Nat) (H : Hp) (acc : List V) : Prop := AllE CM H k acc ∧ HasI CM H k acc zs r lo hi i ∧ (0 < j → HasE CM H k acc (sizE zs r lo hi i).1.1) ∧ (1 < j → HasE CM H k acc (sizE zs r lo hi i).2.1)
theorem mks_of {CM : Addr} {H : Hp} {k : Nat} : ∀ {ys : List V}, (∀ v ∈ ys, ∃ p z, v = V.ref p ∧ QAt CM H p k z) → ∃ zs, Mks CM H k ys zs
  | [], _ => ⟨[], rfl, fun i v z h _ => by simp at h⟩
  | y :: ys, h => by
    obtain ⟨zs, m⟩ := mks_of (ys := ys) fun v hv => h v (by simp [hv])
    obtain ⟨p, z, e, q⟩ := h y (by simp)
    refine ⟨z :: zs, by rw [List.length_cons, List.length_cons, m.len], fun i v w h1 h2 => ?_⟩
    cases i with
    | zero =>
      cases h1; cases h2
      exact ⟨p, e, q⟩
    | succ i => exact m.all i v w (by simpa using h1) (by simpa using h2)
theorem QAt.toR {C p : Addr} {H : Hp} {k j : Nat} {x y : Q2} (a : QAt C H p k x) (b : QAt C H p j y) : toR x = toR y := by
  obtain ⟨⟨t, u, m, f⟩, h1, h2, h3⟩ := a
  obtain ⟨⟨t', u', m', f'⟩, g1, g2, g3⟩ := b
  obtain ⟨e1, e2⟩ := m.uniq m'
  subst e1
  subst e2
  have r1 : Re (t, u) x := ⟨f.pos, h1, f.eq⟩
  have r2 : Re (t, u) y := ⟨f'.pos, g1, f'.eq⟩
  rw [← re_R r1, ← re_R r2]
def sp_turns (K : PySem.W.Frag) (CM CL : Addr) : Sp := fun vs H Q _ => ∃ (p : Addr) (k : Nat) (zs : List Q2) (r : Str) (lo hi : Option Q2), vs = [.ref p] ∧ LadAt K CM CL H p k zs r lo hi ∧ 0 < k ∧ k ≤ 1000 ∧ ∀ (D : Addr) (ps : List V) (qs : List Q2) (H' : Hp), Same H H' → H' D = some (.lst ps) → ps.length ≤ 48 → TurnsL CM H' (k + k + 12) ps qs zs r lo hi → Q (.ref D) H'

/-- the least turn above x, or y -/
structure Behind (qs : List Q2) (x y z : Q2) : Prop where
  src : toR z = toR y ∨ ∃ q ∈ qs, toR q = toR z
  gt : toR x < toR z
  le : toR z ≤ toR y
  least : ∀ q ∈ qs, toR x < toR q → toR z ≤ toR q
def sp_behind (CM : Addr) : Sp := fun vs H Q _ => ∃ (D p h : Addr) (k : Nat) (ps : List V) (qs : List Q2) (x y : Q2), vs = [.ref D, .ref p, .ref h] ∧ H D = some (.lst ps) ∧ Mks CM H k ps qs ∧ QAt CM H p k x ∧ QAt CM H h k y ∧ toR x < toR y ∧ k ≤ 9000 ∧ ∀ (r : Addr) (z : Q2), QAt CM H r k z → Behind qs x y z → Q (.ref r) H

/-- x, all turns between, and y, rising -/
structure PtsQ (qs : List Q2) (x y : Q2) (zs : List Q2) : Prop where
  fst : ∀ z, zs[0]? = some z → toR z = toR x
  lst : ∀ i z, zs[i]? = some z → zs[i + 1]? = none → toR z = toR y
  rise : ∀ i a b, zs[i]? = some a → zs[i + 1]? = some b → toR a < toR b
  free : ∀ i a b, zs[i]? = some a → zs[i + 1]? = some b → ∀ q ∈ qs, ¬ (toR a < toR q ∧ toR q < toR b)
  ne : toR x ≤ toR y → zs ≠ []
  em : toR y < toR x → zs = []
/-- how many steps are left at z -/
def leftN (qs : List Q2) (z y : Q2) : Nat := qs.countP (ltq z) + (if ltq z y = true then 1 else 0)
/-- the points so far, and the point ahead -/
structure PtsP (qs : List Q2) (x y : Q2) (zs : List Q2) (z : Q2) : Prop where
  emp : zs = [] → toR z = toR x
  fst : ∀ z, zs[0]? = some z → toR z = toR x
  le : zs ≠ [] → toR z ≤ toR y
  rise : ∀ i a b, (zs ++ [z])[i]? = some a → (zs ++ [z])[i + 1]? = some b → toR a < toR b
  free : ∀ i a b, (zs ++ [z])[i]? = some a → (zs ++ [z])[i + 1]? = some b → ∀ q ∈ qs, ¬ (toR a < toR q ∧ toR q < toR b)
theorem PtsP.first {qs : List Q2} {x y : Q2} : PtsP qs x y [] x := ⟨fun _ => rfl, fun z h => by simp at h, fun h => absurd rfl h, fun i a b _ h => by simp at h, fun i a b _ h => by simp at h⟩
theorem snoc_pair {zs : List Q2} {z w a b : Q2} {i : Nat} (h1 : ((zs ++ [z]) ++ [w])[i]? = some a) (h2 : ((zs ++ [z]) ++ [w])[i + 1]? = some b) : ((zs ++ [z])[i]? = some a ∧ (zs ++ [z])[i + 1]? = some b) ∨ (a = z ∧ b = w) := by
  have l := (List.getElem?_eq_some_iff.mp h2).1
  simp only [List.length_append, List.length_singleton] at l
  by_cases e : i = zs.length
  · subst e
    rw [List.getElem?_append_left (by simp), List.getElem?_append_right (Nat.le_refl _), Nat.sub_self] at h1
    rw [List.getElem?_append_right (by simp), show zs.length + 1 - (zs ++ [z]).length = 0 by simp] at h2
    right
    exact ⟨by cases h1; rfl, by cases h2; rfl⟩
  · left
    rw [List.getElem?_append_left (by simp; omega)] at h1
    rw [List.getElem?_append_left (by simp; omega)] at h2
    exact ⟨h1, h2⟩
theorem PtsP.next {qs : List Q2} {x y : Q2} {zs : List Q2} {z w : Q2} (P : PtsP qs x y zs z) (B : Behind qs z y w) : PtsP qs x y (zs ++ [z]) w := by
  refine ⟨fun e => by simp at e, fun u h => ?_, fun _ => B.le, fun i a b h1 h2 => ?_, fun i a b h1 h2 q hq => ?_⟩
  · cases zs with
    | nil =>
      cases h
      exact P.emp rfl
    | cons c r => exact P.fst u h
  · rcases snoc_pair h1 h2 with ⟨e1, e2⟩ | ⟨rfl, rfl⟩
    · exact P.rise i a b e1 e2
    · exact B.gt
  · rcases snoc_pair h1 h2 with ⟨e1, e2⟩ | ⟨rfl, rfl⟩
    · exact P.free i a b e1 e2 q hq
    · rintro ⟨g1, g2⟩
      have := B.least q hq g1
      grind
theorem countP_lt' {qs : List Q2} {p p' : Q2 → Bool} (h : ∀ q ∈ qs, p' q = true → p q = true) {q : Q2} (hq : q ∈ qs) (h1 : p q = true) (h2 : p' q = false) : qs.countP p' < qs.countP p := by
  induction qs with
  | nil => cases hq
  | cons c r ih =>
    rw [List.countP_cons, List.countP_cons]
    have hr : r.countP p' ≤ r.countP p := List.countP_mono_left fun u hu => h u (List.mem_cons_of_mem _ hu)
    rcases List.mem_cons.mp hq with rfl | hq
    · rw [if_pos h1, if_neg (by rw [h2]; decide)]
      omega
    · have := ih (fun u hu => h u (List.mem_cons_of_mem _ hu)) hq
      by_cases g : p' c = true
      · rw [if_pos g, if_pos (h c (List.mem_cons_self ..) g)]
        omega
      · rw [if_neg g]
        omega
theorem ltq_F {a b : Q2} (ha : 0 < a.2) (hb : 0 < b.2) (h : ¬ toR a < toR b) : ltq a b = false := by
  cases e : ltq a b with
  | false => rfl
  | true => exact absurd ((ltq_R ha hb).mp e) h
theorem left_lt {qs : List Q2} {z y w : Q2} (hq : ∀ q ∈ qs, 0 < q.2) (hz : 0 < z.2) (hy : 0 < y.2) (hw : 0 < w.2) (lt : toR z < toR y) (B : Behind qs z y w) : leftN qs w y < leftN qs z y := by
  have mono : ∀ q ∈ qs, ltq w q = true → ltq z q = true := fun q h g => by
    have := (ltq_R hw (hq q h)).mp g
    have := B.gt
    exact (ltq_R hz (hq q h)).mpr (by grind)
  have m := List.countP_mono_left (p := ltq w) (q := ltq z) (l := qs) mono
  unfold leftN
  rw [if_pos ((ltq_R hz hy).mpr lt)]
  rcases B.src with e | ⟨q, h, e⟩
  · rw [if_neg (by rw [ltq_F hw hy (by rw [e]; exact Rat.lt_irrefl)]; decide)]
    omega
  · have := countP_lt' (p := ltq z) (p' := ltq w) mono h ((ltq_R hz (hq q h)).mpr (by rw [e]; exact B.gt)) (ltq_F hw (hq q h) (by rw [e]; exact Rat.lt_irrefl))
    split <;> omega
theorem PtsP.done {qs : List Q2} {x y : Q2} {zs : List Q2} {z : Q2} (P : PtsP qs x y zs z) (e : toR z = toR y) : PtsQ qs x y (zs ++ [z]) := by
  refine ⟨fun u h => ?_, fun i u h1 h2 => ?_, P.rise, P.free, fun _ => by simp, fun g => ?_⟩
  · cases zs with
    | nil =>
      cases h
      exact P.emp rfl
    | cons c r => exact P.fst u h
  · have l := (List.getElem?_eq_some_iff.mp h1).1
    rw [List.getElem?_eq_none_iff] at h2
    simp only [List.length_append, List.length_singleton] at l h2
    have : i = zs.length := by omega
    subst this
    rw [List.getElem?_append_right (Nat.le_refl _), Nat.sub_self] at h1
    cases h1
    exact e
  · exfalso
    cases zs with
    | nil =>
      have := P.emp rfl
      grind
    | cons c r =>
      have h0 := P.fst c rfl
      have hl : toR c ≤ toR z := by
        have key : ∀ (us : List Q2) (a b : Q2), us[0]? = some a → us.getLast? = some b → (∀ i a b, us[i]? = some a → us[i + 1]? = some b → toR a < toR b) → toR a ≤ toR b := by
          intro us
          induction us with
          | nil => intro a b h; simp at h
          | cons d t ih =>
            intro a b h1 h2 h3
            cases h1
            cases t with
            | nil => cases h2; exact Rat.le_refl
            | cons d2 t2 =>
              have g1 := h3 0 d d2 rfl rfl
              have g2 := ih d2 b rfl (by rw [List.getLast?_cons_cons] at h2; exact h2) fun i a b q1 q2 => h3 (i + 1) a b (by simpa using q1) (by simpa using q2)
              grind
        exact key ((c :: r) ++ [z]) c z rfl List.getLast?_concat P.rise
      grind
theorem PtsP.over {qs : List Q2} {x y : Q2} {zs : List Q2} {z : Q2} (P : PtsP qs x y zs z) (e : toR y < toR z) : PtsQ qs x y zs := by
  have : zs = [] := by
    by_cases g : zs = []
    · exact g
    · have := P.le g
      grind
  subst this
  have h := P.emp rfl
  exact ⟨fun z h => by simp at h, fun i z h => by simp at h, fun i a b h => by simp at h, fun i a b h => by simp at h, fun g => by grind, fun _ => rfl⟩
theorem eqq_T {a b : Q2} (ha : 0 < a.2) (hb : 0 < b.2) (h : toR a = toR b) : eqq a b = true := decide_eq_true (re_of_R ha hb h).2.2
theorem eqq_F {a b : Q2} (ha : 0 < a.2) (hb : 0 < b.2) (h : ¬ toR a = toR b) : eqq a b = false := by
  cases e : eqq a b with
  | false => rfl
  | true => exact absurd (re_R (eqq_re ha hb e)) h
theorem mks_pos {C : Addr} {H : Hp} {k : Nat} {ps : List V} {qs : List Q2} (m : Mks C H k ps qs) : ∀ q ∈ qs, 0 < q.2 := fun z hz => by
  obtain ⟨i, hi⟩ := List.mem_iff_getElem?.mp hz
  obtain ⟨p, _, q⟩ := m.at hi
  exact q.pos
theorem mks_nl {C : Addr} {H H' : Hp} {k : Nat} {ps : List V} {qs : List Q2} (m : Mks C H k ps qs) (s : Nl H H') : Mks C H' k ps qs := ⟨m.len, fun i v z h1 h2 => by
  obtain ⟨p, e, q⟩ := m.all i v z h1 h2
  exact ⟨p, e, q.nl s⟩⟩
theorem mks_snoc {C : Addr} {H : Hp} {k : Nat} {ps : List V} {qs : List Q2} {p : Addr} {z : Q2} (m : Mks C H k ps qs) (q : QAt C H p k z) : Mks C H k (ps ++ [V.ref p]) (qs ++ [z]) := ⟨by rw [List.length_append, List.length_append, m.len]; rfl, fun i v w h1 h2 => by
  have l := m.len
  by_cases e : i < ps.length
  · rw [List.getElem?_append_left e] at h1
    rw [List.getElem?_append_left (by omega)] at h2
    exact m.all i v w h1 h2
  · have l1 := (List.getElem?_eq_some_iff.mp h1).1
    rw [List.length_append, List.length_singleton] at l1
    have ei : i = ps.length := by omega
    subst ei
    rw [List.getElem?_append_right (Nat.le_refl _), Nat.sub_self] at h1
    rw [l, List.getElem?_append_right (Nat.le_refl _), Nat.sub_self] at h2
    cases h1
    cases h2
    exact ⟨p, rfl, q⟩⟩
theorem q_eqI {C p q : Addr} {H : Hp} {Q : VK} {E : XK} {k j : Nat} {x y : Q2} (hx : QAt C H p k x) (hy : QAt C H q j y) (f : Q (.bl (eqq x y)) H) : ∃ a b dx dy fs gs, V.ref p = .ref a ∧ V.ref q = .ref b ∧ H a = some (.ins C dx fs) ∧ H b = some (.ins C dy gs) ∧ sp_meq C [.ref a, .ref b] H Q E := by
  obtain ⟨⟨t, u, ⟨d1, m1⟩, f1⟩, px, _⟩ := hx
  obtain ⟨⟨t', u', ⟨d2, m2⟩, f2⟩, py, _⟩ := hy
  refine ⟨p, q, d1, d2, _, _, rfl, rfl, m1, m2, p, q, (t, u), (t', u'), rfl, ⟨d1, m1⟩, ⟨d2, m2⟩, ?_⟩
  show Q (.bl (decide (t = t') && decide (u = u'))) H
  rw [fr_eqq f1 f2 px py]
  exact f
def sp_points (CM : Addr) : Sp := fun vs H Q _ => ∃ (D p h : Addr) (k : Nat) (ps : List V) (qs : List Q2) (x y : Q2), vs = [.ref D, .ref p, .ref h] ∧ H D = some (.lst ps) ∧ Mks CM H k ps qs ∧ QAt CM H p k x ∧ QAt CM H h k y ∧ k ≤ 4000 ∧ ps.length ≤ 400 ∧ ∀ (R : Addr) (us : List V) (zs : List Q2) (H' : Hp), Same H H' → H' R = some (.lst us) → us.length ≤ 402 → Mks CM H' k us zs → PtsQ qs x y zs → Q (.ref R) H'

/-- the look at place j -/
def LookV (C : Addr) (H : Hp) (k : Nat) (zs : List Q2) (j : Nat) (v : V) : Prop := ∃ (T p : Addr) (z : Q2), v = .ref T ∧ zs[j / 2]? = some z ∧ QAt C H p k z ∧
  ((j % 2 = 0 ∧ H T = some (.tup [.ref p, .str "at", .ref p])) ∨ (j % 2 = 1 ∧ ∃ (m : Addr) (w : Q2), zs[j / 2 + 1]? = some w ∧ H T = some (.tup [.ref p, .str "behind", .ref m]) ∧ QAt C H m (k + k + 12) (qprt (qadd z w) 2)))
theorem LookV.nl {C : Addr} {H H' : Hp} {k : Nat} {zs : List Q2} {j : Nat} {v : V} (a : LookV C H k zs j v) (s : Nl H H') : LookV C H' k zs j v := by
  obtain ⟨T, p, z, rfl, h1, h2, h3⟩ := a
  refine ⟨T, p, z, rfl, h1, h2.nl s, ?_⟩
  rcases h3 with ⟨e, h⟩ | ⟨e, m, w, g1, g2, g3⟩
  · exact .inl ⟨e, s _ _ h rfl⟩
  · exact .inr ⟨e, m, w, g1, s _ _ g2 rfl, g3.nl s⟩
theorem look_snoc {C : Addr} {H H' : Hp} {k : Nat} {zs : List Q2} {ls : List V} {w : V} (h : ∀ j v, ls[j]? = some v → LookV C H k zs j v) (s : Nl H H') (hw : LookV C H' k zs ls.length w) : ∀ j v, (ls ++ [w])[j]? = some v → LookV C H' k zs j v := fun j v g => by
  by_cases e : j < ls.length
  · rw [List.getElem?_append_left e] at g
    exact (h j v g).nl s
  · have l1 := (List.getElem?_eq_some_iff.mp g).1
    rw [List.length_append, List.length_singleton] at l1
    have ei : j = ls.length := by omega
    subst ei
    rw [List.getElem?_append_right (Nat.le_refl _), Nat.sub_self] at g
    cases g
    exact hw
def sp_looks (C : Addr) : Sp := fun vs H Q _ => ∃ (D : Addr) (k : Nat) (ps : List V) (zs : List Q2), vs = [.ref D] ∧ H D = some (.lst ps) ∧ Mks C H k ps zs ∧ 0 < k ∧ k ≤ 4000 ∧ ps.length ≤ 402 ∧ ∀ (L : Addr) (ls : List V) (H' : Hp), Same H H' → H' L = some (.lst ls) → ls.length = 2 * zs.length - 1 → (∀ j v, ls[j]? = some v → LookV C H' k zs j v) → Q (.ref L) H'

def sp_alike2 : Sp := fun vs H Q _ => ∃ (a b : Option Nat) (sh : Int), vs = [optI a, optI b, .int sh] ∧ Q (.bl (alkB a b sh)) H

/-- what parting answers, as a tuple -/
def PartV (C : Addr) (H : Hp) (j : Nat) (R : Addr) : PRes → Prop
  | none => H R = some (.tup [.str "alike"])
  | some (m, b, x, y) => ∃ M z, QAt C H M j z ∧ toR z = m ∧ H R = some (.tup [.str "part", .ref M, .str (if b = true then "behind" else "at"), optI x, optI y])
theorem poso_of {C : Addr} {H : Hp} {k : Nat} {v : V} : ∀ {o : Option Q2}, QO C H k v o → PosO o
  | none, _ => trivial
  | some _, ⟨_, _, q⟩ => q.pos
theorem ladq_of {K : PySem.W.Frag} {CM CL : Addr} {H : Hp} {p : Addr} {k : Nat} {zs : List Q2} {r : Str} {lo hi : Option Q2} (a : LadAt K CM CL H p k zs r lo hi) : LadQ zs r lo hi := by
  obtain ⟨⟨dx, T, ps, l, h, h1, h2, h3, h4, h5⟩, a1, a2, a3, a4, a5⟩ := a
  exact ⟨a3, mks_pos h3, poso_of h4, poso_of h5, a5⟩
def HasT (qs zs : List Q2) (r : Str) (lo hi : Option Q2) : Prop := ∀ n, n < zs.length → sizB zs r lo hi n = true → (∀ e, (sizE zs r lo hi n).1.1 = some e → ∃ q ∈ qs, toR q = toR e) ∧ ∀ e, (sizE zs r lo hi n).2.1 = some e → ∃ q ∈ qs, toR q = toR e
theorem noturn_of {zs : List Q2} {r : Str} {lo hi : Option Q2} {qs qq us : List Q2} {x y : Q2} (t : HasT qs zs r lo hi) (sub : ∀ q ∈ qs, q ∈ qq) (P : PtsQ qq x y us) {i : Nat} {a b : Q2} (h1 : us[i]? = some a) (h2 : us[i + 1]? = some b) : NoTurn zs r lo hi (toR a) (toR b) := fun n hn h => ⟨fun e he g => by
  obtain ⟨q, hq, e2⟩ := (t n hn h).1 e he
  exact P.free i a b h1 h2 q (sub q hq) (by rw [e2]; exact g), fun e he g => by
  obtain ⟨q, hq, e2⟩ := (t n hn h).2 e he
  exact P.free i a b h1 h2 q (sub q hq) (by rw [e2]; exact g)⟩
theorem pts_of {zs zt : List Q2} {r rt : Str} {lo hi lt ht : Option Q2} (A : LadQ zs r lo hi) (B : LadQ zt rt lt ht) {q1 q2 us : List Q2} {x y : Q2} (t1 : HasT q1 zs r lo hi) (t2 : HasT q2 zt rt lt ht) (P : PtsQ (q1 ++ q2) x y us) (le : toR x ≤ toR y) : Pts (sizF zs r lo hi) (sizF zt rt lt ht) (toR x) (toR y) (us.map toR) := by
  have at_ : ∀ {i : Nat} {a : Rat}, (us.map toR)[i]? = some a → ∃ z, us[i]? = some z ∧ toR z = a := fun h => by
    rw [List.getElem?_map] at h
    exact Option.map_eq_some_iff.mp h
  have ne := P.ne le
  have l0 : 0 < us.length := List.length_pos_iff.mpr ne
  refine ⟨?_, ?_, ?_, ?_⟩
  · have h0 : us[0]? = some us[0] := List.getElem?_eq_getElem l0
    rw [List.getElem?_map, h0]
    exact congrArg some (P.fst _ h0)
  · have h0 : us[us.length - 1]? = some us[us.length - 1] := List.getElem?_eq_getElem (by omega)
    rw [List.getLast?_eq_getElem?, List.length_map, List.getElem?_map, h0]
    exact congrArg some (P.lst _ _ h0 (List.getElem?_eq_none_iff.mpr (by omega)))
  · intro i a b h1 h2
    obtain ⟨z, e1, rfl⟩ := at_ h1
    obtain ⟨w, e2, rfl⟩ := at_ h2
    exact P.rise i z w e1 e2
  · intro i a b h1 h2 u v u1 u2 v1 v2
    obtain ⟨z, e1, rfl⟩ := at_ h1
    obtain ⟨w, e2, rfl⟩ := at_ h2
    exact ⟨siz_gap A (noturn_of t1 (fun q h => List.mem_append.mpr (.inl h)) P e1 e2) u1 u2 v1 v2, siz_gap B (noturn_of t2 (fun q h => List.mem_append.mpr (.inr h)) P e1 e2) u1 u2 v1 v2⟩
def LookR (us : List Q2) (j : Nat) (c : Rat) : Prop := ∃ z, us[j / 2]? = some z ∧ ((j % 2 = 0 ∧ c = toR z) ∨ (j % 2 = 1 ∧ ∃ w, us[j / 2 + 1]? = some w ∧ c = (toR z + toR w) / 2))
theorem LookR.lt {us : List Q2} {j : Nat} {c : Rat} (h : LookR us j c) : j < 2 * us.length - 1 := by
  obtain ⟨z, e, h⟩ := h
  have l := (List.getElem?_eq_some_iff.mp e).1
  rcases h with ⟨h, _⟩ | ⟨h, w, e2, _⟩
  · omega
  · have := (List.getElem?_eq_some_iff.mp e2).1
    omega
section
variable {F G : Rat → Option Nat} {sh : Int} {lo hi : Rat} {us : List Q2} {n : Nat}
theorem look_h1 (h : ∀ j c, j < n → LookR us j c → alkB (F c) (G c) sh = true) : ∀ (j : Nat) (c : Rat), 2 * j < n → (us.map toR)[j]? = some c → alkB (F c) (G c) sh = true := fun j c hj e => by
  rw [List.getElem?_map] at e
  obtain ⟨z, e1, e2⟩ := Option.map_eq_some_iff.mp e
  exact h (2 * j) c hj ⟨z, by rw [show 2 * j / 2 = j by omega]; exact e1, .inl ⟨by omega, e2.symm⟩⟩
theorem look_h2 (P : Pts F G lo hi (us.map toR)) (h : ∀ j c, j < n → LookR us j c → alkB (F c) (G c) sh = true) : ∀ (j : Nat) (c d : Rat), 2 * j + 1 < n → (us.map toR)[j]? = some c → (us.map toR)[j + 1]? = some d → ∃ y, c < y ∧ y < d ∧ alkB (F y) (G y) sh = true := fun j c d hj e g => by
  have lt := P.rise j c d e g
  rw [List.getElem?_map] at e g
  obtain ⟨z, e1, rfl⟩ := Option.map_eq_some_iff.mp e
  obtain ⟨w, g1, rfl⟩ := Option.map_eq_some_iff.mp g
  exact ⟨_, (midR lt).1, (midR lt).2, h (2 * j + 1) _ hj ⟨z, by rw [show (2 * j + 1) / 2 = j by omega]; exact e1, .inr ⟨by omega, w, by rw [show (2 * j + 1) / 2 + 1 = j + 1 by omega]; exact g1, rfl⟩⟩⟩
theorem part_fin (P : lo ≤ hi → Pts F G lo hi (us.map toR)) (h : ∀ j c, LookR us j c → alkB (F c) (G c) sh = true) : PartS F G sh lo hi none := by
  by_cases le : lo ≤ hi
  · exact (P le).part_none (fun j c e => look_h1 (n := 2 * j + 1) (fun j c _ => h j c) j c (by omega) e) fun j c d e g => look_h2 (n := 2 * j + 2) (P le) (fun j c _ => h j c) j c d (by omega) e g
  · intro x h1 h2
    exact absurd (Rat.le_trans h1 h2) le
theorem part_stop (P : Pts F G lo hi (us.map toR)) {j : Nat} {c : Rat} {z : Q2} (hz : us[j / 2]? = some z) (l : LookR us j c) (h : ∀ j' c, j' < j → LookR us j' c → alkB (F c) (G c) sh = true) (n : alkB (F c) (G c) sh = false) : PartS F G sh lo hi (some (toR z, decide (j % 2 = 1), F c, G c)) := by
  obtain ⟨z', e, l⟩ := l
  rw [hz] at e
  cases e
  have hz' : (us.map toR)[j / 2]? = some (toR z) := by rw [List.getElem?_map, hz]; rfl
  rcases l with ⟨e, rfl⟩ | ⟨e, w, hw, rfl⟩
  · rw [decide_eq_false (by omega)]
    exact P.part_at hz' (fun j' c hj q => look_h1 h j' c (by omega) q) (fun j' c d hj q g => look_h2 P h j' c d (by omega) q g) n
  · rw [decide_eq_true e]
    have hw' : (us.map toR)[j / 2 + 1]? = some (toR w) := by rw [List.getElem?_map, hw]; rfl
    have lt := P.rise _ _ _ hz' hw'
    exact P.part_behind hz' hw' (midR lt).1 (midR lt).2 (fun j' c hj q => look_h1 h j' c (by omega) q) (fun j' c d hj q g => look_h2 P h j' c d (by omega) q g) n
end
theorem look_at {C : Addr} {H : Hp} {k : Nat} {us : List Q2} {j : Nat} {v : V} (h : LookV C H k us j v) : ∃ (T p m : Addr) (z xx : Q2), v = .ref T ∧ H T = some (.tup [.ref p, .str (if decide (j % 2 = 1) = true then "behind" else "at"), .ref m]) ∧ us[j / 2]? = some z ∧ QAt C H p k z ∧ QAt C H m (k + k + 12) xx ∧ LookR us j (toR xx) := by
  obtain ⟨T, p, z, rfl, hz, qz, h⟩ := h
  rcases h with ⟨e, h⟩ | ⟨e, m, w, hw, h, qm⟩
  · refine ⟨T, p, p, z, z, rfl, ?_, hz, qz, qz.mono (by omega), z, hz, .inl ⟨e, rfl⟩⟩
    rw [decide_eq_false (by omega)]
    exact h
  · refine ⟨T, p, m, z, _, rfl, ?_, hz, qz, qm, z, hz, .inr ⟨e, w, hw, half_R qz.pos ?_⟩⟩
    · rw [decide_eq_true e]
      exact h
    · have h0 : 0 < (qhalf z w).2 := qm.pos
      rw [qhalf_eq] at h0
      have h0 : 0 < z.2 * w.2 * 2 := h0
      refine Classical.byContradiction fun g => ?_
      have h1 := Int.mul_le_mul_of_nonneg_left (show w.2 ≤ 0 by omega) (Int.le_of_lt qz.pos)
      rw [Int.mul_zero] at h1
      omega
theorem LookR.uniq {us : List Q2} {j : Nat} {c d : Rat} (h : LookR us j c) (g : LookR us j d) : c = d := by
  obtain ⟨z, e, h⟩ := h
  obtain ⟨z', e', g⟩ := g
  rw [e] at e'
  cases e'
  rcases h with ⟨h, rfl⟩ | ⟨h, w, hw, rfl⟩
  · rcases g with ⟨g, rfl⟩ | ⟨g, _⟩
    · rfl
    · omega
  · rcases g with ⟨g, _⟩ | ⟨g, w', hw', rfl⟩
    · omega
    · rw [hw] at hw'
      cases hw'
      rfl
theorem mks_app {C : Addr} {H : Hp} {k : Nat} {ps pt : List V} {qs qt : List Q2} (m : Mks C H k ps qs) (n : Mks C H k pt qt) : Mks C H k (ps ++ pt) (qs ++ qt) := ⟨by rw [List.length_append, List.length_append, m.len, n.len], fun i v w h1 h2 => by
  have l := m.len
  by_cases e : i < ps.length
  · rw [List.getElem?_append_left e] at h1
    rw [List.getElem?_append_left (by omega)] at h2
    exact m.all i v w h1 h2
  · rw [List.getElem?_append_right (by omega)] at h1
    rw [List.getElem?_append_right (by omega), ← l] at h2
    exact n.all _ v w h1 h2⟩
def sp_parting (K : PySem.W.Frag) (CM CL : Addr) : Sp := fun vs H Q _ => ∃ (p q l h : Addr) (sh : Int) (k : Nat) (zs zt : List Q2) (r rt : Str) (lo hi lt ht : Option Q2) (x y : Q2), vs = [.ref p, .ref q, .ref l, .ref h, .int sh] ∧ LadAt K CM CL H p k zs r lo hi ∧ LadAt K CM CL H q k zt rt lt ht ∧ QAt CM H l k x ∧ QAt CM H h k y ∧ 0 < k ∧ k ≤ 240 ∧
  ∀ (R : Addr) (u : PRes) (H' : Hp), Same H H' → PartV CM H' (k + k + 12) R u → PartS (sizF zs r lo hi) (sizF zt rt lt ht) sh (toR x) (toR y) u → Q (.ref R) H'

def sp_istup (K : PySem.W.Frag) : Sp := fun vs H Q _ => ∃ (a : Addr) (xs : List V) (n : Int), vs = [.ref a, .int n] ∧ SqT K H a xs ∧ Q (.bl (decide ((xs.length : Int) = n))) H
def sp_isnum : Sp := fun vs H Q _ => ∃ a b : Int, vs = [.int a, .int b] ∧ Q (.bl (decide (a = b))) H
def sp_isword : Sp := fun vs H Q _ => ∃ a b : Str, vs = [.str a, .str b] ∧ Q (.bl (decide (a = b))) H
def sp_issize : Sp := fun vs H Q _ => ∃ a : Option Nat, vs = [optI a, optI a] ∧ Q (.bl true) H
theorem q_dn {K : PySem.W.Frag} {CM p q : Addr} {H : Hp} {k j : Nat} {z w : Q2} (cl : Cls K CM) (ii : IsC K CM) (ec : EqC K CM) (a : QAt CM H p k z) (b : QAt CM H q j w) (r : Re z w) : DOwn K CM (REq K CM) (.ref p) (.ref q) H true := by
  obtain ⟨⟨t, u, m, f⟩, p1, _, _⟩ := a
  obtain ⟨⟨t', u', m', f'⟩, p2, _, _⟩ := b
  have e := fr_eqq f f' p1 p2
  have e2 : eqq z w = true := decide_eq_true r.2.2
  have h : DOwn K CM (REq K CM) (.ref p) (.ref q) H (decide (t = t') && decide (u = u')) := Like.fwd cl ii ec (Like.ms m m')
  rw [e, e2] at h
  exact h
def sp_ispart (CM : Addr) : Sp := fun vs H Q _ => ∃ (T S M N : Addr) (k j : Nat) (z w : Q2) (u : Str) (a b : Option Nat), vs = [.ref T, .ref S] ∧ H T = some (.tup [.str "part", .ref M, .str u, optI a, optI b]) ∧ H S = some (.tup [.str "part", .ref N, .str u, optI a, optI b]) ∧ QAt CM H M k z ∧ QAt CM H N j w ∧ toR z = toR w ∧ Q (.bl true) H
def sp_shpart (K : PySem.W.Frag) (CM CL : Addr) : Sp := fun vs H Q _ => ∃ (p q l h T : Addr) (sh : Int) (k j : Nat) (zs zt : List Q2) (r rt : Str) (lo hi lt ht : Option Q2) (x y : Q2) (u : PRes), vs = [.ref p, .ref q, .ref l, .ref h, .int sh, .ref T] ∧ LadAt K CM CL H p k zs r lo hi ∧ LadAt K CM CL H q k zt rt lt ht ∧ QAt CM H l k x ∧ QAt CM H h k y ∧ 0 < k ∧ k ≤ 240 ∧ PartV CM H j T u ∧ PartS (sizF zs r lo hi) (sizF zt rt lt ht) sh (toR x) (toR y) u ∧ ∀ H', Same H H' → Q (.bl true) H'
def optK : Option Nat → PK
  | none => .non
  | some n => .int n
def dueK : PRes → List PK
  | none => [.str "alike"]
  | some (m, w, a, b) => [.str "part", .meas (ofR m), .str (if w = true then "behind" else "at"), optK a, optK b]
def sp_whole40 (K : PySem.W.Frag) (CM : Addr) : Sp := fun vs H Q _ => ∃ (v : V) (k : PK), vs = [v] ∧ PKs K CM H v k ∧ Q (.bl (k.isI && !k.isB)) H
def sp_istup40 (K : PySem.W.Frag) (CM : Addr) : Sp := fun vs H Q _ => ∃ (v : V) (o : Option (List PK)) (n : Int), vs = [v, .int n] ∧ Fnd K CM H v o ∧ Q (.bl (match o with | none => false | some ks => decide ((ks.length : Int) = n))) H
def sp_isnum40 (K : PySem.W.Frag) (CM : Addr) : Sp := fun vs H Q _ => ∃ (v : V) (k : PK) (n : Int), vs = [v, .int n] ∧ PKs K CM H v k ∧ Q (.bl (matchB k (.int n))) H
def sp_isword40 (K : PySem.W.Frag) (CM : Addr) : Sp := fun vs H Q _ => ∃ (v : V) (k : PK) (s : Str), vs = [v, .str s] ∧ PKs K CM H v k ∧ Q (.bl (matchB k (.str s))) H
def sp_issize40 (K : PySem.W.Frag) (CM : Addr) : Sp := fun vs H Q _ => ∃ (v : V) (k : PK) (a : Option Nat), vs = [v, optI a] ∧ PKs K CM H v k ∧ Q (.bl (matchB k (optK a))) H
def sp_ispart40 (K : PySem.W.Frag) (CM : Addr) : Sp := fun vs H Q _ => ∃ (v : V) (ks : List PK) (S N : Addr) (j : Nat) (z : Q2) (u : Str) (a b : Option Nat), vs = [v, .ref S] ∧ Fnd K CM H v (some ks) ∧ ks.length = 5 ∧ H S = some (.tup [.str "part", .ref N, .str u, optI a, optI b]) ∧ QAt CM H N j z ∧ Q (.bl ((List.zipWith matchB ks [.str "part", .meas z, .str u, optK a, optK b]).all _root_.id)) H
def sp_shpart40 (K : PySem.W.Frag) (CM CL : Addr) : Sp := fun vs H Q _ => ∃ (p q l h : Addr) (v : V) (o : Option (List PK)) (sh : Int) (k : Nat) (zs zt : List Q2) (r rt : Str) (lo hi lt ht : Option Q2) (x y : Q2) (u : PRes), vs = [.ref p, .ref q, .ref l, .ref h, .int sh, v] ∧ LadAt K CM CL H p k zs r lo hi ∧ LadAt K CM CL H q k zt rt lt ht ∧ QAt CM H l k x ∧ QAt CM H h k y ∧ 0 < k ∧ k ≤ 240 ∧ Fnd K CM H v o ∧ PartS (sizF zs r lo hi) (sizF zt rt lt ht) sh (toR x) (toR y) u ∧ ∀ H', Same H H' → Q (.bl (topB o (dueK u))) H'
theorem q_dnB {K : PySem.W.Frag} {CM p q : Addr} {H : Hp} {k j : Nat} {z w : Q2} (cl : Cls K CM) (ii : IsC K CM) (ec : EqC K CM) (a : QAt CM H p k z) (b : QAt CM H q j w) : DOwn K CM (REq K CM) (.ref p) (.ref q) H (eqq z w) := by
  obtain ⟨⟨t, u, m, f⟩, p1, _, _⟩ := a
  obtain ⟨⟨t', u', m', f'⟩, p2, _, _⟩ := b
  have h : DOwn K CM (REq K CM) (.ref p) (.ref q) H (decide (t = t') && decide (u = u')) := Like.fwd cl ii ec (Like.ms m m')
  rw [fr_eqq f f' p1 p2] at h
  exact h
theorem mat_eqq {CM p q : Addr} {H : Hp} {k j : Nat} {z w : Q2} (a : QAt CM H p k z) (b : QAt CM H q j w) : matchB (.meas z) (.meas w) = eqq z w := by
  show decide (toR z = toR w) = eqq z w
  by_cases e : toR z = toR w
  · rw [decide_eq_true e, eqq_T a.pos b.pos e]
  · rw [decide_eq_false e, eqq_F a.pos b.pos e]
theorem mat_meas {k : PK} {x y : Q2} (h : toR x = toR y) : matchB k (.meas x) = matchB k (.meas y) := by
  cases k <;> first | rfl | (show decide _ = decide _; rw [h])

def DueOk : PK → Prop
  | .int _ => True
  | .str _ => True
  | .non => True
  | .meas _ => True
  | _ => False
def sp_same40 (K : PySem.W.Frag) (CM : Addr) : Nat → Sp
  | 0 => fun vs H Q _ => ∃ (x y : V) (k kd : PK), vs = [x, y] ∧ PKs K CM H x k ∧ PKs K CM H y kd ∧ DueOk kd ∧ ∀ H', Same H H' → Q (.bl (matchB k kd)) H'
  | _ => fun vs H Q _ => ∃ (x : V) (T : Addr) (ys : List V) (o : Option (List PK)) (ds : List PK), vs = [x, .ref T] ∧ Fnd K CM H x o ∧ SqT K H T ys ∧ ys.length ≤ 900 ∧ Kds K CM H ys ds ∧ (∀ d ∈ ds, DueOk d) ∧ ∀ H', Same H H' → Q (.bl (topB o ds)) H'
theorem blm_fm : ∀ l : List Bool, (l.map fun b => some (V.bl b)).filterMap _root_.id = l.map V.bl
  | [] => rfl
  | x :: t => by
    have := blm_fm t
    simpa using this
theorem non_pk {K : PySem.W.Frag} {CM : Addr} {H : Hp} {v : V} {k : PK} (hk : PKs K CM H v k) : decide (v = V.non) = matchB k .non := by
  have h := hk.at_
  cases k with
  | non => cases (show v = V.non from h); exact decide_eq_true rfl
  | meas z =>
    obtain ⟨p, j, rfl, _⟩ := h
    exact decide_eq_false fun e => by cases e
  | tup =>
    obtain ⟨p, rfl⟩ := h
    exact decide_eq_false fun e => by cases e
  | oth =>
    obtain ⟨p, rfl⟩ := h
    exact decide_eq_false fun e => by cases e
  | int z => cases (show v = V.int z from h); exact decide_eq_false fun e => by cases e
  | str z => cases (show v = V.str z from h); exact decide_eq_false fun e => by cases e
  | bl z => cases (show v = V.bl z from h); exact decide_eq_false fun e => by cases e

def sp_grain38 : Sp := fun vs H Q _ => ∃ (h : Addr) (n : Nat), vs = [.ref h] ∧ HandAt H h n ∧ n < 10000 ∧ ∀ (g : Int) (H' : Hp), 0 < g → g ≤ 12000000000 → HandAt H' h (n + 1) → Kp h H H' → Q (.int g) H'
/-- drawn marks -/
structure MarksD (B : Int) (ms : List Int) : Prop where
  len0 : 0 < ms.length
  len1 : ms.length ≤ 24
  rise : ∀ (i : Nat) (a b : Int), ms[i]? = some a → ms[i + 1]? = some b → a < b
  four : ∀ m ∈ ms, m % 4 = 0
  bnd : ∀ m ∈ ms, -B ≤ m ∧ m ≤ B
structure GrowD (i : Nat) (ms : List Int) (e : Int) : Prop where
  len : ms.length = i + 1
  all : ∀ m ∈ ms, m % 4 = 0 ∧ -80 ≤ m ∧ m ≤ e
  lst : ms[i]? = some e
  le : e ≤ 156 + 36 * (i : Int)
  rise : ∀ (i : Nat) (a b : Int), ms[i]? = some a → ms[i + 1]? = some b → a < b
theorem GrowD.snoc {i : Nat} {ms : List Int} {e d : Int} (g : GrowD i ms e) (d0 : 4 ≤ d) (d1 : d ≤ 36) (d4 : d % 4 = 0) : GrowD (i + 1) (ms ++ [e + d]) (e + d) := by
  have h0 := g.all e (List.mem_of_getElem? g.lst)
  have h1 := g.le
  refine ⟨by rw [List.length_append, g.len]; rfl, fun m hm => ?_, ?_, by omega, rise_snoc g.rise fun m hm => by have := g.all m hm; omega⟩
  · rcases List.mem_append.mp hm with hm | hm
    · have := g.all m hm
      omega
    · rw [List.mem_singleton.mp hm]
      omega
  · rw [List.getElem?_append_right (by rw [g.len]; exact Nat.le_refl _), g.len, Nat.sub_self]
    rfl
theorem GrowD.marks {i : Nat} {ms : List Int} {e : Int} (g : GrowD i ms e) (hi : i ≤ 23) : MarksD 1100 ms := ⟨by rw [g.len]; omega, by rw [g.len]; omega, g.rise, fun m hm => (g.all m hm).1, fun m hm => by
  have := g.all m hm
  have := g.le
  omega⟩
theorem GrowD.first {a : Int} (a0 : 0 ≤ a) (a1 : a < 60) : GrowD 0 [4 * (a - 20)] (4 * (a - 20)) := ⟨rfl, fun m hm => by rw [List.mem_singleton.mp hm]; omega, rfl, by omega, fun i a b _ h => by simp at h⟩
theorem GrowD.end {i : Nat} {ms : List Int} {e : Int} (g : GrowD i ms e) : atI (ms.map V.int) (-1) = some (.int e) := atI_end (n := i) (by rw [List.length_map, g.len]) (by rw [List.getElem?_map, g.lst]; rfl)
def sp_dmarks : Sp := fun vs H Q _ => ∃ (h : Addr) (n : Nat), vs = [.ref h] ∧ HandAt H h n ∧ n < 10000 ∧ ∀ (l : Addr) (ms : List Int) (H' : Hp), H l = none → l ≠ h → H' l = some (.lst (ms.map V.int)) → MarksD 1100 ms → HandAt H' h (n + 30) → Kp h H H' → Q (.ref l) H'

/-- a drawn ladder -/
structure LadD (B : Int) (H : Hp) (p l : Addr) (ms : List Int) (r : Str) (lo hi : Option Int) : Prop where
  ob : H p = some (.tup [.ref l, .str r, optZ lo, optZ hi])
  li : H l = some (.lst (ms.map V.int))
  mks : MarksD B ms
  blo : ∀ z, lo = some z → z % 2 = 0 ∧ -B ≤ z ∧ z ≤ B
  bhi : ∀ z, hi = some z → z % 2 = 0 ∧ -B ≤ z ∧ z ≤ B
  rule : IsRule r
  span : ∀ a b, lo = some a → hi = some b → a ≤ b
theorem LadD.same {B : Int} {H H' : Hp} {p l : Addr} {ms : List Int} {r : Str} {lo hi : Option Int} (a : LadD B H p l ms r lo hi) (s : Same H H') : LadD B H' p l ms r lo hi := ⟨s _ _ a.ob, s _ _ a.li, a.mks, a.blo, a.bhi, a.rule, a.span⟩
theorem LadD.kp {B : Int} {H H' : Hp} {h p l : Addr} {n : Nat} {ms : List Int} {r : Str} {lo hi : Option Int} (a : LadD B H p l ms r lo hi) (hh : HandAt H h n) (k : Kp h H H') (ne : l ≠ h) : LadD B H' p l ms r lo hi := ⟨k.get hh a.ob rfl, k _ _ a.li ne, a.mks, a.blo, a.bhi, a.rule, a.span⟩
theorem MarksD.mono {A B : Int} {ms : List Int} (m : MarksD A ms) (l : A ≤ B) : MarksD B ms := ⟨m.len0, m.len1, m.rise, m.four, fun x hx => by have := m.bnd x hx; omega⟩
theorem MarksD.end {B : Int} {ms : List Int} (m : MarksD B ms) : ∃ e, atI (ms.map V.int) (-1) = some (.int e) ∧ e ∈ ms ∧ ms[ms.length - 1]? = some e := by
  have l0 := m.len0
  have h : ms[ms.length - 1]? = some ms[ms.length - 1] := List.getElem?_eq_getElem (by omega)
  exact ⟨_, atI_end (n := ms.length - 1) (by rw [List.length_map]; omega) (by rw [List.getElem?_map, h]; rfl), List.mem_of_getElem? h, h⟩
theorem MarksD.front {B : Int} {ms : List Int} (m : MarksD B ms) : ∃ e, atI (ms.map V.int) 0 = some (.int e) ∧ e ∈ ms ∧ ms[0]? = some e := by
  have l0 := m.len0
  have h : ms[0]? = some ms[0] := List.getElem?_eq_getElem l0
  exact ⟨_, atI_nat (j := 0) (by rw [List.getElem?_map, h]; rfl), List.mem_of_getElem? h, h⟩
def sp_dladder : Sp := fun vs H Q _ => ∃ (h : Addr) (n : Nat), vs = [.ref h] ∧ HandAt H h n ∧ n < 10000 ∧ ∀ (p l : Addr) (ms : List Int) (r : Str) (lo hi : Option Int) (H' : Hp), l ≠ h → LadD 1300 H' p l ms r lo hi → HandAt H' h (n + 40) → Kp h H H' → Q (.ref p) H'

def sp_lmeas (CM : Addr) : Sp := fun vs H Q _ => ∃ (o : Option Int) (d : Int), vs = [optZ o, .int d] ∧ 0 < d ∧ d ≤ 24000000000 ∧ (∀ z, o = some z → Sz 40 z) ∧ ∀ (v : V) (H' : Hp), Same H H' → QO CM H' 40 v (oq d o) → Q v H'
theorem MarksD.riseQ {B d : Int} {ms : List Int} (m : MarksD B ms) (hd : 0 < d) : RiseQ (zq d ms) := fun i a b h1 h2 => by
  obtain ⟨x, e1, rfl⟩ := zq_get h1
  obtain ⟨y, e2, rfl⟩ := zq_get h2
  rw [ltq_d hd]
  exact decide_eq_true (m.rise i x y e1 e2)
theorem LadD.spanQ {B d : Int} {H : Hp} {p l : Addr} {ms : List Int} {r : Str} {lo hi : Option Int} (a : LadD B H p l ms r lo hi) (hd : 0 < d) : spanB (oq d lo) (oq d hi) = true := by
  cases lo with
  | none => rfl
  | some x =>
    cases hi with
    | none => rfl
    | some y =>
      have := a.span x y rfl rfl
      show (!ltq (y, d) (x, d)) = true
      rw [ltq_d hd, decide_eq_false (by omega)]
      rfl
def sp_lmade38 (K : PySem.W.Frag) (CM CL : Addr) : Sp := fun vs H Q _ => ∃ (p l : Addr) (ms : List Int) (r : Str) (lo hi : Option Int) (d : Int), vs = [.ref p, .int d] ∧ LadD 5000 H p l ms r lo hi ∧ 0 < d ∧ d ≤ 24000000000 ∧
  ∀ (q : Addr) (H' : Hp), Same H H' → LadAt K CM CL H' q 40 (zq d ms) r (oq d lo) (oq d hi) → Q (.ref q) H'

theorem op_neL0 {X : Cx} (hu : X.A.units < cLine) : OpR X (compareOp .NotEq) (fun x y H Q => ∃ (a b : Addr) (xs : List V), x = .ref a ∧ y = .ref b ∧ SqL X.K H a xs ∧ SqL X.K H b [] ∧ Q (.bl (!xs.isEmpty)) H) := by
  intro pins s σ H x y v u Q I rx ry h
  obtain ⟨a, b, xs, rfl, rfl, ha, hb, q⟩ := h
  cases rx
  cases ry
  obtain ⟨its, rv, pl, _⟩ := I.list ha
  obtain ⟨its2, rv2, pl2, _⟩ := I.list hb
  have e2 : its2 = [] := by cases rv2; rfl
  subst e2
  cases xs with
  | nil =>
    have e1 : its = [] := by cases rv; rfl
    subst e1
    exact SeqAt.RcNeAt.lists (e := fun _ => true) pl.isList pl2.isList rfl hu (fun j h1 _ => absurd h1 (by simp)) X.prog X.w X.xe _ ⟨.bl false, H, I, rfl, q⟩
  | cons z r =>
    cases rv with
    | cons r1 rs => exact SeqAt.RcNeAt.lists_lengths pl.isList pl2.isList (by simp) hu X.prog X.w X.xe _ ⟨.bl true, H, I, rfl, q⟩
theorem idx_first {n : Nat} {c : Nat → Bool} (ne : idx n c ≠ []) : ∃ i : Nat, (idx n c)[0]? = some (i : Int) ∧ i < n ∧ c i = true ∧ ∀ j, j < n → c j = true → i ≤ j := by
  have l0 := List.length_pos_iff.mpr ne
  have h0 : (idx n c)[0]? = some (idx n c)[0] := List.getElem?_eq_getElem l0
  obtain ⟨i, hi, ci, e⟩ := idx_mem.mp (List.mem_of_getElem? h0)
  refine ⟨i, by rw [h0, e], hi, ci, fun j hj cj => ?_⟩
  obtain ⟨q, hq, eq⟩ := List.mem_iff_getElem.mp (idx_mem.mpr ⟨j, hj, cj, rfl⟩)
  by_cases z : q = 0
  · subst z
    omega
  · have := List.pairwise_iff_getElem.mp (idx_sorted (n := n) (c := c)) 0 q l0 hq (by omega)
    omega
theorem idx_last {n : Nat} {c : Nat → Bool} (ne : idx n c ≠ []) : ∃ i : Nat, (idx n c)[(idx n c).length - 1]? = some (i : Int) ∧ i < n ∧ c i = true ∧ ∀ j, j < n → c j = true → j ≤ i := by
  have l0 := List.length_pos_iff.mpr ne
  have l1 : (idx n c).length - 1 < (idx n c).length := by omega
  have h0 : (idx n c)[(idx n c).length - 1]? = some (idx n c)[(idx n c).length - 1] := List.getElem?_eq_getElem l1
  obtain ⟨i, hi, ci, e⟩ := idx_mem.mp (List.mem_of_getElem? h0)
  refine ⟨i, by rw [h0, e], hi, ci, fun j hj cj => ?_⟩
  obtain ⟨q, hq, eq⟩ := List.mem_iff_getElem.mp (idx_mem.mpr ⟨j, hj, cj, rfl⟩)
  by_cases z : q = (idx n c).length - 1
  · subst z
    omega
  · have := List.pairwise_iff_getElem.mp (idx_sorted (n := n) (c := c)) q _ hq l1 (by omega)
    omega
def upC (ms : List Int) (z : Int) (i : Nat) : Bool := match ms[i]? with | some a => decide (z ≤ a) | none => false
def dnC (ms : List Int) (z : Int) (i : Nat) : Bool := match ms[i]? with | some a => decide (a ≤ z) | none => false
theorem upC_at {ms : List Int} {z a : Int} {i : Nat} (h : ms[i]? = some a) : upC ms z i = decide (z ≤ a) := by unfold upC; rw [h]
theorem dnC_at {ms : List Int} {z a : Int} {i : Nat} (h : ms[i]? = some a) : dnC ms z i = decide (a ≤ z) := by unfold dnC; rw [h]
theorem fm_len (p : Nat → Bool) (g : Nat → V) (l : List Nat) : ((l.map fun i => if p i = true then some (g i) else none).filterMap _root_.id).length = l.countP p := by
  induction l with
  | nil => rfl
  | cons x t ih =>
    rw [List.map_cons, List.countP_cons]
    cases e : p x with
    | true => simpa [e] using ih
    | false => simpa [e] using ih
theorem cnt_at (z : Int) : ∀ l : List Int, (List.range l.length).countP (dnC l z) = l.countP (fun m => decide (m ≤ z))
  | [] => rfl
  | x :: t => by
    rw [List.length_cons, List.range_succ_eq_map, List.countP_cons, List.countP_cons, List.countP_map]
    have e : (dnC (x :: t) z) ∘ Nat.succ = dnC t z := funext fun i => rfl
    rw [e, cnt_at z t]
    rfl
def sp_lsize38 : Sp := fun vs H Q _ => ∃ (p l : Addr) (ms : List Int) (r : Str) (lo hi : Option Int) (z d : Int), vs = [.ref p, .int z] ∧ LadD 5000 H p l ms r lo hi ∧ 0 < d ∧ ∀ H', Same H H' → Q (optI (sizeQ (zq d ms) r (oq d lo) (oq d hi) (z, d))) H'

/-- where the sizes of a ladder may end -/
def ptsL (ms : List Int) (lo hi : Option Int) : List Int := ((pairS ms).map (fun m => m.fdiv 2) ++ ms) ++ (lo.toList ++ hi.toList)
def sp_points38 : Sp := fun vs H Q _ => ∃ (p l : Addr) (B : Int) (ms : List Int) (r : Str) (lo hi : Option Int), vs = [.ref p] ∧ LadD B H p l ms r lo hi ∧ ∀ (D : Addr) (H' : Hp), H D = none → Same H H' → H' D = some (.lst ((ptsL ms lo hi).map V.int)) → Q (.ref D) H'

theorem pw_rise {ms : List Int} (h : ∀ (i : Nat) (a b : Int), ms[i]? = some a → ms[i + 1]? = some b → a < b) : ms.Pairwise (· < ·) :=
  List.pairwise_iff_getElem.mpr fun i j hi hj hij => RiseI.lt h hij (List.getElem?_eq_getElem hi) (List.getElem?_eq_getElem hj)
theorem rise_pw {ms : List Int} (h : ms.Pairwise (· < ·)) : ∀ (i : Nat) (a b : Int), ms[i]? = some a → ms[i + 1]? = some b → a < b := fun i a b h1 h2 => by
  obtain ⟨l1, rfl⟩ := List.getElem?_eq_some_iff.mp h1
  obtain ⟨l2, rfl⟩ := List.getElem?_eq_some_iff.mp h2
  exact List.pairwise_iff_getElem.mp h i (i + 1) l1 l2 (by omega)
theorem MarksD.cons {B C x : Int} {ms : List Int} (m : MarksD B ms) (l : ms.length < 24) (hx : ∀ e, ms[0]? = some e → x < e) (h4 : x % 4 = 0) (b1 : -C ≤ x) (b2 : x ≤ C) (bc : B ≤ C) : MarksD C (x :: ms) := by
  refine ⟨by simp, by simp; omega, fun i a b h1 h2 => ?_, fun y hy => ?_, fun y hy => ?_⟩
  · cases i with
    | zero =>
      cases h1
      exact hx b (by simpa using h2)
    | succ i => exact m.rise i a b (by simpa using h1) (by simpa using h2)
  · rcases List.mem_cons.mp hy with rfl | hy
    · exact h4
    · exact m.four y hy
  · rcases List.mem_cons.mp hy with rfl | hy
    · exact ⟨b1, b2⟩
    · have := m.bnd y hy
      omega
theorem MarksD.back {B : Int} {ms : List Int} (m : MarksD B ms) {e : Int} (he : ms[ms.length - 1]? = some e) : ∀ x ∈ ms, x ≤ e := fun x hx => by
  obtain ⟨i, hi⟩ := List.mem_iff_getElem?.mp hx
  have l := (List.getElem?_eq_some_iff.mp hi).1
  by_cases z : i = ms.length - 1
  · subst z
    rw [hi] at he
    cases he
    exact Int.le_refl _
  · have := RiseI.lt m.rise (show i < ms.length - 1 by omega) hi he
    omega
theorem MarksD.snoc {B C x : Int} {ms : List Int} (m : MarksD B ms) (l : ms.length < 24) (hx : ∀ e ∈ ms, e < x) (h4 : x % 4 = 0) (b1 : -C ≤ x) (b2 : x ≤ C) (bc : B ≤ C) : MarksD C (ms ++ [x]) := by
  refine ⟨by simp, by simp; omega, rise_snoc m.rise hx, fun y hy => ?_, fun y hy => ?_⟩
  · rcases List.mem_append.mp hy with hy | hy
    · exact m.four y hy
    · rw [List.mem_singleton.mp hy]
      exact h4
  · rcases List.mem_append.mp hy with hy | hy
    · have := m.bnd y hy
      omega
    · rw [List.mem_singleton.mp hy]
      exact ⟨b1, b2⟩
theorem MarksD.sub {B : Int} {ms ns : List Int} (m : MarksD B ms) (s : ns.Sublist ms) (l : 0 < ns.length) : MarksD B ns :=
  ⟨l, Nat.le_trans s.length_le m.len1, rise_pw ((pw_rise m.rise).sublist s), fun y hy => m.four y (s.subset hy), fun y hy => m.bnd y (s.subset hy)⟩
theorem MarksD.put {B C x e : Int} {ms : List Int} {i : Nat} (m : MarksD B ms) (he : ms[i]? = some e) (h1 : x ≤ e) (h2 : ∀ a, 0 < i → ms[i - 1]? = some a → a < x) (h4 : x % 4 = 0) (b1 : -C ≤ x) (b2 : x ≤ C) (bc : B ≤ C) : MarksD C ((ms.take i ++ [x]) ++ ms.drop (i + 1)) := by
  have li := (List.getElem?_eq_some_iff.mp he).1
  have ex : (ms.take i ++ [x]) ++ ms.drop (i + 1) = ms.set i x := by
    rw [List.set_eq_take_append_cons_drop, if_pos li, List.append_assoc]
    rfl
  rw [ex]
  refine ⟨by rw [List.length_set]; exact m.len0, by rw [List.length_set]; exact m.len1, fun j a b g1 g2 => ?_, fun y hy => ?_, fun y hy => ?_⟩
  · rw [List.getElem?_set] at g1 g2
    by_cases c1 : i = j
    · subst c1
      rw [if_pos rfl, if_pos li] at g1
      cases g1
      rw [if_neg (by omega)] at g2
      have := m.rise i e b he g2
      omega
    · rw [if_neg c1] at g1
      by_cases c2 : i = j + 1
      · subst c2
        rw [if_pos rfl, if_pos li] at g2
        cases g2
        exact h2 a (by omega) (by rw [show j + 1 - 1 = j by omega]; exact g1)
      · rw [if_neg c2] at g2
        exact m.rise j a b g1 g2
  · rcases List.mem_or_eq_of_mem_set hy with hy | rfl
    · exact m.four y hy
    · exact h4
  · rcases List.mem_or_eq_of_mem_set hy with hy | rfl
    · have := m.bnd y hy
      omega
    · exact ⟨b1, b2⟩
theorem LadD.mono {B C : Int} {H : Hp} {p l : Addr} {ms : List Int} {r : Str} {lo hi : Option Int} (a : LadD B H p l ms r lo hi) (h : B ≤ C) : LadD C H p l ms r lo hi := ⟨a.ob, a.li, a.mks.mono h, fun z hz => by have := a.blo z hz; omega, fun z hz => by have := a.bhi z hz; omega, a.rule, a.span⟩
def sp_two38 : Sp := fun vs H Q _ => ∃ (h p l : Addr) (n : Nat) (ms : List Int) (r : Str) (lo hi : Option Int), vs = [.ref h, .ref p] ∧ HandAt H h n ∧ n < 9000 ∧ l ≠ h ∧ LadD 1300 H p l ms r lo hi ∧ ∀ (p' l' : Addr) (ms' : List Int) (r' : Str) (lo' hi' : Option Int) (H' : Hp), l' ≠ h → LadD 1500 H' p' l' ms' r' lo' hi' → HandAt H' h (n + 60) → Kp h H H' → Q (.ref p') H'

theorem ptsL_ok {B : Int} {H : Hp} {p l : Addr} {ms : List Int} {r : Str} {lo hi : Option Int} (a : LadD B H p l ms r lo hi) : ∀ y ∈ ptsL ms lo hi, y % 2 = 0 ∧ -B ≤ y ∧ y ≤ B := fun y hy => by
  unfold ptsL at hy
  rcases List.mem_append.mp hy with hy | hy
  · rcases List.mem_append.mp hy with hy | hy
    · obtain ⟨m, hm, rfl⟩ := List.mem_map.mp hy
      obtain ⟨i, hi'⟩ := List.mem_iff_getElem?.mp hm
      have li := (List.getElem?_eq_some_iff.mp hi').1
      have lp := pairS_len ms
      obtain ⟨x, hx⟩ := geI (zs := ms) (n := i) (by omega)
      obtain ⟨z, hz⟩ := geI (zs := ms) (n := i + 1) (by omega)
      rw [pairS_get ms i x z hx hz] at hi'
      cases hi'
      have b1 := a.mks.bnd x (List.mem_of_getElem? hx)
      have b2 := a.mks.bnd z (List.mem_of_getElem? hz)
      have f1 := a.mks.four x (List.mem_of_getElem? hx)
      have f2 := a.mks.four z (List.mem_of_getElem? hz)
      rw [Int.fdiv_eq_ediv_of_nonneg _ (by decide)]
      omega
    · have b1 := a.mks.bnd y hy
      have f1 := a.mks.four y hy
      omega
  · rcases List.mem_append.mp hy with hy | hy
    · exact a.blo y (by simpa using hy)
    · exact a.bhi y (by simpa using hy)
theorem ptsL_len {B : Int} {H : Hp} {p l : Addr} {ms : List Int} {r : Str} {lo hi : Option Int} (a : LadD B H p l ms r lo hi) : 0 < (ptsL ms lo hi).length ∧ (ptsL ms lo hi).length ≤ 49 := by
  have l0 := a.mks.len0
  have l1 := a.mks.len1
  have e : (lo.toList ++ hi.toList).length ≤ 2 := by cases lo <;> cases hi <;> simp
  unfold ptsL
  rw [List.length_append, List.length_append, List.length_map, pairS_len]
  omega
def sp_span37 : Sp := fun vs H Q _ => ∃ (h p q l l' : Addr) (n : Nat) (B : Int) (ms ms' : List Int) (r r' : Str) (lo hi lo' hi' : Option Int), vs = [.ref h, .ref p, .ref q] ∧ HandAt H h n ∧ n < 9000 ∧ l ≠ h ∧ l' ≠ h ∧ B ≤ 5000 ∧ LadD B H p l ms r lo hi ∧ LadD B H q l' ms' r' lo' hi' ∧ ∀ (T : Addr) (s g : Int) (H' : Hp), s ≤ g → s % 2 = 0 → g % 2 = 0 → -(B + 40) ≤ s → g ≤ B + 40 → H' T = some (.tup [.int s, .int g]) → HandAt H' h (n + 10) → Kp h H H' → Q (.ref T) H'
def sp_due37 (CM : Addr) : Sp := fun vs H Q _ => ∃ (p q l l' T : Addr) (s g sh d : Int) (ms ms' : List Int) (r r' : Str) (lo hi lo' hi' : Option Int), vs = [.ref p, .ref q, .ref T, .int sh, .int d] ∧ H T = some (.tup [.int s, .int g]) ∧ LadD 5000 H p l ms r lo hi ∧ LadD 5000 H q l' ms' r' lo' hi' ∧ s ≤ g ∧ s % 2 = 0 ∧ 0 < d ∧ d ≤ 24000000000 ∧ -6000 ≤ s ∧ g ≤ 6000 ∧
  ∀ (U : Addr) (u : PRes) (H' : Hp), Same H H' → PartV CM H' 40 U u → PartS (sizF (zq d ms) r (oq d lo) (oq d hi)) (sizF (zq d ms') r' (oq d lo') (oq d hi')) sh (toR (s, d)) (toR (g, d)) u → Q (.ref U) H'
def sp_told37 (K : PySem.W.Frag) (CM CL : Addr) : Sp := fun vs H Q _ => ∃ (t : Int) (p q T a b : Addr) (sh : Int) (zs zt : List Q2) (r rt : Str) (lo hi lt ht : Option Q2) (x y : Q2), vs = [.int t, .ref p, .ref q, .ref T, .int sh] ∧ H T = some (.tup [.ref a, .ref b]) ∧ LadAt K CM CL H p 40 zs r lo hi ∧ LadAt K CM CL H q 40 zt rt lt ht ∧ QAt CM H a 40 x ∧ QAt CM H b 40 y ∧
  ∀ (R : Addr) (u : PRes) (H' : Hp), Same H H' → PartV CM H' 92 R u → PartS (sizF zs r lo hi) (sizF zt rt lt ht) sh (toR x) (toR y) u → Q (.ref R) H'
def sp_far37 : Sp := fun vs H Q _ => ∃ (h p l : Addr) (n : Nat) (ms : List Int) (r : Str) (lo hi : Option Int) (d : Int), vs = [.ref h, .ref p, .int d] ∧ HandAt H h n ∧ n < 8000 ∧ l ≠ h ∧ LadD 1300 H p l ms r lo hi ∧ 0 < d ∧ d ≤ 24000000000 ∧ ∀ H', HandAt H' h (n + 20) → Kp h H H' → Q (.bl true) H'

/-! ### the law's own parting -/
theorem cutLo_src {a b e : Option Q2} {i j : Bool} (h : (cutLo a i b j).1 = e) : e = a ∨ e = b := by
  subst h
  cases a with
  | none => exact .inr rfl
  | some a =>
    cases b with
    | none => exact .inl rfl
    | some b =>
      show (if ltq a b then (some b, j) else if eqq a b then (some a, i && j) else (some a, i)).1 = some a ∨ (if ltq a b then (some b, j) else if eqq a b then (some a, i && j) else (some a, i)).1 = some b
      split
      · exact .inr rfl
      · split <;> exact .inl rfl
theorem cutHi_src {a b e : Option Q2} {i j : Bool} (h : (cutHi a i b j).1 = e) : e = a ∨ e = b := by
  subst h
  cases a with
  | none => exact .inr rfl
  | some a =>
    cases b with
    | none => exact .inl rfl
    | some b =>
      show (if ltq b a then (some b, j) else if eqq a b then (some a, i && j) else (some a, i)).1 = some a ∨ (if ltq b a then (some b, j) else if eqq a b then (some a, i && j) else (some a, i)).1 = some b
      split
      · exact .inr rfl
      · split <;> exact .inl rfl
theorem endQ_src {zs : List Q2} {i : Int} {e : Q2} (h : endQ zs i = some e) : e ∈ zs := by
  unfold endQ at h
  split at h
  · exact List.mem_of_getElem? h
  · cases h
theorem midq_src : ∀ {ms : List Int} {d : Int} {e : Q2}, e ∈ midq (zq d ms) → ∃ m ∈ pairS ms, ∃ a b, m = a + b ∧ a ∈ ms ∧ b ∈ ms ∧ e = qhalf (a, d) (b, d)
  | [], _, _, h => by cases h
  | [_], _, _, h => by cases h
  | a :: b :: r, d, e, h => by
    rcases List.mem_cons.mp (show e ∈ qhalf (a, d) (b, d) :: midq (zq d (b :: r)) from h) with rfl | h
    · exact ⟨a + b, List.mem_cons_self .., a, b, rfl, by simp, by simp, rfl⟩
    · obtain ⟨m, hm, a', b', e1, h1, h2, e2⟩ := midq_src (ms := b :: r) h
      exact ⟨m, List.mem_cons_of_mem _ hm, a', b', e1, List.mem_cons_of_mem _ h1, List.mem_cons_of_mem _ h2, e2⟩
/-- an end at one of the points -/
def AtP (ps : List Int) (d : Int) (e : Q2) : Prop := ∃ y ∈ ps, toR e = toR (y, d)
theorem atP_mark {ms : List Int} {lo hi : Option Int} {d : Int} {e : Q2} (h : e ∈ zq d ms) : AtP (ptsL ms lo hi) d e := by
  obtain ⟨y, hy, rfl⟩ := List.mem_map.mp h
  exact ⟨y, List.mem_append.mpr (.inl (List.mem_append.mpr (.inr hy))), rfl⟩
theorem atP_lo {ms : List Int} {lo hi : Option Int} {d : Int} {e : Q2} (h : oq d lo = some e) : AtP (ptsL ms lo hi) d e := by
  obtain ⟨y, hy, rfl⟩ := Option.map_eq_some_iff.mp h
  exact ⟨y, List.mem_append.mpr (.inr (List.mem_append.mpr (.inl (by rw [hy]; simp)))), rfl⟩
theorem atP_hi {ms : List Int} {lo hi : Option Int} {d : Int} {e : Q2} (h : oq d hi = some e) : AtP (ptsL ms lo hi) d e := by
  obtain ⟨y, hy, rfl⟩ := Option.map_eq_some_iff.mp h
  exact ⟨y, List.mem_append.mpr (.inr (List.mem_append.mpr (.inr (by rw [hy]; simp)))), rfl⟩
theorem atP_mid {ms : List Int} {lo hi : Option Int} {d : Int} {e : Q2} (d0 : 0 < d) (ev : ∀ m ∈ ms, m % 2 = 0) (h : e ∈ midq (zq d ms)) : AtP (ptsL ms lo hi) d e := by
  obtain ⟨m, hm, a, b, rfl, ha, hb, rfl⟩ := midq_src h
  have ea := ev a ha
  have eb := ev b hb
  refine ⟨(a + b).fdiv 2, List.mem_append.mpr (.inl (List.mem_append.mpr (.inl (List.mem_map.mpr ⟨a + b, hm, rfl⟩)))), ?_⟩
  rw [half_R (a := (a, d)) (b := (b, d)) d0 d0, Int.fdiv_eq_ediv_of_nonneg _ (by decide)]
  obtain ⟨c, hc⟩ : ∃ c : Int, a + b = 2 * c := ⟨(a + b) / 2, by omega⟩
  rw [hc, Int.mul_ediv_cancel_left _ (by decide)]
  have p := posR d0
  have e2 : (a : Rat) + (b : Rat) = 2 * (c : Rat) := by rw [← Rat.intCast_add, hc, Rat.intCast_mul]; rfl
  show ((a : Rat) / (d : Rat) + (b : Rat) / (d : Rat)) / 2 = (c : Rat) / (d : Rat)
  grind
theorem ends_at {ms : List Int} {r : Str} {lo hi : Option Int} {d : Int} (d0 : 0 < d) (ev : ∀ m ∈ ms, m % 2 = 0) (n : Nat) :
    (∀ e, (sizE (zq d ms) r (oq d lo) (oq d hi) n).1.1 = some e → AtP (ptsL ms lo hi) d e) ∧ ∀ e, (sizE (zq d ms) r (oq d lo) (oq d hi) n).2.1 = some e → AtP (ptsL ms lo hi) d e := by
  unfold sizE rulE
  constructor
  · intro e h
    rcases cutLo_src h with q | q
    · split at q
      · exact atP_mark (endQ_src q.symm)
      · split at q
        · exact atP_mark (List.mem_of_getElem? q.symm)
        · exact atP_mid d0 ev (endQ_src q.symm)
    · exact atP_lo q.symm
  · intro e h
    rcases cutHi_src h with q | q
    · split at q
      · exact atP_mark (List.mem_of_getElem? q.symm)
      · split at q
        · exact atP_mark (endQ_src q.symm)
        · exact atP_mid d0 ev (endQ_src q.symm)
    · exact atP_hi q.symm
theorem ltR {d a b : Int} (d0 : 0 < d) : toR (a, d) < toR (b, d) ↔ a < b := by
  rw [← ltq_R (a := (a, d)) (b := (b, d)) d0 d0, ltq_d d0, decide_eq_true_iff]
theorem leR {d a b : Int} (d0 : 0 < d) : toR (a, d) ≤ toR (b, d) ↔ a ≤ b := by
  rw [← Rat.not_lt, ltR d0]
  omega
theorem eqR {d a b : Int} (d0 : 0 < d) (h : toR (a, d) = toR (b, d)) : a = b := by
  have h1 : a ≤ b := (leR d0).mp (by rw [h]; exact Rat.le_refl)
  have h2 : b ≤ a := (leR d0).mp (by rw [h]; exact Rat.le_refl)
  omega
theorem ladq_d {B d : Int} {H : Hp} {p l : Addr} {ms : List Int} {r : Str} {lo hi : Option Int} (a : LadD B H p l ms r lo hi) (d0 : 0 < d) : LadQ (zq d ms) r (oq d lo) (oq d hi) :=
  ⟨a.mks.riseQ d0, fun z hz => by obtain ⟨m, _, rfl⟩ := List.mem_map.mp hz; exact d0, by cases lo <;> first | trivial | exact d0, by cases hi <;> first | trivial | exact d0, a.spanQ d0⟩
theorem gapZ {B d : Int} {H : Hp} {p l : Addr} {ms : List Int} {r : Str} {lo hi : Option Int} (L : LadD B H p l ms r lo hi) (d0 : 0 < d) {a b : Int} (h : ∀ z ∈ ptsL ms lo hi, ¬ (a < z ∧ z < b)) {x y : Rat} (x1 : toR (a, d) < x) (x2 : x < toR (b, d)) (y1 : toR (a, d) < y) (y2 : y < toR (b, d)) :
    sizF (zq d ms) r (oq d lo) (oq d hi) x = sizF (zq d ms) r (oq d lo) (oq d hi) y := by
  have E := fun n => ends_at (r := r) (lo := lo) (hi := hi) d0 (fun m hm => by have := L.mks.four m hm; omega) n
  refine siz_gap (ladq_d L d0) (fun n hn hs => ⟨fun e he g => ?_, fun e he g => ?_⟩) x1 x2 y1 y2
  · obtain ⟨z, hz, e1⟩ := (E n).1 e he
    rw [e1, ltR d0, ltR d0] at g
    exact h z hz g
  · obtain ⟨z, hz, e1⟩ := (E n).2 e he
    rw [e1, ltR d0, ltR d0] at g
    exact h z hz g
theorem max_in {p : Int → Prop} : ∀ {l : List Int}, (∃ c ∈ l, p c) → ∃ c ∈ l, p c ∧ ∀ c' ∈ l, p c' → c' ≤ c
  | [], ⟨c, h, _⟩ => by cases h
  | a :: l, ⟨c, hc, pc⟩ => by
    by_cases q : ∃ c ∈ l, p c
    · obtain ⟨m, hm, pm, hall⟩ := max_in q
      by_cases g : p a ∧ m < a
      · exact ⟨a, List.mem_cons_self .., g.1, fun c' h' p' => by
          rcases List.mem_cons.mp h' with rfl | h'
          · exact Int.le_refl _
          · have := hall c' h' p'
            omega⟩
      · exact ⟨m, List.mem_cons_of_mem _ hm, pm, fun c' h' p' => by
          rcases List.mem_cons.mp h' with rfl | h'
          · exact Int.le_of_not_gt fun g2 => g ⟨p', g2⟩
          · exact hall c' h' p'⟩
    · have e : c = a := by
        rcases List.mem_cons.mp hc with e | h
        · exact e
        · exact absurd ⟨c, h, pc⟩ q
      subst e
      exact ⟨c, List.mem_cons_self .., pc, fun c' h' p' => by
        rcases List.mem_cons.mp h' with rfl | h'
        · exact Int.le_refl _
        · exact absurd ⟨c', h', p'⟩ q⟩
theorem min_in {p : Int → Prop} {l : List Int} (h : ∃ c ∈ l, p c) : ∃ c ∈ l, p c ∧ ∀ c' ∈ l, p c' → c ≤ c' := by
  obtain ⟨c, hc, pc⟩ := h
  obtain ⟨m, hm, pm, hall⟩ := max_in (p := fun z => p (-z)) (l := l.map fun z => -z) ⟨-c, List.mem_map.mpr ⟨c, hc, rfl⟩, by rw [Int.neg_neg]; exact pc⟩
  obtain ⟨b, hb, rfl⟩ := List.mem_map.mp hm
  rw [Int.neg_neg] at pm
  exact ⟨b, hb, pm, fun c' h' p' => by
    have := hall (-c') (List.mem_map.mpr ⟨c', h', rfl⟩) (by rw [Int.neg_neg]; exact p')
    omega⟩
/-- the points gone through: the start, and what lies behind it, to the goal -/
structure PtsZ (ps : List Int) (s g : Int) (ns : List Int) : Prop where
  mem : ∀ k, k ∈ ns ↔ k = s ∨ (k ∈ ps ∧ s < k ∧ k ≤ g)
  ev : ∀ z ∈ ps, z % 2 = 0
  es : s % 2 = 0
  le : s ≤ g
section
variable {F G : Rat → Option Nat} {sh s g d : Int} {ps ns : List Int}
/-- nothing changes where no point lies -/
def GapZ (F G : Rat → Option Nat) (ps : List Int) (d : Int) : Prop := ∀ a b : Int, (∀ z ∈ ps, ¬ (a < z ∧ z < b)) → ∀ x y : Rat, toR (a, d) < x → x < toR (b, d) → toR (a, d) < y → y < toR (b, d) → F x = F y ∧ G x = G y
theorem PtsZ.even (P : PtsZ ps s g ns) {k : Int} (h : k ∈ ns) : k % 2 = 0 := by
  rcases (P.mem k).mp h with rfl | h
  · exact P.es
  · exact P.ev k h.1
theorem PtsZ.bnd (P : PtsZ ps s g ns) {k : Int} (h : k ∈ ns) : s ≤ k ∧ k ≤ g := by
  have := P.le
  rcases (P.mem k).mp h with rfl | h
  · omega
  · omega
theorem PtsZ.cover (P : PtsZ ps s g ns) (W : GapZ F G ps d) (d0 : 0 < d) {x : Rat} (x1 : toR (s, d) ≤ x) (x2 : x ≤ toR (g, d)) : ∃ c ∈ ns, x = toR (c, d) ∨ (toR (c, d) < x ∧ c < g ∧ F x = F (toR (c + 1, d)) ∧ G x = G (toR (c + 1, d))) := by
  obtain ⟨c, hc, pc, hmax⟩ := max_in (p := fun z => toR (z, d) ≤ x) ⟨s, (P.mem s).mpr (.inl rfl), x1⟩
  have bc := P.bnd hc
  refine ⟨c, hc, ?_⟩
  by_cases e : x = toR (c, d)
  · exact .inl e
  have lt : toR (c, d) < x := by grind
  have cg : c < g := (ltR d0).mp (by grind)
  refine .inr ⟨lt, cg, ?_⟩
  have ec := P.even hc
  have key : ∀ b : Int, c + 1 < b → x < toR (b, d) → (∀ z ∈ ps, ¬ (c < z ∧ z < b)) → F x = F (toR (c + 1, d)) ∧ G x = G (toR (c + 1, d)) := fun b h1 h2 h3 =>
    W c b h3 x _ lt h2 ((ltR d0).mpr (by omega)) ((ltR d0).mpr h1)
  by_cases q : ∃ b ∈ ns, c < b
  · obtain ⟨b, hb, cb, hmin⟩ := min_in (p := fun z => c < z) q
    have eb := P.even hb
    have bb := P.bnd hb
    refine key b (by omega) (Rat.not_le.mp fun h => by have := hmax b hb h; omega) fun z hz h => ?_
    have := hmin z ((P.mem z).mpr (.inr ⟨hz, by omega, by omega⟩)) h.1
    omega
  · refine key (g + 1) (by omega) ?_ fun z hz h => ?_
    · have : toR (g, d) < toR (g + 1, d) := (ltR d0).mpr (by omega)
      grind
    · exact q ⟨z, (P.mem z).mpr (.inr ⟨hz, by omega, by omega⟩), h.1⟩
theorem PtsZ.none (P : PtsZ ps s g ns) (W : GapZ F G ps d) (d0 : 0 < d) (h : ∀ c ∈ ns, alkB (F (toR (c, d))) (G (toR (c, d))) sh = true ∧ (c < g → alkB (F (toR (c + 1, d))) (G (toR (c + 1, d))) sh = true)) : PartS F G sh (toR (s, d)) (toR (g, d)) none := fun x x1 x2 => by
  obtain ⟨c, hc, e⟩ := P.cover W d0 x1 x2
  rcases e with rfl | ⟨_, cg, e1, e2⟩
  · exact (h c hc).1
  · rw [e1, e2]
    exact (h c hc).2 cg
theorem PtsZ.ahead (P : PtsZ ps s g ns) (W : GapZ F G ps d) (d0 : 0 < d) {c0 : Int} (h0 : c0 ∈ ns) (h : ∀ c ∈ ns, c < c0 → alkB (F (toR (c, d))) (G (toR (c, d))) sh = true ∧ (c < g → alkB (F (toR (c + 1, d))) (G (toR (c + 1, d))) sh = true)) {x : Rat} (x1 : toR (s, d) ≤ x) (x2 : x < toR (c0, d)) : alkB (F x) (G x) sh = true := by
  have b0 := P.bnd h0
  have : toR (c0, d) ≤ toR (g, d) := (leR d0).mpr b0.2
  obtain ⟨c, hc, e⟩ := P.cover W d0 x1 (by grind)
  rcases e with rfl | ⟨l, cg, e1, e2⟩
  · exact (h c hc ((ltR d0).mp x2)).1
  · rw [e1, e2]
    exact (h c hc ((ltR d0).mp (by grind))).2 cg
theorem PtsZ.stop (P : PtsZ ps s g ns) (W : GapZ F G ps d) (d0 : 0 < d) {c0 : Int} (h0 : c0 ∈ ns) (h : ∀ c ∈ ns, c < c0 → alkB (F (toR (c, d))) (G (toR (c, d))) sh = true ∧ (c < g → alkB (F (toR (c + 1, d))) (G (toR (c + 1, d))) sh = true)) (n : alkB (F (toR (c0, d))) (G (toR (c0, d))) sh = false) :
    PartS F G sh (toR (s, d)) (toR (g, d)) (some (toR (c0, d), false, F (toR (c0, d)), G (toR (c0, d)))) :=
  ⟨(leR d0).mpr (P.bnd h0).1, (leR d0).mpr (P.bnd h0).2, rfl, rfl, n, fun x x1 x2 => P.ahead W d0 h0 h x1 x2⟩
theorem PtsZ.behind (P : PtsZ ps s g ns) (W : GapZ F G ps d) (d0 : 0 < d) {c0 : Int} (h0 : c0 ∈ ns) (cg : c0 < g) (h : ∀ c ∈ ns, c < c0 → alkB (F (toR (c, d))) (G (toR (c, d))) sh = true ∧ (c < g → alkB (F (toR (c + 1, d))) (G (toR (c + 1, d))) sh = true)) (y : alkB (F (toR (c0, d))) (G (toR (c0, d))) sh = true) (n : alkB (F (toR (c0 + 1, d))) (G (toR (c0 + 1, d))) sh = false) :
    PartS F G sh (toR (s, d)) (toR (g, d)) (some (toR (c0, d), true, F (toR (c0 + 1, d)), G (toR (c0 + 1, d)))) := by
  have e0 := P.even h0
  have l1 : toR (c0, d) < toR (c0 + 1, d) := (ltR d0).mpr (by omega)
  have l2 : toR (c0 + 1, d) < toR (c0 + 2, d) := (ltR d0).mpr (by omega)
  refine ⟨(leR d0).mpr (P.bnd h0).1, (ltR d0).mpr cg, n, fun x x1 x2 => ?_, toR (c0 + 1, d), l1, (leR d0).mpr (by omega), fun x x1 x2 => W c0 (c0 + 2) (fun z hz q => by have := P.ev z hz; omega) x _ x1 (by grind) l1 l2⟩
  by_cases e : x = toR (c0, d)
  · subst e
    exact y
  · exact P.ahead W d0 h0 h x1 (by grind)
end
/-- what the law's own parting tells, as a tuple -/
def LPartV (H : Hp) (T : Addr) : Option (Int × Bool × Option Nat × Option Nat) → Prop
  | none => H T = some (.tup [.str "alike"])
  | some (z, b, x, y) => H T = some (.tup [.str "part", .int z, .str (if b = true then "behind" else "at"), optI x, optI y])
def resR (d : Int) : Option (Int × Bool × Option Nat × Option Nat) → PRes
  | none => none
  | some (z, b, x, y) => some (toR (z, d), b, x, y)
def sp_lparting38 : Sp := fun vs H Q _ => ∃ (p q l l' : Addr) (s g sh d : Int) (ms ms' : List Int) (r r' : Str) (lo hi lo' hi' : Option Int), vs = [.ref p, .ref q, .int s, .int g, .int sh] ∧ LadD 5000 H p l ms r lo hi ∧ LadD 5000 H q l' ms' r' lo' hi' ∧ s ≤ g ∧ s % 2 = 0 ∧ 0 < d ∧
  ∀ (T : Addr) (u : Option (Int × Bool × Option Nat × Option Nat)) (H' : Hp), Same H H' → LPartV H' T u → (∀ z b x y, u = some (z, b, x, y) → s ≤ z ∧ z ≤ g) → PartS (sizF (zq d ms) r (oq d lo) (oq d hi)) (sizF (zq d ms') r' (oq d lo') (oq d hi')) sh (toR (s, d)) (toR (g, d)) (resR d u) → Q (.ref T) H'
def filC (s g z : Int) : Bool := decide (s < z) && decide (z ≤ g)
theorem fil_fm (c : Int → Bool) : ∀ l : List Int, (l.map fun z => if c z = true then some (V.int z) else none).filterMap _root_.id = (l.filter c).map V.int
  | [] => rfl
  | x :: t => by
    rw [List.map_cons, List.filter_cons]
    cases e : c x with
    | true => simpa [e] using fil_fm c t
    | false => simpa [e] using fil_fm c t

def sp_any40 (CM CS CL : Addr) : Sp := fun vs H Q _ => ∃ (h : Addr) (n : Nat), vs = [.ref h] ∧ HandAt H h n ∧ n < 9000 ∧ ∀ (v : V) (H' : Hp), TopAt CM CS CL h H' v → HandAt H' h (n + 40) → Kp h H H' → Q v H'

def sp_written : Sp := fun vs H Q _ => ∃ a u : Int, vs = [.int a, .int u] ∧ 0 ≤ a ∧ 0 < u ∧ Sz 1900 a ∧ Sz 1900 u ∧ ∀ H', Same H H' → Q (.str (wTxt a u)) H'
def sp_mstr (C : Addr) : Sp := fun vs H Q _ => ∃ (p : Addr) (t u : Int), vs = [.ref p] ∧ MAt C H p t u ∧ 0 < u ∧ Sz 1900 t ∧ Sz 1900 u ∧ ∀ H', Same H H' → Q (.str (mTxt t u)) H'
def sp_mrep (C : Addr) : Sp := fun vs H Q _ => ∃ (p : Addr) (t u : Int), vs = [.ref p] ∧ MAt C H p t u ∧ Sz 1900 t ∧ Sz 1900 u ∧ Q (.str (mRep t u)) H
/-- a part of what is due -/
def Small (CM : Addr) (H : Hp) (v : V) : PK → Prop
  | .int z => v = .int z ∧ 0 ≤ z ∧ z ≤ 100
  | .str s => v = .str s ∧ (s = "part" ∨ s = "at" ∨ s = "behind" ∨ s = "alike")
  | .non => v = .non
  | .meas z => ∃ p : Addr, v = .ref p ∧ QAt CM H p 40 z
  | _ => False
theorem Small.ok {CM : Addr} {H : Hp} {v : V} {k : PK} (s : Small CM H v k) : DueOk k := by
  cases k <;> first | trivial | exact s
theorem Small.same {CM : Addr} {H H' : Hp} {v : V} {k : PK} (s : Small CM H v k) (t : Same H H') : Small CM H' v k := by
  cases k with
  | meas z =>
    obtain ⟨p, e, q⟩ := s
    exact ⟨p, e, q.same t⟩
  | _ => exact s
theorem Small.kp {CM h : Addr} {n : Nat} {H H' : Hp} {v : V} {k : PK} (s : Small CM H v k) (hh : HandAt H h n) (t : Kp h H H') : Small CM H' v k := by
  cases k with
  | meas z =>
    obtain ⟨p, e, q⟩ := s
    exact ⟨p, e, q.kp hh t⟩
  | _ => exact s
theorem small_pk {K : PySem.W.Frag} {CM CS CL : Addr} {H : Hp} {v : V} {k : PK} (ks : KitsT K CM CS CL) (s : Small CM H v k) : PKs K CM H v k := by
  have B : ∀ {a b : String} {r : Bool}, kitB a b = some r → PySem.W.kitOne K (.type a) (.type b) = some r := fun h => kit_ty h
  cases k with
  | int i =>
    obtain ⟨rfl, _⟩ := s
    have ty : TyX K H (.int i) (.type "int") := .base (.int i)
    exact ⟨rfl, ⟨_, ty, B (r := false) (by decide +kernel)⟩, ⟨_, ty, B (r := false) (by decide +kernel)⟩, ⟨_, ty, B (r := true) (by decide +kernel)⟩, ⟨_, ty, B (r := false) (by decide +kernel)⟩, ⟨_, ty, ks.own _ (.inr (.inr (.inl rfl)))⟩⟩
  | str z =>
    obtain ⟨rfl, _⟩ := s
    have ty : TyX K H (.str z) (.type "str") := .base (.str z)
    exact ⟨rfl, ⟨_, ty, B (r := false) (by decide +kernel)⟩, ⟨_, ty, B (r := true) (by decide +kernel)⟩, ⟨_, ty, B (r := false) (by decide +kernel)⟩, ⟨_, ty, B (r := false) (by decide +kernel)⟩, ⟨_, ty, ks.own _ (.inr (.inr (.inr (.inl rfl))))⟩⟩
  | non =>
    cases (show v = V.non from s)
    have ty : TyX K H .non (.type "NoneType") := .base .non
    exact ⟨rfl, ⟨_, ty, B (r := false) (by decide +kernel)⟩, ⟨_, ty, B (r := false) (by decide +kernel)⟩, ⟨_, ty, B (r := false) (by decide +kernel)⟩, ⟨_, ty, B (r := false) (by decide +kernel)⟩, ⟨_, ty, ks.own _ (.inl rfl)⟩⟩
  | meas z =>
    obtain ⟨p, rfl, q⟩ := s
    obtain ⟨t, u, ⟨dx, m⟩, _⟩ := id q.ob
    obtain ⟨h1, h2, h3, h4, h5⟩ := isi_of (tyM m ks.cm ks.im) ks.mm
    exact ⟨⟨p, 40, rfl, q, by decide⟩, h1, h2, h3, h4, h5⟩
  | _ => exact s.elim
theorem logN {z : Int} (h : z.natAbs < 2 ^ 12) : z.natAbs.log2 < 1920 := by
  by_cases e : z.natAbs = 0
  · rw [e]; decide
  · exact Nat.lt_trans ((Nat.log2_lt e).mpr h) (by decide)
theorem small_thg {CM CS CL h : Addr} {H : Hp} {v : V} {k : PK} (s : Small CM H v k) : ThgAt CM CS CL h H v := by
  cases k with
  | int z => exact .inl (.inr (.inr (.inl ⟨_, s.1⟩)))
  | str z => exact .inl (.inr (.inr (.inr (.inl ⟨_, s.1⟩))))
  | non => exact .inl (.inl s)
  | meas z =>
    obtain ⟨p, e, q⟩ := s
    exact .inr (.inl ⟨p, 40, z, e, q, by decide⟩)
  | _ => exact s.elim
def sp_pbent (K : PySem.W.Frag) (CM CS CL : Addr) : Sp := fun vs H Q _ => ∃ (h : Addr) (n : Nat) (v : V) (k : PK) (d : Int), vs = [.ref h, v, .int d] ∧ HandAt H h n ∧ n < 9000 ∧ Small CM H v k ∧ 0 < d ∧ d ≤ 24000000000 ∧ ∀ (w : V) (H' : Hp), ThgAt CM CS CL h H' w → HandAt H' h (n + 3) → Kp h H H' → Q w H'

theorem cutV_mem {xs : List V} {lo hi : Option Int} {x : V} (h : x ∈ cutV xs lo hi) : x ∈ xs := by
  unfold cutV at h
  exact List.mem_of_mem_drop (List.mem_of_mem_take h)
def sp_bent40 (K : PySem.W.Frag) (CM CS CL : Addr) : Sp := fun vs H Q _ => ∃ (h : Addr) (n : Nat) (T : Addr) (ys : List V) (ds : List PK) (d : Int), vs = [.ref h, .ref T, .int d] ∧ HandAt H h n ∧ n < 8000 ∧ H T = some (.tup ys) ∧ 0 < ys.length ∧ ys.length ≤ 5 ∧ ys.length = ds.length ∧ (∀ (i : Nat) (y : V) (k : PK), ys[i]? = some y → ds[i]? = some k → Small CM H y k) ∧ 0 < d ∧ d ≤ 24000000000 ∧
  ∀ (v : V) (H' : Hp), TopAt CM CS CL h H' v → HandAt H' h (n + 60) → Kp h H H' → Q v H'

theorem opt_self (a : Option Nat) : matchB (optK a) (optK a) = true := by
  cases a with
  | none => rfl
  | some n => exact decide_eq_true rfl
theorem PartS.small {F G : Rat → Option Nat} {sh : Int} {lo hi m : Rat} {w : Bool} {a b : Option Nat} (h : PartS F G sh lo hi (some (m, w, a, b))) (f : ∀ x n, F x = some n → n < 24) (g : ∀ x n, G x = some n → n < 24) : (∀ n, a = some n → n < 24) ∧ ∀ n, b = some n → n < 24 := by
  cases w with
  | false =>
    obtain ⟨_, _, h3, h4, _⟩ := h
    exact ⟨fun n e => f m n (h3.trans e), fun n e => g m n (h4.trans e)⟩
  | true =>
    obtain ⟨_, _, _, _, e, h5, _, h7⟩ := h
    obtain ⟨m1, m2⟩ := midR h5
    have q := h7 _ m1 m2
    exact ⟨fun n e => f _ n (q.1.trans e), fun n e => g _ n (q.2.trans e)⟩
theorem small_opt {CM : Addr} {H : Hp} {a : Option Nat} (h : ∀ n, a = some n → n < 24) : Small CM H (optI a) (optK a) := by
  cases a with
  | none => exact rfl
  | some n =>
    have := h n rfl
    exact ⟨rfl, by omega, by omega⟩
/-- what is due, and its kinds -/
structure DueAt (CM : Addr) (H : Hp) (U : Addr) (u : PRes) (ys : List V) (ds : List PK) : Prop where
  ob : H U = some (.tup ys)
  len : ys.length = ds.length
  l0 : 0 < ys.length
  l5 : ys.length ≤ 5
  sm : ∀ (i : Nat) (y : V) (k : PK), ys[i]? = some y → ds[i]? = some k → Small CM H y k
  top : ∀ o, topB o ds = topB o (dueK u)
  self : topB (some ds) (dueK u) = true
theorem DueAt.kp {CM : Addr} {H H' : Hp} {U h : Addr} {n : Nat} {u : PRes} {ys : List V} {ds : List PK} (d : DueAt CM H U u ys ds) (hh : HandAt H h n) (k : Kp h H H') : DueAt CM H' U u ys ds := ⟨k.get hh d.ob rfl, d.len, d.l0, d.l5, fun i y k1 a b => (d.sm i y k1 a b).kp hh k, d.top, d.self⟩
theorem DueAt.fnd {K : PySem.W.Frag} {CM CS CL : Addr} {H : Hp} {U : Addr} {u : PRes} {ys : List V} {ds : List PK} (k : KitsT K CM CS CL) (d : DueAt CM H U u ys ds) : Kds K CM H ys ds ∧ Fnd K CM H (.ref U) (some ds) := by
  have kd : Kds K CM H ys ds := ⟨d.len, fun i y q a b => small_pk k (d.sm i y q a b)⟩
  obtain ⟨q, p, f⟩ := thg_pk (h := U) k (.inl (Thing.of_tup d.ob) : ThgAt CM CS CL U H (.ref U))
  have : q = .tup := by
    have := f.mpr ⟨U, ys, rfl, d.ob⟩
    cases q <;> first | rfl | cases this
  subst this
  exact ⟨kd, U, ys, rfl, SqT.of d.ob, by have := d.l5; omega, p, kd⟩
theorem DueAt.ok {CM : Addr} {H : Hp} {U : Addr} {u : PRes} {ys : List V} {ds : List PK} (d : DueAt CM H U u ys ds) : ∀ k ∈ ds, DueOk k := fun k hk => by
  obtain ⟨i, hi⟩ := List.mem_iff_getElem?.mp hk
  have li := (List.getElem?_eq_some_iff.mp hi).1
  have l := d.len
  exact (d.sm i ys[i] k (List.getElem?_eq_getElem (by omega)) hi).ok
theorem due_of {CM : Addr} {H : Hp} {U : Addr} {F G : Rat → Option Nat} {sh : Int} {lo hi : Rat} (f : ∀ x n, F x = some n → n < 24) (g : ∀ x n, G x = some n → n < 24) : ∀ {u : PRes}, PartV CM H 40 U u → PartS F G sh lo hi u → ∃ ys ds, DueAt CM H U u ys ds
  | none, e, _ => ⟨[.str "alike"], [.str "alike"], e, rfl, by decide, by decide, fun i y k a b => by
      rcases i with _ | i
      · cases a; cases b; exact ⟨rfl, .inr (.inr (.inr rfl))⟩
      · simp at a, fun o => rfl, rfl⟩
  | some (m, w, a, b), ⟨M, z, q, e, h⟩, ps => by
    obtain ⟨s1, s2⟩ := PartS.small ps f g
    refine ⟨[.str "part", .ref M, .str (if w = true then "behind" else "at"), optI a, optI b], [.str "part", .meas z, .str (if w = true then "behind" else "at"), optK a, optK b], h, rfl, Nat.lt_of_lt_of_le (by decide) (Nat.le_of_ble_eq_true rfl : 5 ≤ 5), Nat.le_of_ble_eq_true rfl, fun i y k h1 h2 => ?_, fun o => ?_, ?_⟩
    · rcases i with _ | _ | _ | _ | _ | i
      · cases h1; cases h2; exact ⟨rfl, .inl rfl⟩
      · cases h1; cases h2; exact ⟨M, rfl, q⟩
      · cases h1; cases h2
        refine ⟨rfl, ?_⟩
        cases w
        · exact .inr (.inl rfl)
        · exact .inr (.inr (.inl rfl))
      · cases h1; cases h2; exact small_opt s1
      · cases h1; cases h2; exact small_opt s2
      · simp at h1
    · cases o with
      | none => rfl
      | some ks =>
        show (decide (ks.length = 5) && _) = (decide (ks.length = 5) && _)
        by_cases e5 : ks.length = 5
        · obtain ⟨k1, k2, k3, k4, k5, rfl⟩ : ∃ a b c d e, ks = [a, b, c, d, e] := by
            match ks, e5 with
            | [a, b, c, d, e], _ => exact ⟨a, b, c, d, e, rfl⟩
          have em := mat_meas (k := k2) (show toR z = toR (ofR m) by rw [toR_ofR, e])
          show (decide _ && (matchB k1 _ && (matchB k2 (.meas z) && _))) = (decide _ && (matchB k1 _ && (matchB k2 (.meas (ofR m)) && _)))
          rw [em]
        · rw [decide_eq_false e5, Bool.false_and, Bool.false_and]
    · have em : matchB (.meas z) (.meas (ofR m)) = true := decide_eq_true (show toR z = toR (ofR m) by rw [toR_ofR, e])
      show (decide ((5 : Nat) = 5) && (decide _ && (matchB (.meas z) (.meas (ofR m)) && (decide _ && (matchB (optK a) (optK a) && (matchB (optK b) (optK b) && true)))))) = true
      rw [em, opt_self, opt_self]
      cases w <;> rfl
def sp_right40 (K : PySem.W.Frag) (CM CL : Addr) : Sp := fun vs H Q _ => ∃ (h p q T a b U : Addr) (n : Nat) (sh d : Int) (zs zt : List Q2) (r rt : Str) (lo hi lt ht : Option Q2) (x y : Q2) (u : PRes) (ys : List V) (ds : List PK), vs = [.ref h, .ref p, .ref q, .ref T, .int sh, .ref U, .int d] ∧ HandAt H h n ∧ n < 5000 ∧ LadAt K CM CL H p 40 zs r lo hi ∧ LadAt K CM CL H q 40 zt rt lt ht ∧ H T = some (.tup [.ref a, .ref b]) ∧ QAt CM H a 40 x ∧ QAt CM H b 40 y ∧ DueAt CM H U u ys ds ∧ PartS (sizF zs r lo hi) (sizF zt rt lt ht) sh (toR x) (toR y) u ∧ 0 < d ∧ d ≤ 24000000000 ∧ ∀ H', HandAt H' h (n + 1700) → Kp h H H' → Q (.bl true) H'

theorem PartV.same {C : Addr} {H H' : Hp} {j : Nat} {R : Addr} : ∀ {u : PRes}, PartV C H j R u → Same H H' → PartV C H' j R u
  | none, h, s => s _ _ h
  | some (m, b, x, y), ⟨M, z, q, e, h⟩, s => ⟨M, z, q.same s, e, s _ _ h⟩

theorem b_is_whole_1 {K : PySem.W.Frag} {mg : Str → Option Value} {φ : Fds} (T : Txt K mg φ) : ∃ ds, Vals ([] : List V) ds ∧ Binds K φ.is_whole p_is_whole ds :=
  ⟨[], .nil, T.f_is_whole.bindsN fun _ _ _ _ _ _ us hl => match us, hl with | [_], _ => rfl⟩
theorem b_common_part_2 {K : PySem.W.Frag} {mg : Str → Option Value} {φ : Fds} (T : Txt K mg φ) : ∃ ds, Vals ([] : List V) ds ∧ Binds K φ.common_part p_common_part ds :=
  ⟨[], .nil, T.f_common_part.bindsN fun _ _ _ _ _ _ us hl => match us, hl with | [_, _], _ => rfl⟩
theorem b_Measure_is_below_2 {K : PySem.W.Frag} {mg : Str → Option Value} {φ : Fds} (T : Txt K mg φ) : ∃ ds, Vals ([V.bl false] : List V) ds ∧ Binds K φ.Measure_is_below p_Measure_is_below ds :=
  T.f_Measure_is_below.binds1 2 0 (by simp) rfl fun _ _ _ _ _ _ _ us its h1 h2 => match us, its, h1, h2 with | [_, _], [_], _, _ => ⟨_, rfl, rfl⟩
theorem b_Measure_is_below_3 {K : PySem.W.Frag} {mg : Str → Option Value} {φ : Fds} (T : Txt K mg φ) : ∃ ds, Vals ([] : List V) ds ∧ Binds K φ.Measure_is_below p_Measure_is_below ds :=
  T.f_Measure_is_below.binds1 3 1 (by simp) rfl fun _ _ _ _ _ _ _ us its h1 h2 => match us, its, h1, h2 with | [_, _, _], [_], _, _ => ⟨_, rfl, rfl⟩
theorem b_are_marks_1 {K : PySem.W.Frag} {mg : Str → Option Value} {φ : Fds} (T : Txt K mg φ) : ∃ ds, Vals ([] : List V) ds ∧ Binds K φ.are_marks p_are_marks ds :=
  ⟨[], .nil, T.f_are_marks.bindsN fun _ _ _ _ _ _ us hl => match us, hl with | [_], _ => rfl⟩
theorem b_is_rule_1 {K : PySem.W.Frag} {mg : Str → Option Value} {φ : Fds} (T : Txt K mg φ) : ∃ ds, Vals ([] : List V) ds ∧ Binds K φ.is_rule p_is_rule ds :=
  ⟨[], .nil, T.f_is_rule.bindsN fun _ _ _ _ _ _ us hl => match us, hl with | [_], _ => rfl⟩
theorem b_is_measure_or_none_1 {K : PySem.W.Frag} {mg : Str → Option Value} {φ : Fds} (T : Txt K mg φ) : ∃ ds, Vals ([] : List V) ds ∧ Binds K φ.is_measure_or_none p_is_measure_or_none ds :=
  ⟨[], .nil, T.f_is_measure_or_none.bindsN fun _ _ _ _ _ _ us hl => match us, hl with | [_], _ => rfl⟩
theorem b_is_span_2 {K : PySem.W.Frag} {mg : Str → Option Value} {φ : Fds} (T : Txt K mg φ) : ∃ ds, Vals ([] : List V) ds ∧ Binds K φ.is_span p_is_span ds :=
  ⟨[], .nil, T.f_is_span.bindsN fun _ _ _ _ _ _ us hl => match us, hl with | [_, _], _ => rfl⟩
theorem b_slip_of_1 {K : PySem.W.Frag} {mg : Str → Option Value} {φ : Fds} (T : Txt K mg φ) : ∃ ds, Vals ([] : List V) ds ∧ Binds K φ.slip_of p_slip_of ds :=
  ⟨[], .nil, T.f_slip_of.bindsN fun _ _ _ _ _ _ us hl => match us, hl with | [_], _ => rfl⟩
theorem b_Measure_init_3 {K : PySem.W.Frag} {mg : Str → Option Value} {φ : Fds} (T : Txt K mg φ) : ∃ ds, Vals ([] : List V) ds ∧ Binds K φ.Measure_init p_Measure_init ds :=
  T.f_Measure_init.binds1 3 1 (by simp) rfl fun _ _ _ _ _ _ _ us its h1 h2 => match us, its, h1, h2 with | [_, _, _], [_], _, _ => ⟨_, rfl, rfl⟩
theorem b_Measure_parted_1 {K : PySem.W.Frag} {mg : Str → Option Value} {φ : Fds} (T : Txt K mg φ) : ∃ ds, Vals ([V.int 2] : List V) ds ∧ Binds K φ.Measure_parted p_Measure_parted ds :=
  T.f_Measure_parted.binds1 1 0 (by simp) rfl fun _ _ _ _ _ _ _ us its h1 h2 => match us, its, h1, h2 with | [_], [_], _, _ => ⟨_, rfl, rfl⟩
theorem b_Measure_plus_2 {K : PySem.W.Frag} {mg : Str → Option Value} {φ : Fds} (T : Txt K mg φ) : ∃ ds, Vals ([] : List V) ds ∧ Binds K φ.Measure_plus p_Measure_plus ds :=
  ⟨[], .nil, T.f_Measure_plus.bindsN fun _ _ _ _ _ _ us hl => match us, hl with | [_, _], _ => rfl⟩
theorem b_midsts_of_1 {K : PySem.W.Frag} {mg : Str → Option Value} {φ : Fds} (T : Txt K mg φ) : ∃ ds, Vals ([] : List V) ds ∧ Binds K φ.midsts_of p_midsts_of ds :=
  ⟨[], .nil, T.f_midsts_of.bindsN fun _ _ _ _ _ _ us hl => match us, hl with | [_], _ => rfl⟩
theorem b_size_by_rule_3 {K : PySem.W.Frag} {mg : Str → Option Value} {φ : Fds} (T : Txt K mg φ) : ∃ ds, Vals ([] : List V) ds ∧ Binds K φ.size_by_rule p_size_by_rule ds :=
  ⟨[], .nil, T.f_size_by_rule.bindsN fun _ _ _ _ _ _ us hl => match us, hl with | [_, _, _], _ => rfl⟩
theorem b_Measure_eq_2 {K : PySem.W.Frag} {mg : Str → Option Value} {φ : Fds} (T : Txt K mg φ) : ∃ ds, Vals ([] : List V) ds ∧ Binds K φ.Measure_eq p_Measure_eq ds :=
  ⟨[], .nil, T.f_Measure_eq.bindsN fun _ _ _ _ _ _ us hl => match us, hl with | [_, _], _ => rfl⟩
theorem b_is_empty_4 {K : PySem.W.Frag} {mg : Str → Option Value} {φ : Fds} (T : Txt K mg φ) : ∃ ds, Vals ([] : List V) ds ∧ Binds K φ.is_empty p_is_empty ds :=
  ⟨[], .nil, T.f_is_empty.bindsN fun _ _ _ _ _ _ us hl => match us, hl with | [_, _, _, _], _ => rfl⟩
theorem b_cut_low_2 {K : PySem.W.Frag} {mg : Str → Option Value} {φ : Fds} (T : Txt K mg φ) : ∃ ds, Vals ([] : List V) ds ∧ Binds K φ.cut_low p_cut_low ds :=
  ⟨[], .nil, T.f_cut_low.bindsN fun _ _ _ _ _ _ us hl => match us, hl with | [_, _], _ => rfl⟩
theorem b_cut_high_2 {K : PySem.W.Frag} {mg : Str → Option Value} {φ : Fds} (T : Txt K mg φ) : ∃ ds, Vals ([] : List V) ds ∧ Binds K φ.cut_high p_cut_high ds :=
  ⟨[], .nil, T.f_cut_high.bindsN fun _ _ _ _ _ _ us hl => match us, hl with | [_, _], _ => rfl⟩
theorem b_Stretch_init_5 {K : PySem.W.Frag} {mg : Str → Option Value} {φ : Fds} (T : Txt K mg φ) : ∃ ds, Vals ([] : List V) ds ∧ Binds K φ.Stretch_init p_Stretch_init ds :=
  T.f_Stretch_init.binds1 5 2 (by simp) rfl fun _ _ _ _ _ _ _ us its h1 h2 => match us, its, h1, h2 with | [_, _, _, _, _], [_, _], _, _ => ⟨_, rfl, rfl⟩
theorem b_Stretch_init_3 {K : PySem.W.Frag} {mg : Str → Option Value} {φ : Fds} (T : Txt K mg φ) : ∃ ds, Vals ([V.bl false, V.bl true] : List V) ds ∧ Binds K φ.Stretch_init p_Stretch_init ds :=
  T.f_Stretch_init.binds1 3 0 (by simp) rfl fun _ _ _ _ _ _ _ us its h1 h2 => match us, its, h1, h2 with | [_, _, _], [_, _], _, _ => ⟨_, rfl, rfl⟩
theorem b_end_at_2 {K : PySem.W.Frag} {mg : Str → Option Value} {φ : Fds} (T : Txt K mg φ) : ∃ ds, Vals ([] : List V) ds ∧ Binds K φ.end_at p_end_at ds :=
  ⟨[], .nil, T.f_end_at.bindsN fun _ _ _ _ _ _ us hl => match us, hl with | [_, _], _ => rfl⟩
theorem b_has_size_2 {K : PySem.W.Frag} {mg : Str → Option Value} {φ : Fds} (T : Txt K mg φ) : ∃ ds, Vals ([] : List V) ds ∧ Binds K φ.has_size p_has_size ds :=
  ⟨[], .nil, T.f_has_size.bindsN fun _ _ _ _ _ _ us hl => match us, hl with | [_, _], _ => rfl⟩
theorem b_Stretch_cut_2 {K : PySem.W.Frag} {mg : Str → Option Value} {φ : Fds} (T : Txt K mg φ) : ∃ ds, Vals ([] : List V) ds ∧ Binds K φ.Stretch_cut p_Stretch_cut ds :=
  ⟨[], .nil, T.f_Stretch_cut.bindsN fun _ _ _ _ _ _ us hl => match us, hl with | [_, _], _ => rfl⟩
theorem b_stretch_by_rule_3 {K : PySem.W.Frag} {mg : Str → Option Value} {φ : Fds} (T : Txt K mg φ) : ∃ ds, Vals ([] : List V) ds ∧ Binds K φ.stretch_by_rule p_stretch_by_rule ds :=
  ⟨[], .nil, T.f_stretch_by_rule.bindsN fun _ _ _ _ _ _ us hl => match us, hl with | [_, _, _], _ => rfl⟩
theorem b_Ladder_len_1 {K : PySem.W.Frag} {mg : Str → Option Value} {φ : Fds} (T : Txt K mg φ) : ∃ ds, Vals ([] : List V) ds ∧ Binds K φ.Ladder_len p_Ladder_len ds :=
  ⟨[], .nil, T.f_Ladder_len.bindsN fun _ _ _ _ _ _ us hl => match us, hl with | [_], _ => rfl⟩
theorem b_Ladder_stretch_2 {K : PySem.W.Frag} {mg : Str → Option Value} {φ : Fds} (T : Txt K mg φ) : ∃ ds, Vals ([] : List V) ds ∧ Binds K φ.Ladder_stretch p_Ladder_stretch ds :=
  ⟨[], .nil, T.f_Ladder_stretch.bindsN fun _ _ _ _ _ _ us hl => match us, hl with | [_, _], _ => rfl⟩
theorem b_turn_behind_3 {K : PySem.W.Frag} {mg : Str → Option Value} {φ : Fds} (T : Txt K mg φ) : ∃ ds, Vals ([] : List V) ds ∧ Binds K φ.turn_behind p_turn_behind ds :=
  ⟨[], .nil, T.f_turn_behind.bindsN fun _ _ _ _ _ _ us hl => match us, hl with | [_, _, _], _ => rfl⟩
theorem b_points_of_3 {K : PySem.W.Frag} {mg : Str → Option Value} {φ : Fds} (T : Txt K mg φ) : ∃ ds, Vals ([] : List V) ds ∧ Binds K φ.points_of p_points_of ds :=
  ⟨[], .nil, T.f_points_of.bindsN fun _ _ _ _ _ _ us hl => match us, hl with | [_, _, _], _ => rfl⟩
theorem b_turns_of_1 {K : PySem.W.Frag} {mg : Str → Option Value} {φ : Fds} (T : Txt K mg φ) : ∃ ds, Vals ([] : List V) ds ∧ Binds K φ.turns_of p_turns_of ds :=
  ⟨[], .nil, T.f_turns_of.bindsN fun _ _ _ _ _ _ us hl => match us, hl with | [_], _ => rfl⟩
theorem b_looks_of_1 {K : PySem.W.Frag} {mg : Str → Option Value} {φ : Fds} (T : Txt K mg φ) : ∃ ds, Vals ([] : List V) ds ∧ Binds K φ.looks_of p_looks_of ds :=
  ⟨[], .nil, T.f_looks_of.bindsN fun _ _ _ _ _ _ us hl => match us, hl with | [_], _ => rfl⟩
theorem b_Ladder_size_2 {K : PySem.W.Frag} {mg : Str → Option Value} {φ : Fds} (T : Txt K mg φ) : ∃ ds, Vals ([] : List V) ds ∧ Binds K φ.Ladder_size p_Ladder_size ds :=
  ⟨[], .nil, T.f_Ladder_size.bindsN fun _ _ _ _ _ _ us hl => match us, hl with | [_, _], _ => rfl⟩
theorem b_are_alike_3 {K : PySem.W.Frag} {mg : Str → Option Value} {φ : Fds} (T : Txt K mg φ) : ∃ ds, Vals ([] : List V) ds ∧ Binds K φ.are_alike p_are_alike ds :=
  ⟨[], .nil, T.f_are_alike.bindsN fun _ _ _ _ _ _ us hl => match us, hl with | [_, _, _], _ => rfl⟩
theorem b_is_number_2 {K : PySem.W.Frag} {mg : Str → Option Value} {φ : Fds} (T : Txt K mg φ) : ∃ ds, Vals ([] : List V) ds ∧ Binds K φ.is_number p_is_number ds :=
  ⟨[], .nil, T.f_is_number.bindsN fun _ _ _ _ _ _ us hl => match us, hl with | [_, _], _ => rfl⟩
theorem b_is_word_2 {K : PySem.W.Frag} {mg : Str → Option Value} {φ : Fds} (T : Txt K mg φ) : ∃ ds, Vals ([] : List V) ds ∧ Binds K φ.is_word p_is_word ds :=
  ⟨[], .nil, T.f_is_word.bindsN fun _ _ _ _ _ _ us hl => match us, hl with | [_, _], _ => rfl⟩
theorem b_is_size_2 {K : PySem.W.Frag} {mg : Str → Option Value} {φ : Fds} (T : Txt K mg φ) : ∃ ds, Vals ([] : List V) ds ∧ Binds K φ.is_size p_is_size ds :=
  ⟨[], .nil, T.f_is_size.bindsN fun _ _ _ _ _ _ us hl => match us, hl with | [_, _], _ => rfl⟩
theorem b_parting_5 {K : PySem.W.Frag} {mg : Str → Option Value} {φ : Fds} (T : Txt K mg φ) : ∃ ds, Vals ([] : List V) ds ∧ Binds K φ.parting p_parting ds :=
  T.f_parting.binds1 5 1 (by simp) rfl fun _ _ _ _ _ _ _ us its h1 h2 => match us, its, h1, h2 with | [_, _, _, _, _], [_], _, _ => ⟨_, rfl, rfl⟩
theorem b_is_tuple_of_2 {K : PySem.W.Frag} {mg : Str → Option Value} {φ : Fds} (T : Txt K mg φ) : ∃ ds, Vals ([] : List V) ds ∧ Binds K φ.is_tuple_of p_is_tuple_of ds :=
  ⟨[], .nil, T.f_is_tuple_of.bindsN fun _ _ _ _ _ _ us hl => match us, hl with | [_, _], _ => rfl⟩
theorem b_is_part_2 {K : PySem.W.Frag} {mg : Str → Option Value} {φ : Fds} (T : Txt K mg φ) : ∃ ds, Vals ([] : List V) ds ∧ Binds K φ.is_part p_is_part ds :=
  ⟨[], .nil, T.f_is_part.bindsN fun _ _ _ _ _ _ us hl => match us, hl with | [_, _], _ => rfl⟩
theorem b_l_same_2 {K : PySem.W.Frag} {mg : Str → Option Value} {φ : Fds} (T : Txt K mg φ) : ∃ ds, Vals ([] : List V) ds ∧ Binds K φ.l_same p_l_same ds :=
  ⟨[], .nil, T.f_l_same.bindsN fun _ _ _ _ _ _ us hl => match us, hl with | [_, _], _ => rfl⟩
theorem b_l_take_2 {K : PySem.W.Frag} {mg : Str → Option Value} {φ : Fds} (T : Txt K mg φ) : ∃ ds, Vals ([] : List V) ds ∧ Binds K φ.l_take p_l_take ds :=
  ⟨[], .nil, T.f_l_take.bindsN fun _ _ _ _ _ _ us hl => match us, hl with | [_, _], _ => rfl⟩
theorem b_l_pick_2 {K : PySem.W.Frag} {mg : Str → Option Value} {φ : Fds} (T : Txt K mg φ) : ∃ ds, Vals ([] : List V) ds ∧ Binds K φ.l_pick p_l_pick ds :=
  ⟨[], .nil, T.f_l_pick.bindsN fun _ _ _ _ _ _ us hl => match us, hl with | [_, _], _ => rfl⟩
theorem b_l_drawn_marks_1 {K : PySem.W.Frag} {mg : Str → Option Value} {φ : Fds} (T : Txt K mg φ) : ∃ ds, Vals ([] : List V) ds ∧ Binds K φ.l_drawn_marks p_l_drawn_marks ds :=
  ⟨[], .nil, T.f_l_drawn_marks.bindsN fun _ _ _ _ _ _ us hl => match us, hl with | [_], _ => rfl⟩
theorem b_Ladder_init_2 {K : PySem.W.Frag} {mg : Str → Option Value} {φ : Fds} (T : Txt K mg φ) : ∃ ds, Vals ([V.str "up", V.non, V.non] : List V) ds ∧ Binds K φ.Ladder_init p_Ladder_init ds :=
  T.f_Ladder_init.binds1 2 0 (by simp) rfl fun _ _ _ _ _ _ _ us its h1 h2 => match us, its, h1, h2 with | [_, _], [_, _, _], _, _ => ⟨_, rfl, rfl⟩
theorem b_Ladder_init_2_rule {K : PySem.W.Frag} {mg : Str → Option Value} {φ : Fds} (T : Txt K mg φ) : ∃ its : List Value, KBn K φ.Ladder_init p_Ladder_init 2 ["rule"] (fun vs zs => (fun {α : Type} (vs ds zs : List α) => (((vs ++ (zs.drop 0).take 1) ++ (ds.drop 1).take 1) ++ (ds.drop 2).take 1)) vs its zs) (fun vs zs => (fun {α : Type} (vs ds zs : List α) => (((vs ++ (zs.drop 0).take 1) ++ (ds.drop 1).take 1) ++ (ds.drop 2).take 1)) vs ([V.str "up", V.non, V.non] : List V) zs) :=
  T.f_Ladder_init.kbindsD 2 ["rule"] (fun {α : Type} (vs ds zs : List α) => (((vs ++ (zs.drop 0).take 1) ++ (ds.drop 1).take 1) ++ (ds.drop 2).take 1)) (by simp) (fun a b c => (((a.append ((c.drop 0).take 1)).append ((b.drop 1).take 1)).append ((b.drop 2).take 1))) fun _ _ _ _ _ _ _ us its ws h1 h2 h3 => match us, its, ws, h1, h2, h3 with | [_, _], [_, _, _], [_], _, _, _ => ⟨_, rfl, rfl⟩
theorem b_Ladder_init_2_most_rule_least {K : PySem.W.Frag} {mg : Str → Option Value} {φ : Fds} (T : Txt K mg φ) : ∃ its : List Value, KBn K φ.Ladder_init p_Ladder_init 2 ["most", "rule", "least"] (fun vs zs => (fun {α : Type} (vs ds zs : List α) => (((vs ++ (zs.drop 1).take 1) ++ (zs.drop 2).take 1) ++ (zs.drop 0).take 1)) vs its zs) (fun vs zs => (fun {α : Type} (vs ds zs : List α) => (((vs ++ (zs.drop 1).take 1) ++ (zs.drop 2).take 1) ++ (zs.drop 0).take 1)) vs ([V.str "up", V.non, V.non] : List V) zs) :=
  T.f_Ladder_init.kbindsD 2 ["most", "rule", "least"] (fun {α : Type} (vs ds zs : List α) => (((vs ++ (zs.drop 1).take 1) ++ (zs.drop 2).take 1) ++ (zs.drop 0).take 1)) (by simp) (fun a b c => (((a.append ((c.drop 1).take 1)).append ((c.drop 2).take 1)).append ((c.drop 0).take 1))) fun _ _ _ _ _ _ _ us its ws h1 h2 h3 => match us, its, ws, h1, h2, h3 with | [_, _], [_, _, _], [_, _, _], _, _, _ => ⟨_, rfl, rfl⟩
theorem b_l_measure_2 {K : PySem.W.Frag} {mg : Str → Option Value} {φ : Fds} (T : Txt K mg φ) : ∃ ds, Vals ([] : List V) ds ∧ Binds K φ.l_measure p_l_measure ds :=
  ⟨[], .nil, T.f_l_measure.bindsN fun _ _ _ _ _ _ us hl => match us, hl with | [_, _], _ => rfl⟩
theorem b_l_drawn_ladder_1 {K : PySem.W.Frag} {mg : Str → Option Value} {φ : Fds} (T : Txt K mg φ) : ∃ ds, Vals ([] : List V) ds ∧ Binds K φ.l_drawn_ladder p_l_drawn_ladder ds :=
  ⟨[], .nil, T.f_l_drawn_ladder.bindsN fun _ _ _ _ _ _ us hl => match us, hl with | [_], _ => rfl⟩
theorem b_l_points_1 {K : PySem.W.Frag} {mg : Str → Option Value} {φ : Fds} (T : Txt K mg φ) : ∃ ds, Vals ([] : List V) ds ∧ Binds K φ.l_points p_l_points ds :=
  ⟨[], .nil, T.f_l_points.bindsN fun _ _ _ _ _ _ us hl => match us, hl with | [_], _ => rfl⟩
theorem b_l_size_2 {K : PySem.W.Frag} {mg : Str → Option Value} {φ : Fds} (T : Txt K mg φ) : ∃ ds, Vals ([] : List V) ds ∧ Binds K φ.l_size p_l_size ds :=
  ⟨[], .nil, T.f_l_size.bindsN fun _ _ _ _ _ _ us hl => match us, hl with | [_, _], _ => rfl⟩
theorem b_l_alike_3 {K : PySem.W.Frag} {mg : Str → Option Value} {φ : Fds} (T : Txt K mg φ) : ∃ ds, Vals ([] : List V) ds ∧ Binds K φ.l_alike p_l_alike ds :=
  ⟨[], .nil, T.f_l_alike.bindsN fun _ _ _ _ _ _ us hl => match us, hl with | [_, _, _], _ => rfl⟩
theorem b_Measure_init_2 {K : PySem.W.Frag} {mg : Str → Option Value} {φ : Fds} (T : Txt K mg φ) : ∃ ds, Vals ([V.int 1] : List V) ds ∧ Binds K φ.Measure_init p_Measure_init ds :=
  T.f_Measure_init.binds1 2 0 (by simp) rfl fun _ _ _ _ _ _ _ us its h1 h2 => match us, its, h1, h2 with | [_, _], [_], _, _ => ⟨_, rfl, rfl⟩
theorem b_written_2 {K : PySem.W.Frag} {mg : Str → Option Value} {φ : Fds} (T : Txt K mg φ) : ∃ ds, Vals ([] : List V) ds ∧ Binds K φ.written p_written ds :=
  ⟨[], .nil, T.f_written.bindsN fun _ _ _ _ _ _ us hl => match us, hl with | [_, _], _ => rfl⟩
theorem b_Measure_str_1 {K : PySem.W.Frag} {mg : Str → Option Value} {φ : Fds} (T : Txt K mg φ) : ∃ ds, Vals ([] : List V) ds ∧ Binds K φ.Measure_str p_Measure_str ds :=
  ⟨[], .nil, T.f_Measure_str.bindsN fun _ _ _ _ _ _ us hl => match us, hl with | [_], _ => rfl⟩
theorem b_l_part_bent_3 {K : PySem.W.Frag} {mg : Str → Option Value} {φ : Fds} (T : Txt K mg φ) : ∃ ds, Vals ([] : List V) ds ∧ Binds K φ.l_part_bent p_l_part_bent ds :=
  ⟨[], .nil, T.f_l_part_bent.bindsN fun _ _ _ _ _ _ us hl => match us, hl with | [_, _, _], _ => rfl⟩
theorem b_l_any_1 {K : PySem.W.Frag} {mg : Str → Option Value} {φ : Fds} (T : Txt K mg φ) : ∃ ds, Vals ([] : List V) ds ∧ Binds K φ.l_any p_l_any ds :=
  ⟨[], .nil, T.f_l_any.bindsN fun _ _ _ _ _ _ us hl => match us, hl with | [_], _ => rfl⟩
theorem b_shows_parting_6 {K : PySem.W.Frag} {mg : Str → Option Value} {φ : Fds} (T : Txt K mg φ) : ∃ ds, Vals ([] : List V) ds ∧ Binds K φ.shows_parting p_shows_parting ds :=
  ⟨[], .nil, T.f_shows_parting.bindsN fun _ _ _ _ _ _ us hl => match us, hl with | [_, _, _, _, _, _], _ => rfl⟩
theorem b_l_bent_3 {K : PySem.W.Frag} {mg : Str → Option Value} {φ : Fds} (T : Txt K mg φ) : ∃ ds, Vals ([] : List V) ds ∧ Binds K φ.l_bent p_l_bent ds :=
  ⟨[], .nil, T.f_l_bent.bindsN fun _ _ _ _ _ _ us hl => match us, hl with | [_, _, _], _ => rfl⟩
theorem b_l_hand_at_2 {K : PySem.W.Frag} {mg : Str → Option Value} {φ : Fds} (T : Txt K mg φ) : ∃ ds, Vals ([] : List V) ds ∧ Binds K φ.l_hand_at p_l_hand_at ds :=
  ⟨[], .nil, T.f_l_hand_at.bindsN fun _ _ _ _ _ _ us hl => match us, hl with | [_, _], _ => rfl⟩
theorem b_l_grain_1 {K : PySem.W.Frag} {mg : Str → Option Value} {φ : Fds} (T : Txt K mg φ) : ∃ ds, Vals ([] : List V) ds ∧ Binds K φ.l_grain p_l_grain ds :=
  ⟨[], .nil, T.f_l_grain.bindsN fun _ _ _ _ _ _ us hl => match us, hl with | [_], _ => rfl⟩
theorem b_l_two_ladder_2 {K : PySem.W.Frag} {mg : Str → Option Value} {φ : Fds} (T : Txt K mg φ) : ∃ ds, Vals ([] : List V) ds ∧ Binds K φ.l_two_ladder p_l_two_ladder ds :=
  ⟨[], .nil, T.f_l_two_ladder.bindsN fun _ _ _ _ _ _ us hl => match us, hl with | [_, _], _ => rfl⟩
theorem b_l_span_3 {K : PySem.W.Frag} {mg : Str → Option Value} {φ : Fds} (T : Txt K mg φ) : ∃ ds, Vals ([] : List V) ds ∧ Binds K φ.l_span p_l_span ds :=
  ⟨[], .nil, T.f_l_span.bindsN fun _ _ _ _ _ _ us hl => match us, hl with | [_, _, _], _ => rfl⟩
theorem b_l_parting_5 {K : PySem.W.Frag} {mg : Str → Option Value} {φ : Fds} (T : Txt K mg φ) : ∃ ds, Vals ([] : List V) ds ∧ Binds K φ.l_parting p_l_parting ds :=
  ⟨[], .nil, T.f_l_parting.bindsN fun _ _ _ _ _ _ us hl => match us, hl with | [_, _, _, _, _], _ => rfl⟩
theorem b_l_right_7 {K : PySem.W.Frag} {mg : Str → Option Value} {φ : Fds} (T : Txt K mg φ) : ∃ ds, Vals ([] : List V) ds ∧ Binds K φ.l_right p_l_right ds :=
  ⟨[], .nil, T.f_l_right.bindsN fun _ _ _ _ _ _ us hl => match us, hl with | [_, _, _, _, _, _, _], _ => rfl⟩
theorem b_l_made_2 {K : PySem.W.Frag} {mg : Str → Option Value} {φ : Fds} (T : Txt K mg φ) : ∃ ds, Vals ([] : List V) ds ∧ Binds K φ.l_made p_l_made ds :=
  ⟨[], .nil, T.f_l_made.bindsN fun _ _ _ _ _ _ us hl => match us, hl with | [_, _], _ => rfl⟩
theorem ok_is_whole {P : Program} {w : World} {K : PySem.W.Frag} {mg : Str → Option Value} {base : Heap} {φ : Fds} (T : Txt K mg φ) : FnOk P w K mg base CX0 1 (He.fAd K ("is_whole", none)) φ.is_whole p_is_whole sp_whole := by
  refine T.f_is_whole.ok sc_is_whole (fun vs H Q E h => ?_) (fun cdv A outer s H vs Q E hr h => ?_)
  · obtain ⟨n, rfl, k⟩ := h; rfl
  · obtain ⟨n, rfl, k⟩ := h
    refine ⟨_, PSs.nox (pss_one (ps_ret (pe_and (pe_callB (id := "isinstance") (isi (K := K)) (by rfl) T.z_isinstance (by decide +kernel) (pa_cons (pv 0) (pa_cons (pe_bltn (v := .ty "int") rfl T.z_int (by decide +kernel) rfl) pa_nil))) (pe_one (pe_not (pe_callB (id := "isinstance") (isi (K := K)) (by rfl) T.z_isinstance (by decide +kernel) (pa_cons (pv 0) (pa_cons (pe_bltn (v := .ty "bool") rfl T.z_bool (by decide +kernel) rfl) pa_nil)))))))), ?_⟩
    refine ⟨_, rfl, _, _, _, _, _, rfl, .ty _, .base (.int _), kit_ty (r := true) (by decide +kernel), _, rfl, ?_⟩
    refine iteT ?_
    refine ⟨_, rfl, _, _, _, _, _, rfl, .ty _, .base (.int _), kit_ty (r := false) (by decide +kernel), _, rfl, ?_⟩
    exact k
theorem ok_common_part {P : Program} {w : World} {K : PySem.W.Frag} {mg : Str → Option Value} {base : Heap} {φ : Fds} (T : Txt K mg φ) : FnOk P w K mg base CX0 1 (He.fAd K ("common_part", none)) φ.common_part p_common_part sp_common := by
  refine T.f_common_part.ok sc_common_part (fun vs H Q E h => ?_) (fun cdv A outer s H vs Q E hr h => ?_)
  · obtain ⟨a, b, rfl, k⟩ := h; rfl
  · obtain ⟨a, b, rfl, k⟩ := h
    refine ⟨_, PSs.nox (pss_cons (ps_par (i := 2) (j := 3) rfl sc_common_part.nd rfl rfl (by decide) rfl rfl (pa_cons (pe_callB (id := "abs") call_abs (by rfl) T.z_abs (by decide +kernel) (pa_cons (pv 0) pa_nil)) (pa_cons (pe_callB (id := "abs") call_abs (by rfl) T.z_abs (by decide +kernel) (pa_cons (pv 1) pa_nil)) pa_nil)) (by rfl))
      (pss_cons (ps_while PassesOwn.never (pt_cmpR op_gt (pv 3) pe_int (nomark _))
      (pss_one (ps_par (i := 2) (j := 3) rfl sc_common_part.nd rfl rfl (by decide) rfl rfl (pa_cons (pv 3) (pa_cons (pe_op op_mod (pv 2) (pv 3)) pa_nil)) (by rfl))))
      (pss_one (ps_ret (pv 2))))), ?_⟩
    refine ⟨_, rfl, _, rfl, _, rfl, _, rfl, _, _, rfl, ?_⟩
    refine while_by (fun σ H' => H' = H ∧ ∃ g s : Int, σ = [some (.int a), some (.int b), some (.int g), some (.int s)] ∧ 0 ≤ g ∧ 0 ≤ s ∧ Int.gcd g s = Int.gcd a b)
      (fun σ _ => match σ with | [_, _, _, some (.int s)] => s.toNat | _ => 0) ⟨rfl, _, _, rfl, ?_, ?_, ?_⟩ ?_ (fun σ H Q Q' hQ ⟨v, e1, i, j, e2, e3, c, e4, q⟩ => ⟨v, e1, i, j, e2, e3, c, e4, hQ _ _ q⟩)
    · split <;> omega
    · split <;> omega
    · have e1 : (if a < 0 then -a else a) = (a.natAbs : Int) := by split <;> omega
      have e2 : (if b < 0 then -b else b) = (b.natAbs : Int) := by split <;> omega
      rw [e1, e2]
      rfl
    · rintro σ H' ⟨rfl, g, s, rfl, hg, hs, e⟩
      refine ⟨_, rfl, _, _, rfl, rfl, _, rfl, ?_⟩
      refine ite2 (fun c => ?_) (fun c => ?_)
      · have c0 : 0 < s := of_decide_eq_true c
        refine ⟨_, rfl, _, rfl, _, rfl, _, _, rfl, rfl, c0, _, _, rfl, ?_⟩
        refine ⟨⟨rfl, s, g % s, rfl, hs, Int.emod_nonneg _ (by omega), (gcd_step c0 hg).trans e⟩, ?_⟩
        show (g % s).toNat < s.toNat
        have h1 := Int.emod_nonneg g (show s ≠ 0 by omega)
        have h2 := Int.emod_lt_of_pos g c0
        omega
      · have c0 : ¬ 0 < s := fun z => c (decide_eq_true z)
        have s0 : s = 0 := by omega
        subst s0
        refine ⟨_, rfl, ?_⟩
        have eg : g = (Int.gcd a b : Int) := by
          rw [← e, Int.gcd_zero_right]
          omega
        rw [eg]
        exact k
theorem ok_Measure_init {P : Program} {w : World} {K : PySem.W.Frag} {mg : Str → Option Value} {base : Heap} {φ : Fds} (T : Txt K mg φ) : FnOk P w K mg base CX0 2 (He.fAd K ("Measure", some "__init__")) φ.Measure_init p_Measure_init (sp_minit (He.ga K "Measure")) := by
  obtain ⟨_, B0v, B0⟩ := b_is_whole_1 T
  obtain ⟨_, B1v, B1⟩ := b_common_part_2 T
  refine T.f_Measure_init.ok sc_Measure_init (fun vs H Q E h => ?_) (fun cdv A outer s H vs Q E hr h => ?_)
  · obtain ⟨p, dx, a, b, rfl, hp, hb, hl, k⟩ := h; rfl
  · obtain ⟨p, dx, a, b, rfl, hp, hb, hl, k⟩ := h
    refine ⟨_, PSs.nox (pss_cons (ps_if (PW.pt (pw_or (pt_not (pt_val (pe_call (ok_is_whole (K := K) T) (hr.mono (by decide)) rfl T.g_is_whole T.f_is_whole.kp B0 B0v pass0 (pa_cons (pv 1) pa_nil)))) (pw_or1 (pt_not (pt_val (pe_call (ok_is_whole (K := K) T) (hr.mono (by decide)) rfl T.g_is_whole T.f_is_whole.kp B0 B0v pass0 (pa_cons (pv 2) pa_nil)))))))
      (pss_one ps_never)
      pss_nil)
      (pss_cons (ps_if (pt_cmpR op_eq (pv 2) pe_int (nomark _))
      (pss_one ps_never)
      pss_nil)
      (pss_cons (ps_set (i := 3) sc_Measure_init.nd rfl (Or.inl rfl) (pe_call (ok_common_part (K := K) T) (hr.mono (by decide)) rfl T.g_common_part T.f_common_part.kp B1 B1v pass0 (pa_cons (pv 1) (pa_cons (pv 2) pa_nil))))
      (pss_cons (ps_cut (ps_if (pt_cmpR op_lt (pv 2) pe_int (nomark _))
      (pss_one (ps_set (i := 3) sc_Measure_init.nd rfl (Or.inl rfl) (pe_un un_neg (pv 3))))
      pss_nil))
      (pss_cons (ps_fld (pv 0) (pe_op op_fd (pv 1) (pv 3)) rfl)
      (pss_one (ps_fld (pv 0) (pe_op op_fd (pv 2) (pv 3)) rfl))))))), ?_⟩
    refine ⟨_, rfl, a, rfl, _, rfl, ?_⟩
    refine iteF ?_
    refine ⟨_, rfl, b, rfl, _, rfl, ?_⟩
    refine iteF ?_
    refine ⟨_, rfl, rfl, _, rfl, ?_⟩
    rw [dI]
    refine ite2 (fun e => absurd (of_decide_eq_true e) hb) (fun _ => ?_)
    refine ⟨_, rfl, _, rfl, a, b, rfl, ?_⟩
    refine ⟨fun σ' H' => H' = H ∧ ∃ c : Int, c = sgn b * (Int.gcd a b : Int) ∧ σ' = [some (.ref p), some (.int a), some (.int b), some (.int c)], ?_, ?_⟩
    · refine ⟨_, rfl, _, _, rfl, rfl, _, rfl, ?_⟩
      refine ite2 (fun e => ?_) (fun e => ?_)
      · have e0 : b < 0 := of_decide_eq_true e
        refine ⟨_, rfl, _, rfl, rfl, _, ?_, rfl⟩
        unfold sgn
        rw [if_neg (by omega), Int.neg_one_mul]
      · have e0 : ¬ b < 0 := fun z => e (decide_eq_true z)
        refine ⟨rfl, _, ?_, rfl⟩
        unfold sgn
        rw [if_pos (by omega), Int.one_mul]
    · rintro σ' H' ⟨rfl, c, hc, rfl⟩
      obtain ⟨c0, cl, fr⟩ := fr_mk hb hc
      have c9 : c.natAbs.log2 < 9000 := by
        refine Nat.lt_of_le_of_lt ?_ hl
        exact (Nat.le_log2 (by omega)).mpr (Nat.le_trans (Nat.log2_self_le (by omega)) cl)
      refine ⟨_, rfl, _, rfl, _, _, rfl, rfl, ⟨c0, c9⟩, _, rfl, p, _, dx, _, rfl, hp, T.cl_Measure, T.na_Measure_top, (by show 0 < 1000; decide), ?_⟩
      refine ⟨_, rfl, _, rfl, _, _, rfl, rfl, ⟨c0, c9⟩, _, rfl, p, _, dx, _, rfl, upd_same, T.cl_Measure, T.na_Measure_bottom, (by show 1 < 1000; decide), ?_⟩
      refine k _ _ _ fr ?_ fun q o e nq => ?_
      · rw [upd_same, mf_put]
      · rw [upd_ne nq, upd_ne nq]
        exact e
theorem ok_Measure_is_below {P : Program} {w : World} {K : PySem.W.Frag} {mg : Str → Option Value} {base : Heap} {φ : Fds} (T : Txt K mg φ) : FnOk P w K mg base CX0 1 (He.fAd K ("Measure", some "is_below")) φ.Measure_is_below p_Measure_is_below (sp_below (He.ga K "Measure")) := by
  refine T.f_Measure_is_below.ok sc_Measure_is_below (fun vs H Q E h => ?_) (fun cdv A outer s H vs Q E hr h => ?_)
  · obtain ⟨p, q, t, u, t', u', al, rfl, ⟨dp, hp⟩, ⟨dq, hq⟩, st, su, st', su', k⟩ := h; rfl
  · obtain ⟨p, q, t, u, t', u', al, rfl, ⟨dp, hp⟩, ⟨dq, hq⟩, st, su, st', su', k⟩ := h
    refine ⟨_, PSs.nox (pss_cons (ps_set (i := 3) sc_Measure_is_below.nd rfl (Or.inl rfl) (pe_op op_mulA (fldK (K := K) (pv 0) rfl) (fldK (K := K) (pv 1) rfl)))
      (pss_cons (ps_set (i := 4) sc_Measure_is_below.nd rfl (Or.inl rfl) (pe_op op_mulA (fldK (K := K) (pv 1) rfl) (fldK (K := K) (pv 0) rfl)))
      (pss_one (ps_ret (pe_or (pe_cmpR op_lt (pv 3) (pv 4) (nomark _)) (pe_one (pe_and (pv 2) (pe_one (pe_cmpR op_eq (pv 3) (pv 4) (nomark _)))))))))), ?_⟩
    refine ⟨_, rfl, _, _, _, _, _, rfl, hp, T.cl_Measure, T.na_Measure_top, mf_top _ _, _, rfl, _, _, _, _, _, rfl, hq, T.cl_Measure, T.na_Measure_bottom, mf_bottom _ _, _, _, rfl, rfl, st.cmul su' (by decide) (by decide) (by decide), ?_⟩
    refine ⟨_, rfl, _, _, _, _, _, rfl, hq, T.cl_Measure, T.na_Measure_top, mf_top _ _, _, rfl, _, _, _, _, _, rfl, hp, T.cl_Measure, T.na_Measure_bottom, mf_bottom _ _, _, _, rfl, rfl, st'.cmul su (by decide) (by decide) (by decide), ?_⟩
    refine ⟨_, rfl, _, rfl, _, _, rfl, rfl, _, rfl, ?_⟩
    have e : ∀ b : Bool, b = lessA t u t' u' al → Q (.bl b) H := fun b z => by rw [z]; exact k
    refine ite2 (fun c => e _ ?_) (fun c => ?_)
    · unfold lessA
      rw [c]
      rfl
    · have c0 : decide (t * u' < t' * u) = false := by simpa using c
      refine ⟨_, rfl, _, rfl, ?_⟩
      cases al with
      | false =>
        refine iteF (e _ ?_)
        unfold lessA
        rw [c0]
        rfl
      | true =>
        refine iteT ?_
        refine ⟨_, rfl, _, rfl, rfl, e _ ?_⟩
        unfold lessA
        rw [c0, dI]
        rfl
theorem ok_slip_of {P : Program} {w : World} {K : PySem.W.Frag} {mg : Str → Option Value} {base : Heap} {φ : Fds} (T : Txt K mg φ) : FnOk P w K mg base CX0 2 (He.fAd K ("slip_of", none)) φ.slip_of p_slip_of (sp_slip K (He.ga K "Measure")) := by
  obtain ⟨_, B0v, B0⟩ := b_Measure_is_below_2 T
  refine T.f_slip_of.ok sc_slip_of (fun vs H Q E h => ?_) (fun cdv A outer s H vs Q E hr h => ?_)
  · obtain ⟨T', k, ps, zs, rfl, hT, hm, hk, hl, kk⟩ := h; rfl
  · obtain ⟨T', k, ps, zs, rfl, hT, hm, hk, hl, kk⟩ := h
    refine ⟨_, PSs.nox (pss_cons (ps_for PassesOwn.never rfl (pi_range2 rfl T.z_range (pa_cons pe_int (pa_cons (pe_callB (id := "len") (lenS (K := K)) (by rfl) T.z_len PySem.boot_len (pa_cons (pv 0) pa_nil)) pa_nil))) (pg_name (i := 1) sc_slip_of.nd rfl (Or.inl rfl))
      (pss_one (ps_if (pt_not (pt_val (pe_meth (pe_ix (ixt (K := K)) (pv 0) (pe_op op_sub (pv 1) pe_int) (fun _ _ => rfl)) T.cl_Measure T.me_Measure_is_below (ok_Measure_is_below (K := K) T) (hr.mono (by decide)) B0 B0v pass0 (pa_cons (pe_ix (ixt (K := K)) (pv 0) (pv 1) (fun _ _ => rfl)) pa_nil))))
      (pss_one (ps_ret (pv 1)))
      pss_nil)))
      (pss_one (ps_ret pe_non))), ?_⟩
    have el : ((ps.length : Nat) : Int) = (zs.length : Int) := by rw [hm.len]
    walk_at "w"
    refine for_range (fun i σ H' => H' = H ∧ (∃ v, σ = [some (.ref T'), v]) ∧ ∀ j a b, j < i → zs[j]? = some a → zs[j + 1]? = some b → ltq a b = true) ⟨rfl, ⟨_, rfl⟩, fun j a b z => by omega⟩ ?_ ?_
    · rintro i σ H1 hi ⟨rfl, ⟨v, rfl⟩, hp⟩
      obtain ⟨a, ha⟩ := ge2 (zs := zs) (n := i) (by omega)
      obtain ⟨b, hb⟩ := ge2 (zs := zs) (n := i + 1) (by omega)
      obtain ⟨p, ep, qp⟩ := hm.at ha
      obtain ⟨q, eq, qq⟩ := hm.at hb
      walk_at "w"
      refine ⟨atI_of (n := i) (by omega) ep, ?_⟩
      walk_at "w"
      refine ⟨atI_of (n := i + 1) (by omega) eq, ?_⟩
      walk_at "w"
      cases e : ltq a b with
      | false =>
        refine iteT ⟨_, rfl, ?_⟩
        have z : (1 : Int) + i = ((i + 1 : Nat) : Int) := by omega
        rw [z]
        refine kk (some (i + 1)) ⟨by omega, by omega, fun a' b' h1 h2 => ?_, fun j a' b' hj h1 h2 => hp j a' b' (by omega) h1 h2⟩
        rw [Nat.add_sub_cancel, ha] at h1
        rw [hb] at h2
        cases h1; cases h2
        exact e
      | true =>
        refine iteF ⟨rfl, ⟨_, rfl⟩, fun j a' b' hj h1 h2 => ?_⟩
        by_cases hji : j < i
        · exact hp j a' b' hji h1 h2
        · have : j = i := by omega
          subst this
          rw [ha] at h1
          rw [hb] at h2
          cases h1; cases h2
          exact e
    · rintro σ H1 ⟨rfl, ⟨v, rfl⟩, hp⟩
      refine kk none fun j a b h1 h2 => hp j a b ?_ h1 h2
      have := (List.getElem?_eq_some_iff.mp h2).1
      omega
theorem ok_is_measure_or_none {P : Program} {w : World} {K : PySem.W.Frag} {mg : Str → Option Value} {base : Heap} {φ : Fds} (T : Txt K mg φ) : FnOk P w K mg base CX0 1 (He.fAd K ("is_measure_or_none", none)) φ.is_measure_or_none p_is_measure_or_none (sp_isend (He.ga K "Measure")) := by
  refine T.f_is_measure_or_none.ok sc_is_measure_or_none (fun vs H Q E h => ?_) (fun cdv A outer s H vs Q E hr h => ?_)
  · obtain ⟨v, m, rfl, hv, k⟩ := h; rfl
  · obtain ⟨v, m, rfl, hv, k⟩ := h
    refine ⟨_, PSs.nox (pss_one (ps_ret (pe_or (pe_cmpR op_isN (pv 0) pe_non (nomark _)) (pe_one (pe_callB (id := "isinstance") (isi (K := K)) (by rfl) T.z_isinstance (by decide +kernel) (pa_cons (pv 0) (pa_cons (pe_glob (v := .ref (He.ga K "Measure")) rfl T.g_Measure rfl) pa_nil))))))), ?_⟩
    refine ⟨_, rfl, rfl, _, rfl, ?_⟩
    cases m with
    | none => cases hv; exact iteT k
    | some a =>
      obtain ⟨p, rfl, dx, hp⟩ := hv
      refine iteF ?_
      exact ⟨_, rfl, _, _, _, _, true, rfl, .own _, tyM hp T.cl_Measure T.ii_Measure, T.k_Measure_Measure, k⟩
theorem ok_are_marks {P : Program} {w : World} {K : PySem.W.Frag} {mg : Str → Option Value} {base : Heap} {φ : Fds} (T : Txt K mg φ) : FnOk P w K mg base CX0 1 (He.fAd K ("are_marks", none)) φ.are_marks p_are_marks (sp_arem K (He.ga K "Measure")) := by
  refine T.f_are_marks.ok sc_are_marks (fun vs H Q E h => ?_) (fun cdv A outer s H vs Q E hr h => ?_)
  · obtain ⟨T', k, ps, zs, rfl, hT, hm, h0, h1, kk⟩ := h; rfl
  · obtain ⟨T', k, ps, zs, rfl, hT, hm, h0, h1, kk⟩ := h
    refine ⟨_, PSs.nox (pss_cons (ps_if (PW.pt (pw_or (pt_not (pt_val (pe_callB (id := "isinstance") (isi (K := K)) (by rfl) T.z_isinstance (by decide +kernel) (pa_cons (pv 0) (pa_cons (pe_bltn (v := .ty "tuple") rfl T.z_tuple (by decide +kernel) rfl) pa_nil))))) (pw_or1 (pt_not (pt_chain op_le op_le pe_int (pe_callB (id := "len") (lenS (K := K)) (by rfl) T.z_len PySem.boot_len (pa_cons (pv 0) pa_nil)) (C8.pe_gc (v := .int 24) rfl (T.v_MOST_MARKS.elim fun t e => ⟨_, e, ⟨t, rfl⟩⟩)))))))
      (pss_one (ps_ret pe_bl))
      pss_nil)
      (pss_one (ps_ret (pe_callB (id := "all") (allK (K := K)) (by rfl) T.z_all (by decide +kernel) (pa_cons (pe_lc (own := [("mark", 1)]) (g := gName 1) rfl sc_are_marks.nd (pi_tup (pv 0)) (blkOk_by (own := [("mark", 1)]) (N := N_are_marks) (sc := (defScope s_are_marks)) (by decide +kernel)) (fun _ _ _ _ _ => (pg_name (i := 1) sc_are_marks.nd rfl (Or.inl rfl))) (fun _ _ _ _ _ => pts_nil) (fun _ _ _ _ _ => (pe_callB (id := "isinstance") (isi (K := K)) (by rfl) T.z_isinstance (by decide +kernel) (pa_cons (pv 1) (pa_cons (pe_glob (v := .ref (He.ga K "Measure")) rfl T.g_Measure rfl) pa_nil))))) pa_nil))))), ?_⟩
    have el : ps.length = zs.length := hm.len
    refine ⟨_, rfl, _, _, _, _, _, rfl, .ty _, tyTup hT, kit_ty (r := true) (by decide +kernel), _, rfl, iteF ?_⟩
    walk_at "w"
    refine ⟨⟨_, hT⟩, fun D nD => ?_⟩
    refine lcz (n := ps.length) walk_tup (fun _ _ g s => s.sqt g) (List.replicate ps.length (some (V.bl true))) (by simp) (by rw [sizeLine_eq]; omega) hT nD (fun i x H1 H2 z N M hi hz s1 y hN hM => ?_) (fun H1 s1 hD => ?_)
    · obtain ⟨rfl, hx⟩ := y
      obtain ⟨p, z1, rfl, _, qz⟩ := (hm.same s1).of hx
      obtain ⟨⟨t, u, ⟨dx, hp⟩, _⟩, _⟩ := qz
      rw [List.getElem?_replicate, if_pos hi] at hz
      cases hz
      refine ⟨rfl, yesT ?_⟩
      exact ⟨_, rfl, _, _, _, _, _, rfl, .own _, tyM hp T.cl_Measure T.ii_Measure, T.k_Measure_Measure, hN _ _ rfl (Same.refl _)⟩
    have e : (List.replicate ps.length (some (V.bl true))).filterMap _root_.id = (List.replicate ps.length true).map V.bl := by
      generalize ps.length = n
      induction n with
      | zero => rfl
      | succ n ih => rw [List.replicate_succ, List.replicate_succ]; simpa using ih
    rw [e] at hD
    refine ⟨D, _, rfl, SqL.of hD, ?_⟩
    have e2 : (List.replicate ps.length true).all _root_.id = true := by
      generalize ps.length = n
      induction n with
      | zero => rfl
      | succ n ih => rw [List.replicate_succ]; simpa using ih
    rw [e2]
    exact kk _ s1
theorem ok_is_rule {P : Program} {w : World} {K : PySem.W.Frag} {mg : Str → Option Value} {base : Heap} {φ : Fds} (T : Txt K mg φ) : FnOk P w K mg base CX0 1 (He.fAd K ("is_rule", none)) φ.is_rule p_is_rule sp_isrule := by
  refine T.f_is_rule.ok sc_is_rule (fun vs H Q E h => ?_) (fun cdv A outer s H vs Q E hr h => ?_)
  · obtain ⟨r, rfl, hr', kk⟩ := h; rfl
  · obtain ⟨r, rfl, hr', kk⟩ := h
    refine ⟨_, PSs.nox (pss_one (ps_ret (pe_and (pe_callB (id := "isinstance") (isi (K := K)) (by rfl) T.z_isinstance (by decide +kernel) (pa_cons (pv 0) (pa_cons (pe_bltn (v := .ty "str") rfl T.z_str (by decide +kernel) rfl) pa_nil))) (pe_one (pe_cmpR (inK (K := K)) (pv 0) (pe_glob (v := .ref (He.ga K "RULES")) rfl T.g_RULES rfl) (by rfl)))))), ?_⟩
    refine ⟨_, rfl, _, _, _, _, _, rfl, .ty _, .base (.str _), kit_ty (r := true) (by decide +kernel), _, rfl, iteT ?_⟩
    refine ⟨_, rfl, _, _, rfl, .inr (T.tp_RULES H), rfl, rfl, ?_⟩
    have e : inV (.str r) (([Str.ofString "up", Str.ofString "down", Str.ofString "near"] : List Str).map V.str) = true := by
      rcases hr' with rfl | rfl | rfl <;> decide +kernel
    simp only [Bool.false_eq_true, if_false]
    rw [e]
    exact kk
theorem ok_is_span {P : Program} {w : World} {K : PySem.W.Frag} {mg : Str → Option Value} {base : Heap} {φ : Fds} (T : Txt K mg φ) : FnOk P w K mg base CX0 2 (He.fAd K ("is_span", none)) φ.is_span p_is_span (sp_span (He.ga K "Measure")) := by
  obtain ⟨_, B0v, B0⟩ := b_Measure_is_below_3 T
  refine T.f_is_span.ok sc_is_span (fun vs H Q E h => ?_) (fun cdv A outer s H vs Q E hr h => ?_)
  · obtain ⟨l, h, k, lo, hi, rfl, ql, qh, hk, kk⟩ := h; rfl
  · obtain ⟨l, h, k, lo, hi, rfl, ql, qh, hk, kk⟩ := h
    refine ⟨_, PSs.nox (pss_one (ps_ret (pe_or (pe_cmpR op_isN (pv 0) pe_non (nomark _)) (pe_or (pe_cmpR op_isN (pv 1) pe_non (nomark _)) (pe_one (pe_meth (pv 0) T.cl_Measure T.me_Measure_is_below (ok_Measure_is_below (K := K) T) (hr.mono (by decide)) B0 B0v pass0 (pa_cons (pv 1) (pa_cons pe_bl pa_nil)))))))), ?_⟩
    cases lo with
    | none =>
      cases ql
      walk_at "w"
      exact kk
    | some a =>
      obtain ⟨pl, rfl, qa⟩ := ql
      cases hi with
      | none =>
        cases qh
        walk_at "w"
        exact kk
      | some b =>
        obtain ⟨ph, rfl, qb⟩ := qh
        rw [span_leq] at kk
        walk_at "w"
        exact kk
theorem ok_Ladder_init {P : Program} {w : World} {K : PySem.W.Frag} {mg : Str → Option Value} {base : Heap} {φ : Fds} (T : Txt K mg φ) : FnOk P w K mg base CX0 3 (He.fAd K ("Ladder", some "__init__")) φ.Ladder_init p_Ladder_init (sp_linit K (He.ga K "Measure") (He.ga K "Ladder")) := by
  obtain ⟨_, B0v, B0⟩ := b_are_marks_1 T
  obtain ⟨_, B1v, B1⟩ := b_is_rule_1 T
  obtain ⟨_, B2v, B2⟩ := b_is_measure_or_none_1 T
  obtain ⟨_, B3v, B3⟩ := b_is_span_2 T
  obtain ⟨_, B4v, B4⟩ := b_slip_of_1 T
  refine T.f_Ladder_init.ok sc_Ladder_init (fun vs H Q E h => ?_) (fun cdv A outer s H vs Q E hr h => ?_)
  · obtain ⟨p, dx, T', k, ps, zs, r, l, h, lo, hi, rfl, hp, hT, hm, hk, h0, h1, hri, hru, ql, qh, hsp, kk⟩ := h; rfl
  · obtain ⟨p, dx, T', k, ps, zs, r, l, h, lo, hi, rfl, hp, hT, hm, hk, h0, h1, hri, hru, ql, qh, hsp, kk⟩ := h
    refine ⟨_, PSs.nox (pss_cons (ps_if (pt_not (pt_val (pe_call (ok_are_marks (K := K) T) (hr.mono (by decide)) rfl T.g_are_marks T.f_are_marks.kp B0 B0v pass0 (pa_cons (pv 1) pa_nil))))
      (pss_one ps_never)
      pss_nil)
      (pss_cons (ps_if (pt_not (pt_val (pe_call (ok_is_rule (K := K) T) (hr.mono (by decide)) rfl T.g_is_rule T.f_is_rule.kp B1 B1v pass0 (pa_cons (pv 2) pa_nil))))
      (pss_one ps_never)
      pss_nil)
      (pss_cons (ps_if (PW.pt (pw_or (pt_not (pt_val (pe_call (ok_is_measure_or_none (K := K) T) (hr.mono (by decide)) rfl T.g_is_measure_or_none T.f_is_measure_or_none.kp B2 B2v pass0 (pa_cons (pv 3) pa_nil)))) (pw_or1 (pt_not (pt_val (pe_call (ok_is_measure_or_none (K := K) T) (hr.mono (by decide)) rfl T.g_is_measure_or_none T.f_is_measure_or_none.kp B2 B2v pass0 (pa_cons (pv 4) pa_nil)))))))
      (pss_one ps_never)
      pss_nil)
      (pss_cons (ps_if (pt_not (pt_val (pe_call (ok_is_span (K := K) T) (hr.mono (by decide)) rfl T.g_is_span T.f_is_span.kp B3 B3v pass0 (pa_cons (pv 3) (pa_cons (pv 4) pa_nil)))))
      (pss_one ps_never)
      pss_nil)
      (pss_cons (ps_set (i := 5) sc_Ladder_init.nd rfl (Or.inl rfl) (pe_call (ok_slip_of (K := K) T) (hr.mono (by decide)) rfl T.g_slip_of T.f_slip_of.kp B4 B4v pass0 (pa_cons (pv 1) pa_nil)))
      (pss_cons (ps_if (pt_cmpR op_notN (pv 5) pe_non (nomark _))
      (pss_one ps_never)
      pss_nil)
      (pss_cons (ps_fld (pv 0) (pv 1) rfl)
      (pss_cons (ps_fld (pv 0) (pv 2) rfl)
      (pss_cons (ps_fld (pv 0) (pv 3) rfl)
      (pss_one (ps_fld (pv 0) (pv 4) rfl))))))))))), ?_⟩
    obtain ⟨mlo, mql, _, _⟩ := ql.low hk
    obtain ⟨mhi, mqh, _, _⟩ := qh.low hk
    have cl_Ladder := T.cl_Ladder
    have na_Ladder_marks := T.na_Ladder_marks
    have na_Ladder_rule := T.na_Ladder_rule
    have na_Ladder_least := T.na_Ladder_least
    have na_Ladder_most := T.na_Ladder_most
    
    walk_at "w"
    refine ⟨zs, rfl, hT, hm, h0, h1, fun H1 s1 => ?_⟩
    walk_at "w"
    refine ⟨mlo, rfl, mql.same s1, ?_⟩
    walk_at "w"
    refine ⟨mhi, rfl, mqh.same s1, ?_⟩
    have hT1 := s1.sqt hT
    have hm1 := hm.same s1
    replace ql := ql.same s1
    replace qh := qh.same s1
    have hp1 := s1 _ _ hp
    walk_at "w"
    refine ⟨lo, hi, rfl, ql, qh, by omega, ?_⟩
    rw [hsp]
    walk_at "w"
    refine ⟨zs, rfl, hT1, hm1, by omega, by omega, fun o ho => ?_⟩
    have eo : o = none := by
      cases o with
      | none => rfl
      | some n =>
        obtain ⟨n1, n2, n3, _⟩ := ho
        obtain ⟨a, ha⟩ := ge2 (zs := zs) (n := n - 1) (by omega)
        obtain ⟨b, hb⟩ := ge2 (zs := zs) (n := n) n2
        have z1 := n3 a b ha hb
        have z2 := hri (n - 1) a b ha (by rw [Nat.sub_add_cancel n1]; exact hb)
        rw [z1] at z2
        cases z2
    subst eo
    walk_at "w"
    refine ⟨by show 0 < 1000; decide, ?_⟩
    refine ⟨_, rfl, _, rfl, p, _, dx, _, rfl, upd_same, cl_Ladder, na_Ladder_rule, by show 1 < 1000; decide, ?_⟩
    refine ⟨_, rfl, _, rfl, p, _, dx, _, rfl, upd_same, cl_Ladder, na_Ladder_least, by show 2 < 1000; decide, ?_⟩
    refine ⟨_, rfl, _, rfl, p, _, dx, _, rfl, upd_same, cl_Ladder, na_Ladder_most, by show 3 < 1000; decide, ?_⟩
    refine kk _ ?_ fun c o ec nc => ?_
    · rw [upd_same, lf_put]
    · rw [upd_ne nc, upd_ne nc, upd_ne nc, upd_ne nc]
      exact s1 _ _ ec
theorem ok_Measure_plus {P : Program} {w : World} {K : PySem.W.Frag} {mg : Str → Option Value} {base : Heap} {φ : Fds} (T : Txt K mg φ) : FnOk P w K mg base CX0 4 (He.fAd K ("Measure", some "plus")) φ.Measure_plus p_Measure_plus (sp_bin2 (He.ga K "Measure") (fun t u t' u' => t * u' + t' * u) (fun t u t' u' => u * u')) := by
  obtain ⟨_, B0v, B0⟩ := b_Measure_init_3 T
  refine T.f_Measure_plus.ok sc_Measure_plus (fun vs H Q E h => ?_) (fun cdv A outer s H vs Q E hr h => ?_)
  · obtain ⟨p, q, t, u, t', u', rfl, ⟨dp, hp⟩, ⟨dq, hq⟩, hu, hu', st, su, st', su', sg, k⟩ := h; rfl
  · obtain ⟨p, q, t, u, t', u', rfl, ⟨dp, hp⟩, ⟨dq, hq⟩, hu, hu', st, su, st', su', sg, k⟩ := h
    refine ⟨_, PSs.nox (pss_one (ps_ret (pe_make T.mk_Measure (ok_Measure_init (K := K) T) (hr.mono (by decide)) rfl T.g_Measure B0 B0v pass0 (pa_cons (pe_op op_add (pe_op op_mulA (fldK (K := K) (pv 0) rfl) (fldK (K := K) (pv 1) rfl)) (pe_op op_mulA (fldK (K := K) (pv 1) rfl) (fldK (K := K) (pv 0) rfl))) (pa_cons (pe_op op_mulA (fldK (K := K) (pv 0) rfl) (fldK (K := K) (pv 1) rfl)) pa_nil))))), ?_⟩
    refine ⟨_, rfl, _, _, _, _, _, rfl, hp, T.cl_Measure, T.na_Measure_top, mf_top _ _, _, rfl, _, _, _, _, _, rfl, hq, T.cl_Measure, T.na_Measure_bottom, mf_bottom _ _, _, _, rfl, rfl, st.cmul su' (by decide) (by decide) (by decide), _, rfl, _, _, _, _, _, rfl, hq, T.cl_Measure, T.na_Measure_top, mf_top _ _, _, rfl, _, _, _, _, _, rfl, hp, T.cl_Measure, T.na_Measure_bottom, mf_bottom _ _, _, _, rfl, rfl, st'.cmul su (by decide) (by decide) (by decide), _, _, rfl, rfl, _, rfl, _, _, _, _, _, rfl, hp, T.cl_Measure, T.na_Measure_bottom, mf_bottom _ _, _, rfl, _, _, _, _, _, rfl, hq, T.cl_Measure, T.na_Measure_bottom, mf_bottom _ _, _, _, rfl, rfl, su.cmul su' (by decide) (by decide) (by decide), ?_⟩
    intro x dx nx nd ne
    refine ⟨x, dx, _, _, rfl, upd_same, Int.mul_ne_zero (by omega) (by omega), sg.log (by decide) (by decide), fun t2 u2 H' fr hx kp => ⟨rfl, ?_⟩⟩
    exact k x t2 u2 H' nx (made_same nx nd kp) ⟨_, hx⟩ fr
theorem ok_Measure_parted {P : Program} {w : World} {K : PySem.W.Frag} {mg : Str → Option Value} {base : Heap} {φ : Fds} (T : Txt K mg φ) : FnOk P w K mg base CX0 4 (He.fAd K ("Measure", some "parted")) φ.Measure_parted p_Measure_parted (sp_part2 (He.ga K "Measure")) := by
  obtain ⟨_, B0v, B0⟩ := b_Measure_init_3 T
  refine T.f_Measure_parted.ok sc_Measure_parted (fun vs H Q E h => ?_) (fun cdv A outer s H vs Q E hr h => ?_)
  · obtain ⟨p, t, u, m, rfl, ⟨dp, hp⟩, hu, hm, st, su, sm, sg, k⟩ := h; rfl
  · obtain ⟨p, t, u, m, rfl, ⟨dp, hp⟩, hu, hm, st, su, sm, sg, k⟩ := h
    refine ⟨_, PSs.nox (pss_one (ps_ret (pe_make T.mk_Measure (ok_Measure_init (K := K) T) (hr.mono (by decide)) rfl T.g_Measure B0 B0v pass0 (pa_cons (fldK (K := K) (pv 0) rfl) (pa_cons (pe_op op_mulA (fldK (K := K) (pv 0) rfl) (pv 1)) pa_nil))))), ?_⟩
    refine ⟨_, rfl, _, _, _, _, _, rfl, hp, T.cl_Measure, T.na_Measure_top, mf_top _ _, _, rfl, _, _, _, _, _, rfl, hp, T.cl_Measure, T.na_Measure_bottom, mf_bottom _ _, _, rfl, _, _, rfl, rfl, su.cmul sm (by decide) (by decide) (by decide), ?_⟩
    intro x dx nx nd ne
    refine ⟨x, dx, _, _, rfl, upd_same, Int.mul_ne_zero (by omega) hm, sg.log (by decide) (by decide), fun t2 u2 H' fr hx kp => ⟨rfl, ?_⟩⟩
    exact k x t2 u2 H' nx (made_same nx nd kp) ⟨_, hx⟩ fr
theorem ok_midsts_of {P : Program} {w : World} {K : PySem.W.Frag} {mg : Str → Option Value} {base : Heap} {φ : Fds} (T : Txt K mg φ) : FnOk P w K mg base CX0 5 (He.fAd K ("midsts_of", none)) φ.midsts_of p_midsts_of (sp_mids K (He.ga K "Measure")) := by
  obtain ⟨_, B0v, B0⟩ := b_Measure_parted_1 T
  obtain ⟨_, B1v, B1⟩ := b_Measure_plus_2 T
  refine T.f_midsts_of.ok sc_midsts_of (fun vs H Q E h => ?_) (fun cdv A outer s H vs Q E hr h => ?_)
  · obtain ⟨T', k, ps, zs, rfl, hT, hm, h0, h1, l0, l1, kk⟩ := h; rfl
  · obtain ⟨T', k, ps, zs, rfl, hT, hm, h0, h1, l0, l1, kk⟩ := h
    refine ⟨_, PSs.nox (pss_one (ps_ret (pe_lc (own := [("at", 1)]) (g := gName 1) rfl sc_midsts_of.nd (pi_range2 rfl T.z_range (pa_cons pe_int (pa_cons (pe_callB (id := "len") (lenS (K := K)) (by rfl) T.z_len PySem.boot_len (pa_cons (pv 0) pa_nil)) pa_nil))) (blkOk_by (own := [("at", 1)]) (N := N_midsts_of) (sc := (defScope s_midsts_of)) (by decide +kernel)) (fun _ _ _ _ _ => (pg_name (i := 1) sc_midsts_of.nd rfl (Or.inl rfl))) (fun _ _ _ _ _ => pts_nil) (fun _ _ _ _ _ => (pe_meth0 (pe_meth (pe_ix (ixt (K := K)) (pv 0) (pe_op op_sub (pv 1) pe_int) (fun _ _ => rfl)) T.cl_Measure T.me_Measure_plus (ok_Measure_plus (K := K) T) (hr.mono (by decide)) B1 B1v pass0 (pa_cons (pe_ix (ixt (K := K)) (pv 0) (pv 1) (fun _ _ => rfl)) pa_nil)) T.cl_Measure T.me_Measure_parted (ok_Measure_parted (K := K) T) (hr.mono (by decide)) B0 B0v pass0))))), ?_⟩
    have el : ps.length = zs.length := hm.len
    walk_at "w"
    intro D nD
    refine lcr walk_range (fun _ _ _ _ => trivial) (fun i H v => ∃ p z, v = .ref p ∧ (midq zs)[i]? = some z ∧ QAt (He.ga K "Measure") H p (k + k + 1 + 10 + 1) z) (fun i H H' y ⟨p, z, e1, e2, q⟩ n => ⟨p, z, e1, e2, q.nl n⟩) (by rw [sizeLine_eq]; omega) trivial nD (fun i x H1 H2 N M hi s1 y hN => ?_) (fun H1 ys s1 hD ly hy => ?_)
    · obtain ⟨rfl, rfl⟩ := y
      obtain ⟨a, ha⟩ := ge2 (zs := zs) (n := i) (by omega)
      obtain ⟨b, hb⟩ := ge2 (zs := zs) (n := i + 1) (by omega)
      obtain ⟨p, ep, qp⟩ := (hm.same s1).at ha
      obtain ⟨q, eq, qq⟩ := (hm.same s1).at hb
      have hT1 := s1.sqt hT
      refine ⟨rfl, yesT ?_⟩
      walk_at "w"
      refine ⟨atI_of (n := i) (by omega) ep, ?_⟩
      walk_at "w"
      refine ⟨atI_of (n := i + 1) (by omega) eq, q_addT qp qq (by omega) h0 h0 fun r H3 s3 R => ?_⟩
      refine meth_q R (by decide +kernel) (by decide +kernel) (q_prt2T R (by omega) (by omega) fun r2 H4 s4 R2 => ?_)
      exact hN _ _ (s3.trans s4) ⟨r2, qhalf a b, rfl, midq_get zs i a b ha hb, R2⟩
    refine kk D ys H1 s1 hD ⟨?_, fun i v z h1 h2 => ?_⟩
    · rw [midq_len, ly]; omega
    · obtain ⟨p, z', e1, e2, q⟩ := hy i v h1
      rw [h2] at e2
      cases e2
      exact ⟨p, e1, q⟩
theorem ok_size_by_rule {P : Program} {w : World} {K : PySem.W.Frag} {mg : Str → Option Value} {base : Heap} {φ : Fds} (T : Txt K mg φ) : FnOk P w K mg base CX0 6 (He.fAd K ("size_by_rule", none)) φ.size_by_rule p_size_by_rule (sp_sizeR K (He.ga K "Measure")) := by
  obtain ⟨_, B0v, B0⟩ := b_Measure_is_below_2 T
  obtain ⟨_, B1v, B1⟩ := b_Measure_is_below_3 T
  obtain ⟨_, B2v, B2⟩ := b_midsts_of_1 T
  refine T.f_size_by_rule.ok sc_size_by_rule (fun vs H Q E h => ?_) (fun cdv A outer s H vs Q E hr h => ?_)
  · obtain ⟨T', q, k, ps, zs, r, x, rfl, hT, hm, qx, h0, h1, l0, l1, kk⟩ := h; rfl
  · obtain ⟨T', q, k, ps, zs, r, x, rfl, hT, hm, qx, h0, h1, l0, l1, kk⟩ := h
    refine ⟨_, PSs.nox (pss_cons (ps_if (pt_cmpR op_eq (pv 1) pe_str (nomark _))
      (pss_one (ps_ret (pe_callB (id := "len") (lenS (K := K)) (by rfl) T.z_len PySem.boot_len (pa_cons (pe_lc (own := [("mark", 3)]) (g := gName 3) rfl sc_size_by_rule.nd (pi_tup (pv 0)) (blkOk_by (own := [("mark", 3)]) (N := N_size_by_rule) (sc := (defScope s_size_by_rule)) (by decide +kernel)) (fun _ _ _ _ _ => (pg_name (i := 3) sc_size_by_rule.nd rfl (Or.inl rfl))) (fun _ _ _ _ _ => (pts_one (pt_val (pe_meth (pv 3) T.cl_Measure T.me_Measure_is_below (ok_Measure_is_below (K := K) T) (hr.mono (by decide)) B0 B0v pass0 (pa_cons (pv 2) pa_nil))))) (fun _ _ _ _ _ => (pv 3))) pa_nil))))
      pss_nil)
      (pss_cons (ps_if (pt_cmpR op_eq (pv 1) pe_str (nomark _))
      (pss_one (ps_ret (pe_op op_sub (pe_callB (id := "len") (lenS (K := K)) (by rfl) T.z_len PySem.boot_len (pa_cons (pe_lc (own := [("mark", 3)]) (g := gName 3) rfl sc_size_by_rule.nd (pi_tup (pv 0)) (blkOk_by (own := [("mark", 3)]) (N := N_size_by_rule) (sc := (defScope s_size_by_rule)) (by decide +kernel)) (fun _ _ _ _ _ => (pg_name (i := 3) sc_size_by_rule.nd rfl (Or.inl rfl))) (fun _ _ _ _ _ => (pts_one (pt_val (pe_meth (pv 3) T.cl_Measure T.me_Measure_is_below (ok_Measure_is_below (K := K) T) (hr.mono (by decide)) B1 B1v pass0 (pa_cons (pv 2) (pa_cons pe_bl pa_nil)))))) (fun _ _ _ _ _ => (pv 3))) pa_nil)) pe_int)))
      pss_nil)
      (pss_one (ps_ret (pe_callB (id := "len") (lenS (K := K)) (by rfl) T.z_len PySem.boot_len (pa_cons (pe_lc (own := [("midst", 4)]) (g := gName 4) rfl sc_size_by_rule.nd (pi_list (pe_call (ok_midsts_of (K := K) T) (hr.mono (by decide)) rfl T.g_midsts_of T.f_midsts_of.kp B2 B2v pass0 (pa_cons (pv 0) pa_nil))) (blkOk_by (own := [("midst", 4)]) (N := N_size_by_rule) (sc := (defScope s_size_by_rule)) (by decide +kernel)) (fun _ _ _ _ _ => (pg_name (i := 4) sc_size_by_rule.nd rfl (Or.inl rfl))) (fun _ _ _ _ _ => (pts_one (pt_val (pe_meth (pv 4) T.cl_Measure T.me_Measure_is_below (ok_Measure_is_below (K := K) T) (hr.mono (by decide)) B1 B1v pass0 (pa_cons (pv 2) (pa_cons pe_bl pa_nil)))))) (fun _ _ _ _ _ => (pv 4))) pa_nil)))))), ?_⟩
    have el : ps.length = zs.length := hm.len
    have fin : ∀ z H', z = sizeR zs r x → Same H H' → Q (.int z) H' := fun z H' e s => by rw [e]; exact kk H' s
    refine ⟨_, rfl, rfl, _, rfl, ?_⟩
    refine ite2 (fun e => ?_) (fun e => ?_)
    · have er : r = "up" := V.str.inj (of_decide_eq_true e)
      walk_at "w"
      refine ⟨⟨_, hT⟩, fun D nD => ?_⟩
      refine lcz (n := ps.length) walk_tup (fun _ _ g s => s.sqt g) (List.zipWith (fun (p : V) (z : Q2) => if ltq z x then some p else none) ps zs) (by rw [List.length_zipWith]; omega) (by rw [sizeLine_eq]; omega) hT nD (fun i v H1 H2 z N M hi hz s1 y hN hM => ?_) (fun H1 s1 hD => ?_)
      · obtain ⟨rfl, hx⟩ := y
        obtain ⟨p, z1, rfl, hz1, qz⟩ := (hm.same s1).of hx
        have ez := zipF_get (f := fun z => ltq z x) hx hz1 hz
        have qx1 := qx.same s1
        refine ⟨rfl, ?_⟩
        walk_at "w"
        show if ltq z1 x = true then _ else _
        cases e : ltq z1 x with
        | true => exact iteT ⟨_, rfl, hN _ _ (by simp [ez, e]) (Same.refl _)⟩
        | false => exact iteF (hM _ (by simp [ez, e]) (Same.refl _))
      have el2 := zipF_len (f := fun z => ltq z x) hm.len
    
      walk_at "w"
      refine fin _ _ ?_ s1
      unfold sizeR
      rw [if_pos er, el2]
    have er : ¬ r = "up" := fun z => e (decide_eq_true (congrArg V.str z))
    refine ⟨_, rfl, rfl, _, rfl, ?_⟩
    refine ite2 (fun e => ?_) (fun e => ?_)
    · have er2 : r = "down" := V.str.inj (of_decide_eq_true e)
      walk_at "w"
      refine ⟨⟨_, hT⟩, fun D nD => ?_⟩
      refine lcz (n := ps.length) walk_tup (fun _ _ g s => s.sqt g) (List.zipWith (fun (p : V) (z : Q2) => if leq z x then some p else none) ps zs) (by rw [List.length_zipWith]; omega) (by rw [sizeLine_eq]; omega) hT nD (fun i v H1 H2 z N M hi hz s1 y hN hM => ?_) (fun H1 s1 hD => ?_)
      · obtain ⟨rfl, hx⟩ := y
        obtain ⟨p, z1, rfl, hz1, qz⟩ := (hm.same s1).of hx
        have ez := zipF_get (f := fun z => leq z x) hx hz1 hz
        have qx1 := qx.same s1
        refine ⟨rfl, ?_⟩
        walk_at "w"
        show if leq z1 x = true then _ else _
        cases e : leq z1 x with
        | true => exact iteT ⟨_, rfl, hN _ _ (by simp [ez, e]) (Same.refl _)⟩
        | false => exact iteF (hM _ (by simp [ez, e]) (Same.refl _))
      have el2 := zipF_len (f := fun z => leq z x) hm.len
    
      walk_at "w"
      refine fin _ _ ?_ s1
      unfold sizeR
      rw [if_neg er, if_pos er2, el2]
    have er2 : ¬ r = "down" := fun z => e (decide_eq_true (congrArg V.str z))
    refine ⟨_, rfl, T', k, ps, zs, rfl, hT, hm, h0, h1, l0, l1, fun D2 ys H0 s0 hD0 hm0 => ?_⟩
    have len0 : ys.length ≤ 24 := by rw [hm0.len, midq_len]; omega
    have qx0 := qx.same s0
    refine ⟨D2, rfl, ⟨_, SqL.of hD0⟩, fun D nD => ?_⟩
    refine lcz (n := ys.length) walk_list (fun _ _ g s => s.seq g) (List.zipWith (fun (p : V) (z : Q2) => if leq z x then some p else none) ys (midq zs)) (by rw [List.length_zipWith, hm0.len, Nat.min_self]) (by rw [sizeLine_eq]; omega) (SqL.of hD0) nD (fun i v H1 H2 z N M hi hz s1 y hN hM => ?_) (fun H1 s1 hD => ?_)
    · obtain ⟨rfl, hx⟩ := y
      obtain ⟨p, z1, rfl, hz1, qz⟩ := (hm0.same s1).of hx
      have ez := zipF_get (f := fun z => leq z x) hx hz1 hz
      have qx1 := qx0.same s1
      refine ⟨rfl, ?_⟩
      walk_at "w"
      show if leq z1 x = true then _ else _
      cases e : leq z1 x with
      | true => exact iteT ⟨_, rfl, hN _ _ (by simp [ez, e]) (Same.refl _)⟩
      | false => exact iteF (hM _ (by simp [ez, e]) (Same.refl _))
    have el2 := zipF_len (f := fun z => leq z x) hm0.len
    walk_at "w"
    refine fin _ _ ?_ (s0.trans s1)
    unfold sizeR
    rw [if_neg er, if_neg er2, el2]
theorem ok_Ladder_size {P : Program} {w : World} {K : PySem.W.Frag} {mg : Str → Option Value} {base : Heap} {φ : Fds} (T : Txt K mg φ) : FnOk P w K mg base CX0 7 (He.fAd K ("Ladder", some "size")) φ.Ladder_size p_Ladder_size (sp_size K (He.ga K "Measure") (He.ga K "Ladder")) := by
  obtain ⟨_, B0v, B0⟩ := b_Measure_is_below_2 T
  obtain ⟨_, B1v, B1⟩ := b_size_by_rule_3 T
  refine T.f_Ladder_size.ok sc_Ladder_size (fun vs H Q E h => ?_) (fun cdv A outer s H vs Q E hr h => ?_)
  · obtain ⟨p, q, k, zs, r, lo, hi, x, rfl, hL, qx, h0, h1, kk⟩ := h; rfl
  · obtain ⟨p, q, k, zs, r, lo, hi, x, rfl, hL, qx, h0, h1, kk⟩ := h
    refine ⟨_, PSs.nox (pss_cons (ps_cut (ps_if (PW.pt (pw_and (pt_cmpR op_notN (fldK (K := K) (pv 0) rfl) pe_non (nomark _)) (pw_and1 (pt_val (pe_meth (pv 1) T.cl_Measure T.me_Measure_is_below (ok_Measure_is_below (K := K) T) (hr.mono (by decide)) B0 B0v pass0 (pa_cons (fldK (K := K) (pv 0) rfl) pa_nil))))))
      (pss_one (ps_ret pe_non))
      pss_nil))
      (pss_cons (ps_cut (ps_if (PW.pt (pw_and (pt_cmpR op_notN (fldK (K := K) (pv 0) rfl) pe_non (nomark _)) (pw_and1 (pt_val (pe_meth (fldK (K := K) (pv 0) rfl) T.cl_Measure T.me_Measure_is_below (ok_Measure_is_below (K := K) T) (hr.mono (by decide)) B0 B0v pass0 (pa_cons (pv 1) pa_nil))))))
      (pss_one (ps_ret pe_non))
      pss_nil))
      (pss_cons (ps_set (i := 2) sc_Ladder_size.nd rfl (Or.inl rfl) (pe_call (ok_size_by_rule (K := K) T) (hr.mono (by decide)) rfl T.g_size_by_rule T.f_size_by_rule.kp B1 B1v pass0 (pa_cons (fldK (K := K) (pv 0) rfl) (pa_cons (fldK (K := K) (pv 0) rfl) (pa_cons (pv 1) pa_nil)))))
      (pss_cons (ps_if (pt_chain op_le op_lt pe_int (pv 2) (pe_callB (id := "len") (lenS (K := K)) (by rfl) T.z_len PySem.boot_len (pa_cons (fldK (K := K) (pv 0) rfl) pa_nil)))
      (pss_one (ps_ret (pv 2)))
      pss_nil)
      (pss_one (ps_ret pe_non)))))), ?_⟩
    have cl_Ladder := T.cl_Ladder
    have na_Ladder_marks := T.na_Ladder_marks
    have na_Ladder_rule := T.na_Ladder_rule
    have na_Ladder_least := T.na_Ladder_least
    have na_Ladder_most := T.na_Ladder_most
    
    obtain ⟨⟨dx, T', ps, l, h, hp, hT, hm, ql, qh⟩, l0, l1, hri, hru, hsp⟩ := hL
    have fin : ∀ o H', o = sizeQ zs r lo hi x → Same H H' → Q (optI o) H' := fun z H' e s => by rw [e]; exact kk H' s
    refine ⟨fun σ' H' => σ' = [some (.ref p), some (.ref q), none] ∧ H' = H ∧ loOk lo x = true, ?_, ?_⟩
    · cases lo with
      | none =>
        cases ql
        walk_at "w"
        walk_at "e"
      | some a =>
        obtain ⟨pl, rfl, qa⟩ := ql
        walk_at "w"
        refine ite2 (fun e => ?_) (fun e => ?_)
        · exact fin none _ (sizeQ_out (inO_lo e)) (Same.refl _)
        · exact ⟨rfl, rfl, by show (!ltq x a) = true; simpa using e⟩
    rintro σ' H' ⟨rfl, rfl, hlo⟩
    refine ⟨fun σ' H'' => σ' = [some (.ref p), some (.ref q), none] ∧ H'' = H' ∧ hiOk hi x = true, ?_, ?_⟩
    · cases hi with
      | none =>
        cases qh
        walk_at "w"
        walk_at "e"
      | some a =>
        obtain ⟨pl, rfl, qa⟩ := qh
        walk_at "w"
        refine ite2 (fun e => ?_) (fun e => ?_)
        · exact fin none _ (sizeQ_out (inO_hi e)) (Same.refl _)
        · exact ⟨rfl, rfl, by show (!ltq a x) = true; simpa using e⟩
    rintro σ' H'' ⟨rfl, rfl, hhi⟩
    have hin : inO lo hi x = true := by unfold inO; rw [hlo, hhi]; rfl
    walk_at "w"
    refine ⟨zs, _, x, rfl, hT, hm, qx, h0, h1, l0, l1, fun H1 s1 => ?_⟩
    have hp1 := s1 _ _ hp
    have hT1 := s1.sqt hT
    have el : ps.length = zs.length := hm.len
    have e0 : sizeQ zs r lo hi x = if 0 ≤ sizeR zs r x ∧ sizeR zs r x < zs.length then some (sizeR zs r x).toNat else none := by
      unfold sizeQ
      rw [if_pos hin]
    walk_at "w"
    by_cases c1 : 0 ≤ sizeR zs r x
    · walk_at "w"
      by_cases c2 : sizeR zs r x < zs.length
      · walk_at "w"
        have e1 : sizeQ zs r lo hi x = some (sizeR zs r x).toNat := by rw [e0, if_pos ⟨c1, c2⟩]
        have z : Q (.int ((sizeR zs r x).toNat : Int)) H1 := fin _ H1 e1.symm s1
        rw [Int.toNat_of_nonneg c1] at z
        exact z
      · walk_at "w"
        refine fin none _ ?_ s1
        rw [e0, if_neg (fun z => c2 z.2)]
    · walk_at "w"
      refine fin none _ ?_ s1
      rw [e0, if_neg (fun z => c1 z.1)]
theorem ok_Measure_eq {P : Program} {w : World} {K : PySem.W.Frag} {mg : Str → Option Value} {base : Heap} {φ : Fds} (T : Txt K mg φ) : FnOk P w K mg base CX0 1 (He.fAd K ("Measure", some "__eq__")) φ.Measure_eq p_Measure_eq (sp_meq (He.ga K "Measure")) := by
  refine T.f_Measure_eq.ok sc_Measure_eq (fun vs H Q E h => ?_) (fun cdv A outer s H vs Q E hr h => ?_)
  · obtain ⟨p, q, a, b, rfl, ⟨dp, hp⟩, ⟨dq, hq⟩, k⟩ := h; rfl
  · obtain ⟨p, q, a, b, rfl, ⟨dp, hp⟩, ⟨dq, hq⟩, k⟩ := h
    refine ⟨_, PSs.nox (pss_one (ps_ret (pe_and (pe_callB (id := "isinstance") (isi (K := K)) (by rfl) T.z_isinstance (by decide +kernel) (pa_cons (pv 1) (pa_cons (pe_glob (v := .ref (He.ga K "Measure")) rfl T.g_Measure rfl) pa_nil))) (pe_and (pe_cmpR op_eq (fldK (K := K) (pv 0) rfl) (fldK (K := K) (pv 1) rfl) (nomark _)) (pe_one (pe_cmpR op_eq (fldK (K := K) (pv 0) rfl) (fldK (K := K) (pv 1) rfl) (nomark _))))))), ?_⟩
    refine ⟨_, rfl, _, _, _, _, true, rfl, .own _, tyM hq T.cl_Measure T.ii_Measure, T.k_Measure_Measure, _, rfl, iteT ?_⟩
    refine ⟨_, rfl, _, _, _, _, _, rfl, hp, T.cl_Measure, T.na_Measure_top, mf_top _ _, _, rfl, _, _, _, _, _, rfl, hq, T.cl_Measure, T.na_Measure_top, mf_top _ _, rfl, _, rfl, ?_⟩
    rw [dI]
    refine ite2 (fun e => ?_) (fun e => ?_)
    · rw [e] at k
      refine ⟨_, rfl, _, _, _, _, _, rfl, hp, T.cl_Measure, T.na_Measure_bottom, mf_bottom _ _, _, rfl, _, _, _, _, _, rfl, hq, T.cl_Measure, T.na_Measure_bottom, mf_bottom _ _, rfl, ?_⟩
      rw [dI]
      exact k
    · rw [isTrueN e] at k
      exact k
theorem ok_is_empty {P : Program} {w : World} {K : PySem.W.Frag} {mg : Str → Option Value} {base : Heap} {φ : Fds} (T : Txt K mg φ) : FnOk P w K mg base CX0 2 (He.fAd K ("is_empty", none)) φ.is_empty p_is_empty (sp_empty (He.ga K "Measure")) := by
  obtain ⟨_, B0v, B0⟩ := b_Measure_eq_2 T
  obtain ⟨_, B1v, B1⟩ := b_Measure_is_below_2 T
  refine T.f_is_empty.ok sc_is_empty (fun vs H Q E h => ?_) (fun cdv A outer s H vs Q E hr h => ?_)
  · obtain ⟨l, h, lo, hi, li, hj, rfl, ml, mh, l1, l2, k⟩ := h; rfl
  · obtain ⟨l, h, lo, hi, li, hj, rfl, ml, mh, l1, l2, k⟩ := h
    refine ⟨_, PSs.nox (pss_cons (ps_if (PW.pt (pw_or (pt_cmpR op_isN (pv 0) pe_non (nomark _)) (pw_or1 (pt_cmpR op_isN (pv 1) pe_non (nomark _)))))
      (pss_one (ps_ret pe_bl))
      pss_nil)
      (pss_cons (ps_if (pt_cmpR (op_eqI (ok_Measure_eq T) (hr.mono (by decide)) T.me_Measure_eq B0 B0v pass0) (pv 0) (pv 1) (nomark _))
      (pss_one (ps_ret (pe_not (pe_cut (pe_and (pv 2) (pe_one (pv 3)))))))
      pss_nil)
      (pss_one (ps_ret (pe_meth (pv 1) T.cl_Measure T.me_Measure_is_below (ok_Measure_is_below (K := K) T) (hr.mono (by decide)) B1 B1v pass0 (pa_cons (pv 0) pa_nil)))))), ?_⟩
    refine ⟨_, rfl, rfl, _, rfl, ?_⟩
    cases lo with
    | none =>
      cases ml
      exact iteT (iteT k)
    | some a =>
      have ml0 := ml
      obtain ⟨p, rfl, dp, hp⟩ := ml
      refine iteF ?_
      refine ⟨_, rfl, rfl, _, rfl, ?_⟩
      cases hi with
      | none =>
        cases mh
        exact iteT k
      | some b =>
        obtain ⟨q, rfl, dq, hq⟩ := mh
        refine iteF ?_
        have k : Q (.bl (!(ltq a b || (eqq a b && li && hj)))) H := k
        refine ⟨_, rfl, _, rfl, p, q, _, _, _, _, rfl, rfl, hp, hq, p, q, a, b, rfl, ⟨_, hp⟩, ⟨_, hq⟩, _, rfl, ?_⟩
        rw [low_eqq l1 l2]
        refine ite2 (fun e => ?_) (fun e => ?_)
        · refine ⟨fun v H' => H = H' ∧ v = .bl (li && hj), ?_, ?_⟩
          · refine ⟨_, rfl, _, rfl, ?_⟩
            cases li with
            | true => exact iteT ⟨_, rfl, rfl, rfl⟩
            | false => exact iteF ⟨rfl, rfl⟩
          rintro v H' ⟨rfl, rfl⟩
          refine ⟨_, rfl, ?_⟩
          rcases lt_tri a b with ⟨h1, h2, h3⟩ | ⟨h1, h2, h3⟩ | ⟨h1, h2, h3⟩
          · rw [h2] at e; cases e
          · rw [h1, h2] at k
            exact k
          · rw [h2] at e; cases e
        · refine ⟨_, rfl, q, _, _, rfl, hq, mf_no _ _ (by decide +kernel) (by decide +kernel), _, rfl, q, p, b.1, b.2, a.1, a.2, false, rfl, ⟨_, hq⟩, ⟨_, hp⟩, l2.s1.mono (by decide), l2.s2.mono (by decide), l1.s1.mono (by decide), l1.s2.mono (by decide), ?_⟩
          have e3 : lessA b.1 b.2 a.1 a.2 false = ltq b a := by unfold lessA ltq; simp
          rw [e3]
          rcases lt_tri a b with ⟨h1, h2, h3⟩ | ⟨h1, h2, h3⟩ | ⟨h1, h2, h3⟩
          · rw [h3]; rw [h1] at k; exact k
          · exact absurd h2 e
          · rw [h3]; rw [h1, h2] at k; exact k
theorem ok_Stretch_init {P : Program} {w : World} {K : PySem.W.Frag} {mg : Str → Option Value} {base : Heap} {φ : Fds} (T : Txt K mg φ) : FnOk P w K mg base CX0 3 (He.fAd K ("Stretch", some "__init__")) φ.Stretch_init p_Stretch_init (sp_sinit (He.ga K "Measure") (He.ga K "Stretch")) := by
  obtain ⟨_, B0v, B0⟩ := b_is_measure_or_none_1 T
  obtain ⟨_, B1v, B1⟩ := b_is_empty_4 T
  refine T.f_Stretch_init.ok sc_Stretch_init (fun vs H Q E h => ?_) (fun cdv A outer s H vs Q E hr h => ?_)
  · obtain ⟨p, dx, l, h, lo, hi, li, hj, rfl, hp, ml, mh, l1, l2, so, k⟩ := h; rfl
  · obtain ⟨p, dx, l, h, lo, hi, li, hj, rfl, hp, ml, mh, l1, l2, so, k⟩ := h
    refine ⟨_, PSs.nox (pss_cons (ps_if (PW.pt (pw_or (pt_not (pt_val (pe_call (ok_is_measure_or_none (K := K) T) (hr.mono (by decide)) rfl T.g_is_measure_or_none T.f_is_measure_or_none.kp B0 B0v pass0 (pa_cons (pv 1) pa_nil)))) (pw_or1 (pt_not (pt_val (pe_call (ok_is_measure_or_none (K := K) T) (hr.mono (by decide)) rfl T.g_is_measure_or_none T.f_is_measure_or_none.kp B0 B0v pass0 (pa_cons (pv 2) pa_nil)))))))
      (pss_one ps_never)
      pss_nil)
      (pss_cons (ps_if (PW.pt (pw_or (pt_not (pt_val (pe_callB (id := "isinstance") (isi (K := K)) (by rfl) T.z_isinstance (by decide +kernel) (pa_cons (pv 3) (pa_cons (pe_bltn (v := .ty "bool") rfl T.z_bool (by decide +kernel) rfl) pa_nil))))) (pw_or1 (pt_not (pt_val (pe_callB (id := "isinstance") (isi (K := K)) (by rfl) T.z_isinstance (by decide +kernel) (pa_cons (pv 4) (pa_cons (pe_bltn (v := .ty "bool") rfl T.z_bool (by decide +kernel) rfl) pa_nil))))))))
      (pss_one ps_never)
      pss_nil)
      (pss_cons (ps_if (pt_val (pe_call (ok_is_empty (K := K) T) (hr.mono (by decide)) rfl T.g_is_empty T.f_is_empty.kp B1 B1v pass0 (pa_cons (pv 1) (pa_cons (pv 2) (pa_cons (pv 3) (pa_cons (pv 4) pa_nil))))))
      (pss_one ps_never)
      pss_nil)
      (pss_cons (ps_fld (pv 0) (pv 1) rfl)
      (pss_cons (ps_fld (pv 0) (pv 2) rfl)
      (pss_cons (ps_fld (pv 0) (pe_cut (pe_and (pv 3) (pe_one (pe_cmpR op_notN (pv 1) pe_non (nomark _))))) rfl)
      (pss_one (ps_fld (pv 0) (pe_cut (pe_and (pv 4) (pe_one (pe_cmpR op_notN (pv 2) pe_non (nomark _))))) rfl)))))))), ?_⟩
    refine ⟨_, rfl, l, lo, rfl, ml, _, rfl, iteF ?_⟩
    refine ⟨_, rfl, h, hi, rfl, mh, _, rfl, iteF ?_⟩
    refine ⟨_, rfl, _, _, _, _, true, rfl, .ty _, .base (.bl _), kit_ty (r := true) (by decide +kernel), _, rfl, iteF ?_⟩
    refine ⟨_, rfl, _, _, _, _, true, rfl, .ty _, .base (.bl _), kit_ty (r := true) (by decide +kernel), _, rfl, iteF ?_⟩
    refine ⟨_, rfl, _, rfl, _, rfl, _, rfl, l, h, lo, hi, li, hj, rfl, ml, mh, l1, l2, _, rfl, ?_⟩
    rw [so]
    refine iteF ?_
    refine ⟨_, rfl, _, rfl, p, _, dx, _, rfl, hp, T.cl_Stretch, T.na_Stretch_low, (by show 0 < 1000; decide), ?_⟩
    refine ⟨_, rfl, _, rfl, p, _, dx, _, rfl, upd_same, T.cl_Stretch, T.na_Stretch_high, (by show 1 < 1000; decide), ?_⟩
    have nl : decide (l = V.non) = !lo.isSome := by
      cases lo with
      | none => cases ml; rfl
      | some a => obtain ⟨q, rfl, _⟩ := ml; rfl
    have nh : decide (h = V.non) = !hi.isSome := by
      cases hi with
      | none => cases mh; rfl
      | some a => obtain ⟨q, rfl, _⟩ := mh; rfl
    generalize hJ : upd (upd H p _) p _ = HJ
    refine ⟨fun v H' => HJ = H' ∧ v = .bl (li && lo.isSome), ?_, ?_⟩
    · refine ⟨_, rfl, _, rfl, ?_⟩
      cases li with
      | true =>
        refine iteT ⟨_, rfl, rfl, rfl, ?_⟩
        rw [nl]; simp
      | false => exact iteF ⟨rfl, rfl⟩
    rintro v H' ⟨rfl, rfl⟩
    refine ⟨_, rfl, p, _, dx, _, rfl, (by rw [← hJ]; exact upd_same), T.cl_Stretch, T.na_Stretch_low_in, ?_, ?_⟩
    · exact Nat.lt_of_le_of_lt (length_putF _ _ _) (by show 1 + 1 < 1000; decide)
    generalize hG : upd HJ p _ = HG
    refine ⟨fun v H' => HG = H' ∧ v = .bl (hj && hi.isSome), ?_, ?_⟩
    · refine ⟨_, rfl, _, rfl, ?_⟩
      cases hj with
      | true =>
        refine iteT ⟨_, rfl, rfl, rfl, ?_⟩
        rw [nh]; simp
      | false => exact iteF ⟨rfl, rfl⟩
    rintro v H' ⟨rfl, rfl⟩
    refine ⟨_, rfl, p, _, dx, _, rfl, (by rw [← hG]; exact upd_same), T.cl_Stretch, T.na_Stretch_high_in, ?_, ?_⟩
    · exact Nat.lt_of_le_of_lt (length_putF _ _ _) (Nat.lt_of_le_of_lt (Nat.succ_le_succ (length_putF _ _ _)) (by show 1 + 1 + 1 < 1000; decide))
    refine k _ ?_ fun q o e nq => ?_
    · rw [upd_same, sf_put]
    · rw [upd_ne nq, ← hG, upd_ne nq, ← hJ, upd_ne nq, upd_ne nq]
      exact e
theorem ok_cut_low {P : Program} {w : World} {K : PySem.W.Frag} {mg : Str → Option Value} {base : Heap} {φ : Fds} (T : Txt K mg φ) : FnOk P w K mg base CX0 2 (He.fAd K ("cut_low", none)) φ.cut_low p_cut_low (sp_cutEnd (He.ga K "Measure") (He.ga K "Stretch") (fun m1 m2 i1 i2 n1 n2 j1 j2 => cutLo m1 i1 n1 j1)) := by
  obtain ⟨_, B0v, B0⟩ := b_Measure_is_below_2 T
  refine T.f_cut_low.ok sc_cut_low (fun vs H Q E h => ?_) (fun cdv A outer s H vs Q E hr h => ?_)
  · obtain ⟨p, q, m1, m2, n1, n2, i1, i2, j1, j2, rfl, ⟨⟨dp, pl, ph, hp, ml, mh⟩, a1, a2, _, _⟩, ⟨⟨dq, ql, qh, hq, nl, nh⟩, b1, b2, _, _⟩, k⟩ := h; rfl
  · obtain ⟨p, q, m1, m2, n1, n2, i1, i2, j1, j2, rfl, ⟨⟨dp, pl, ph, hp, ml, mh⟩, a1, a2, _, _⟩, ⟨⟨dq, ql, qh, hq, nl, nh⟩, b1, b2, _, _⟩, k⟩ := h
    refine ⟨_, PSs.nox (pss_cons (ps_if (pt_cmpR op_isN (fldK (K := K) (pv 0) rfl) pe_non (nomark _))
      (pss_one (ps_ret (pe_tup (pa_cons (fldK (K := K) (pv 1) rfl) (pa_cons (fldK (K := K) (pv 1) rfl) pa_nil)))))
      pss_nil)
      (pss_cons (ps_if (PW.pt (pw_or (pt_cmpR op_isN (fldK (K := K) (pv 1) rfl) pe_non (nomark _)) (pw_or1 (pt_val (pe_meth (fldK (K := K) (pv 1) rfl) T.cl_Measure T.me_Measure_is_below (ok_Measure_is_below (K := K) T) (hr.mono (by decide)) B0 B0v pass0 (pa_cons (fldK (K := K) (pv 0) rfl) pa_nil))))))
      (pss_one (ps_ret (pe_tup (pa_cons (fldK (K := K) (pv 0) rfl) (pa_cons (fldK (K := K) (pv 0) rfl) pa_nil)))))
      pss_nil)
      (pss_cons (ps_if (pt_val (pe_meth (fldK (K := K) (pv 0) rfl) T.cl_Measure T.me_Measure_is_below (ok_Measure_is_below (K := K) T) (hr.mono (by decide)) B0 B0v pass0 (pa_cons (fldK (K := K) (pv 1) rfl) pa_nil)))
      (pss_one (ps_ret (pe_tup (pa_cons (fldK (K := K) (pv 1) rfl) (pa_cons (fldK (K := K) (pv 1) rfl) pa_nil)))))
      pss_nil)
      (pss_one (ps_ret (pe_tup (pa_cons (fldK (K := K) (pv 0) rfl) (pa_cons (pe_cut (pe_and (fldK (K := K) (pv 0) rfl) (pe_one (fldK (K := K) (pv 1) rfl)))) pa_nil)))))))), ?_⟩
    refine ⟨_, rfl, _, _, _, _, _, rfl, hp, T.cl_Stretch, T.na_Stretch_low, sf_low _ _ _ _, rfl, _, rfl, ?_⟩
    have LA : ∀ x y : Q2, lessA x.1 x.2 y.1 y.2 false = ltq x y := fun x y => by unfold lessA ltq; simp
    cases m1 with
    | none =>
      cases ml
      refine iteT ?_
      exact ⟨_, rfl, _, _, _, _, _, rfl, hq, T.cl_Stretch, T.na_Stretch_low, sf_low _ _ _ _, _, rfl, _, _, _, _, _, rfl, hq, T.cl_Stretch, T.na_Stretch_low_in, sf_low_in _ _ _ _, by show 2 ≤ sizeLine; decide, fun r nr => k r _ _ (same1 nr) upd_same (nl.same (same1 nr))⟩
    | some a =>
      have ma0 := ml
      obtain ⟨pa, rfl, da, hpa⟩ := ml
      refine iteF ?_
      refine ⟨_, rfl, _, _, _, _, _, rfl, hq, T.cl_Stretch, T.na_Stretch_low, sf_low _ _ _ _, rfl, _, rfl, ?_⟩
      cases n1 with
      | none =>
        cases nl
        refine iteT ?_
        refine iteT ?_
        exact ⟨_, rfl, _, _, _, _, _, rfl, hp, T.cl_Stretch, T.na_Stretch_low, sf_low _ _ _ _, _, rfl, _, _, _, _, _, rfl, hp, T.cl_Stretch, T.na_Stretch_low_in, sf_low_in _ _ _ _, by show 2 ≤ sizeLine; decide, fun r nr => k r _ _ (same1 nr) upd_same (ma0.same (same1 nr))⟩
      | some b =>
        have mb0 := nl
        obtain ⟨pb, rfl, db, hpb⟩ := nl
        refine iteF ?_
        refine ⟨_, rfl, _, _, _, _, _, rfl, hq, T.cl_Stretch, T.na_Stretch_low, sf_low _ _ _ _, pb, _, _, rfl, hpb, mf_no _ _ (by decide +kernel) (by decide +kernel), _, rfl, _, _, _, _, _, rfl, hp, T.cl_Stretch, T.na_Stretch_low, sf_low _ _ _ _, pb, pa, b.1, b.2, a.1, a.2, false, rfl, ⟨_, hpb⟩, ⟨_, hpa⟩, b1.s1.mono (by decide), b1.s2.mono (by decide), a1.s1.mono (by decide), a1.s2.mono (by decide), _, rfl, ?_⟩
        have k : ∀ (r : Addr) (v : V) (H' : Hp), Same H H' → H' r = some (.tup [v, .bl (if ltq a b then (some b, j1) else if eqq a b then (some a, i1 && j1) else (some a, i1)).2]) → MsV (He.ga K "Measure") H' v (if ltq a b then (some b, j1) else if eqq a b then (some a, i1 && j1) else (some a, i1)).1 → Q (.ref r) H' := k
        rcases lt_tri a b with ⟨h1, h2, h3⟩ | ⟨h1, h2, h3⟩ | ⟨h1, h2, h3⟩
        · rw [h1] at k
          · rw [show lessA b.1 b.2 a.1 a.2 false = false from (LA _ _).trans h3]
            refine iteF ?_
            refine ⟨_, rfl, _, _, _, _, _, rfl, hp, T.cl_Stretch, T.na_Stretch_low, sf_low _ _ _ _, pa, _, _, rfl, hpa, mf_no _ _ (by decide +kernel) (by decide +kernel), _, rfl, _, _, _, _, _, rfl, hq, T.cl_Stretch, T.na_Stretch_low, sf_low _ _ _ _, pa, pb, a.1, a.2, b.1, b.2, false, rfl, ⟨_, hpa⟩, ⟨_, hpb⟩, a1.s1.mono (by decide), a1.s2.mono (by decide), b1.s1.mono (by decide), b1.s2.mono (by decide), _, rfl, ?_⟩
            rw [show lessA a.1 a.2 b.1 b.2 false = true from (LA _ _).trans h1]
            exact iteT ⟨_, rfl, _, _, _, _, _, rfl, hq, T.cl_Stretch, T.na_Stretch_low, sf_low _ _ _ _, _, rfl, _, _, _, _, _, rfl, hq, T.cl_Stretch, T.na_Stretch_low_in, sf_low_in _ _ _ _, by show 2 ≤ sizeLine; decide, fun r nr => k r _ _ (same1 nr) upd_same (mb0.same (same1 nr))⟩
        · rw [h1, h2] at k
          · rw [show lessA b.1 b.2 a.1 a.2 false = false from (LA _ _).trans h3]
            refine iteF ?_
            refine ⟨_, rfl, _, _, _, _, _, rfl, hp, T.cl_Stretch, T.na_Stretch_low, sf_low _ _ _ _, pa, _, _, rfl, hpa, mf_no _ _ (by decide +kernel) (by decide +kernel), _, rfl, _, _, _, _, _, rfl, hq, T.cl_Stretch, T.na_Stretch_low, sf_low _ _ _ _, pa, pb, a.1, a.2, b.1, b.2, false, rfl, ⟨_, hpa⟩, ⟨_, hpb⟩, a1.s1.mono (by decide), a1.s2.mono (by decide), b1.s1.mono (by decide), b1.s2.mono (by decide), _, rfl, ?_⟩
            rw [show lessA a.1 a.2 b.1 b.2 false = false from (LA _ _).trans h1]
            refine iteF ?_
            refine ⟨_, rfl, _, _, _, _, _, rfl, hp, T.cl_Stretch, T.na_Stretch_low, sf_low _ _ _ _, ?_⟩
            refine ⟨fun v H' => H = H' ∧ v = .bl (i1 && j1), ?_, ?_⟩
            · refine ⟨_, rfl, _, _, _, _, _, rfl, hp, T.cl_Stretch, T.na_Stretch_low_in, sf_low_in _ _ _ _, _, rfl, ?_⟩
              cases i1 with
              | true => exact iteT ⟨_, rfl, _, _, _, _, _, rfl, hq, T.cl_Stretch, T.na_Stretch_low_in, sf_low_in _ _ _ _, rfl, rfl⟩
              | false => exact iteF ⟨rfl, rfl⟩
            rintro v H' ⟨rfl, rfl⟩
            exact ⟨by show 2 ≤ sizeLine; decide, fun r nr => k r _ _ (same1 nr) upd_same (ma0.same (same1 nr))⟩
        · rw [h1, h2] at k
          · rw [show lessA b.1 b.2 a.1 a.2 false = true from (LA _ _).trans h3]
            exact iteT ⟨_, rfl, _, _, _, _, _, rfl, hp, T.cl_Stretch, T.na_Stretch_low, sf_low _ _ _ _, _, rfl, _, _, _, _, _, rfl, hp, T.cl_Stretch, T.na_Stretch_low_in, sf_low_in _ _ _ _, by show 2 ≤ sizeLine; decide, fun r nr => k r _ _ (same1 nr) upd_same (ma0.same (same1 nr))⟩
theorem ok_cut_high {P : Program} {w : World} {K : PySem.W.Frag} {mg : Str → Option Value} {base : Heap} {φ : Fds} (T : Txt K mg φ) : FnOk P w K mg base CX0 2 (He.fAd K ("cut_high", none)) φ.cut_high p_cut_high (sp_cutEnd (He.ga K "Measure") (He.ga K "Stretch") (fun m1 m2 i1 i2 n1 n2 j1 j2 => cutHi m2 i2 n2 j2)) := by
  obtain ⟨_, B0v, B0⟩ := b_Measure_is_below_2 T
  refine T.f_cut_high.ok sc_cut_high (fun vs H Q E h => ?_) (fun cdv A outer s H vs Q E hr h => ?_)
  · obtain ⟨p, q, m1, m2, n1, n2, i1, i2, j1, j2, rfl, ⟨⟨dp, pl, ph, hp, ml, mh⟩, a1, a2, _, _⟩, ⟨⟨dq, ql, qh, hq, nl, nh⟩, b1, b2, _, _⟩, k⟩ := h; rfl
  · obtain ⟨p, q, m1, m2, n1, n2, i1, i2, j1, j2, rfl, ⟨⟨dp, pl, ph, hp, ml, mh⟩, a1, a2, _, _⟩, ⟨⟨dq, ql, qh, hq, nl, nh⟩, b1, b2, _, _⟩, k⟩ := h
    refine ⟨_, PSs.nox (pss_cons (ps_if (pt_cmpR op_isN (fldK (K := K) (pv 0) rfl) pe_non (nomark _))
      (pss_one (ps_ret (pe_tup (pa_cons (fldK (K := K) (pv 1) rfl) (pa_cons (fldK (K := K) (pv 1) rfl) pa_nil)))))
      pss_nil)
      (pss_cons (ps_if (PW.pt (pw_or (pt_cmpR op_isN (fldK (K := K) (pv 1) rfl) pe_non (nomark _)) (pw_or1 (pt_val (pe_meth (fldK (K := K) (pv 0) rfl) T.cl_Measure T.me_Measure_is_below (ok_Measure_is_below (K := K) T) (hr.mono (by decide)) B0 B0v pass0 (pa_cons (fldK (K := K) (pv 1) rfl) pa_nil))))))
      (pss_one (ps_ret (pe_tup (pa_cons (fldK (K := K) (pv 0) rfl) (pa_cons (fldK (K := K) (pv 0) rfl) pa_nil)))))
      pss_nil)
      (pss_cons (ps_if (pt_val (pe_meth (fldK (K := K) (pv 1) rfl) T.cl_Measure T.me_Measure_is_below (ok_Measure_is_below (K := K) T) (hr.mono (by decide)) B0 B0v pass0 (pa_cons (fldK (K := K) (pv 0) rfl) pa_nil)))
      (pss_one (ps_ret (pe_tup (pa_cons (fldK (K := K) (pv 1) rfl) (pa_cons (fldK (K := K) (pv 1) rfl) pa_nil)))))
      pss_nil)
      (pss_one (ps_ret (pe_tup (pa_cons (fldK (K := K) (pv 0) rfl) (pa_cons (pe_cut (pe_and (fldK (K := K) (pv 0) rfl) (pe_one (fldK (K := K) (pv 1) rfl)))) pa_nil)))))))), ?_⟩
    refine ⟨_, rfl, _, _, _, _, _, rfl, hp, T.cl_Stretch, T.na_Stretch_high, sf_high _ _ _ _, rfl, _, rfl, ?_⟩
    have LA : ∀ x y : Q2, lessA x.1 x.2 y.1 y.2 false = ltq x y := fun x y => by unfold lessA ltq; simp
    cases m2 with
    | none =>
      cases mh
      refine iteT ?_
      exact ⟨_, rfl, _, _, _, _, _, rfl, hq, T.cl_Stretch, T.na_Stretch_high, sf_high _ _ _ _, _, rfl, _, _, _, _, _, rfl, hq, T.cl_Stretch, T.na_Stretch_high_in, sf_high_in _ _ _ _, by show 2 ≤ sizeLine; decide, fun r nr => k r _ _ (same1 nr) upd_same (nh.same (same1 nr))⟩
    | some a =>
      have ma0 := mh
      obtain ⟨pa, rfl, da, hpa⟩ := mh
      refine iteF ?_
      refine ⟨_, rfl, _, _, _, _, _, rfl, hq, T.cl_Stretch, T.na_Stretch_high, sf_high _ _ _ _, rfl, _, rfl, ?_⟩
      cases n2 with
      | none =>
        cases nh
        refine iteT ?_
        refine iteT ?_
        exact ⟨_, rfl, _, _, _, _, _, rfl, hp, T.cl_Stretch, T.na_Stretch_high, sf_high _ _ _ _, _, rfl, _, _, _, _, _, rfl, hp, T.cl_Stretch, T.na_Stretch_high_in, sf_high_in _ _ _ _, by show 2 ≤ sizeLine; decide, fun r nr => k r _ _ (same1 nr) upd_same (ma0.same (same1 nr))⟩
      | some b =>
        have mb0 := nh
        obtain ⟨pb, rfl, db, hpb⟩ := nh
        refine iteF ?_
        refine ⟨_, rfl, _, _, _, _, _, rfl, hp, T.cl_Stretch, T.na_Stretch_high, sf_high _ _ _ _, pa, _, _, rfl, hpa, mf_no _ _ (by decide +kernel) (by decide +kernel), _, rfl, _, _, _, _, _, rfl, hq, T.cl_Stretch, T.na_Stretch_high, sf_high _ _ _ _, pa, pb, a.1, a.2, b.1, b.2, false, rfl, ⟨_, hpa⟩, ⟨_, hpb⟩, a2.s1.mono (by decide), a2.s2.mono (by decide), b2.s1.mono (by decide), b2.s2.mono (by decide), _, rfl, ?_⟩
        have k : ∀ (r : Addr) (v : V) (H' : Hp), Same H H' → H' r = some (.tup [v, .bl (if ltq b a then (some b, j2) else if eqq a b then (some a, i2 && j2) else (some a, i2)).2]) → MsV (He.ga K "Measure") H' v (if ltq b a then (some b, j2) else if eqq a b then (some a, i2 && j2) else (some a, i2)).1 → Q (.ref r) H' := k
        rcases lt_tri a b with ⟨h1, h2, h3⟩ | ⟨h1, h2, h3⟩ | ⟨h1, h2, h3⟩
        · rw [h3, h2] at k
          · rw [show lessA a.1 a.2 b.1 b.2 false = true from (LA _ _).trans h1]
            exact iteT ⟨_, rfl, _, _, _, _, _, rfl, hp, T.cl_Stretch, T.na_Stretch_high, sf_high _ _ _ _, _, rfl, _, _, _, _, _, rfl, hp, T.cl_Stretch, T.na_Stretch_high_in, sf_high_in _ _ _ _, by show 2 ≤ sizeLine; decide, fun r nr => k r _ _ (same1 nr) upd_same (ma0.same (same1 nr))⟩
        · rw [h3, h2] at k
          · rw [show lessA a.1 a.2 b.1 b.2 false = false from (LA _ _).trans h1]
            refine iteF ?_
            refine ⟨_, rfl, _, _, _, _, _, rfl, hq, T.cl_Stretch, T.na_Stretch_high, sf_high _ _ _ _, pb, _, _, rfl, hpb, mf_no _ _ (by decide +kernel) (by decide +kernel), _, rfl, _, _, _, _, _, rfl, hp, T.cl_Stretch, T.na_Stretch_high, sf_high _ _ _ _, pb, pa, b.1, b.2, a.1, a.2, false, rfl, ⟨_, hpb⟩, ⟨_, hpa⟩, b2.s1.mono (by decide), b2.s2.mono (by decide), a2.s1.mono (by decide), a2.s2.mono (by decide), _, rfl, ?_⟩
            rw [show lessA b.1 b.2 a.1 a.2 false = false from (LA _ _).trans h3]
            refine iteF ?_
            refine ⟨_, rfl, _, _, _, _, _, rfl, hp, T.cl_Stretch, T.na_Stretch_high, sf_high _ _ _ _, ?_⟩
            refine ⟨fun v H' => H = H' ∧ v = .bl (i2 && j2), ?_, ?_⟩
            · refine ⟨_, rfl, _, _, _, _, _, rfl, hp, T.cl_Stretch, T.na_Stretch_high_in, sf_high_in _ _ _ _, _, rfl, ?_⟩
              cases i2 with
              | true => exact iteT ⟨_, rfl, _, _, _, _, _, rfl, hq, T.cl_Stretch, T.na_Stretch_high_in, sf_high_in _ _ _ _, rfl, rfl⟩
              | false => exact iteF ⟨rfl, rfl⟩
            rintro v H' ⟨rfl, rfl⟩
            exact ⟨by show 2 ≤ sizeLine; decide, fun r nr => k r _ _ (same1 nr) upd_same (ma0.same (same1 nr))⟩
        · rw [h3] at k
          · rw [show lessA a.1 a.2 b.1 b.2 false = false from (LA _ _).trans h1]
            refine iteF ?_
            refine ⟨_, rfl, _, _, _, _, _, rfl, hq, T.cl_Stretch, T.na_Stretch_high, sf_high _ _ _ _, pb, _, _, rfl, hpb, mf_no _ _ (by decide +kernel) (by decide +kernel), _, rfl, _, _, _, _, _, rfl, hp, T.cl_Stretch, T.na_Stretch_high, sf_high _ _ _ _, pb, pa, b.1, b.2, a.1, a.2, false, rfl, ⟨_, hpb⟩, ⟨_, hpa⟩, b2.s1.mono (by decide), b2.s2.mono (by decide), a2.s1.mono (by decide), a2.s2.mono (by decide), _, rfl, ?_⟩
            rw [show lessA b.1 b.2 a.1 a.2 false = true from (LA _ _).trans h3]
            exact iteT ⟨_, rfl, _, _, _, _, _, rfl, hq, T.cl_Stretch, T.na_Stretch_high, sf_high _ _ _ _, _, rfl, _, _, _, _, _, rfl, hq, T.cl_Stretch, T.na_Stretch_high_in, sf_high_in _ _ _ _, by show 2 ≤ sizeLine; decide, fun r nr => k r _ _ (same1 nr) upd_same (mb0.same (same1 nr))⟩
theorem ok_Stretch_cut {P : Program} {w : World} {K : PySem.W.Frag} {mg : Str → Option Value} {base : Heap} {φ : Fds} (T : Txt K mg φ) : FnOk P w K mg base CX0 5 (He.fAd K ("Stretch", some "cut")) φ.Stretch_cut p_Stretch_cut (sp_cutS (He.ga K "Measure") (He.ga K "Stretch")) := by
  obtain ⟨_, B0v, B0⟩ := b_cut_low_2 T
  obtain ⟨_, B1v, B1⟩ := b_cut_high_2 T
  obtain ⟨_, B2v, B2⟩ := b_is_empty_4 T
  obtain ⟨_, B3v, B3⟩ := b_Stretch_init_5 T
  refine T.f_Stretch_cut.ok sc_Stretch_cut (fun vs H Q E h => ?_) (fun cdv A outer s H vs Q E hr h => ?_)
  · obtain ⟨p, q, m1, m2, n1, n2, i1, i2, j1, j2, rfl, sp, sq, k⟩ := h; rfl
  · obtain ⟨p, q, m1, m2, n1, n2, i1, i2, j1, j2, rfl, sp, sq, k⟩ := h
    refine ⟨_, PSs.nox (pss_cons (ps_asg (pe_call (ok_cut_low (K := K) T) (hr.mono (by decide)) rfl T.g_cut_low T.f_cut_low.kp B0 B0v pass0 (pa_cons (pv 0) (pa_cons (pv 1) pa_nil))) (pg_tup rfl (pgs_cons (pg_name (i := 2) sc_Stretch_cut.nd rfl (Or.inl rfl)) (pgs_cons (pg_name (i := 3) sc_Stretch_cut.nd rfl (Or.inl rfl)) pgs_nil))))
      (pss_cons (ps_asg (pe_call (ok_cut_high (K := K) T) (hr.mono (by decide)) rfl T.g_cut_high T.f_cut_high.kp B1 B1v pass0 (pa_cons (pv 0) (pa_cons (pv 1) pa_nil))) (pg_tup rfl (pgs_cons (pg_name (i := 4) sc_Stretch_cut.nd rfl (Or.inl rfl)) (pgs_cons (pg_name (i := 5) sc_Stretch_cut.nd rfl (Or.inl rfl)) pgs_nil))))
      (pss_cons (ps_if (pt_val (pe_call (ok_is_empty (K := K) T) (hr.mono (by decide)) rfl T.g_is_empty T.f_is_empty.kp B2 B2v pass0 (pa_cons (pv 2) (pa_cons (pv 4) (pa_cons (pv 3) (pa_cons (pv 5) pa_nil))))))
      (pss_one (ps_ret pe_non))
      pss_nil)
      (pss_one (ps_ret (pe_make T.mk_Stretch (ok_Stretch_init (K := K) T) (hr.mono (by decide)) rfl T.g_Stretch B3 B3v pass0 (pa_cons (pv 2) (pa_cons (pv 4) (pa_cons (pv 3) (pa_cons (pv 5) pa_nil)))))))))), ?_⟩
    refine ⟨_, rfl, _, rfl, p, q, m1, m2, n1, n2, i1, i2, j1, j2, rfl, sp, sq, fun r v H1 s1 hr1 mv => ?_⟩
    refine ⟨r, _, rfl, SqT.of hr1, rfl, _, _, rfl, _, _, rfl, rfl, ?_⟩
    refine ⟨_, rfl, _, rfl, p, q, m1, m2, n1, n2, i1, i2, j1, j2, rfl, sp.same s1, sq.same s1, fun r2 w H2 s2 hr2 mw => ?_⟩
    refine ⟨r2, _, rfl, SqT.of hr2, rfl, _, _, rfl, _, _, rfl, rfl, ?_⟩
    have mv2 := mv.same s2
    have lv : LowO (cutLo m1 i1 n1 j1).1 := cutLo_low sp.l1 sq.l1
    have lw : LowO (cutHi m2 i2 n2 j2).1 := cutHi_low sp.l2 sq.l2
    refine ⟨_, rfl, _, rfl, _, rfl, _, rfl, v, w, _, _, _, _, rfl, mv2, mw, lv, lw, _, rfl, ?_⟩
    cases e : someB (cutLo m1 i1 n1 j1).1 (cutHi m2 i2 n2 j2).1 (cutLo m1 i1 n1 j1).2 (cutHi m2 i2 n2 j2).2 with
    | false =>
      refine iteT ?_
      exact k _ H2 (s1.trans s2) (.inr ⟨e, rfl⟩)
    | true =>
      refine iteF ?_
      refine ⟨_, rfl, _, rfl, _, rfl, _, rfl, ?_⟩
      intro x dx nx nd ne
      have sx : Same H2 (upd (upd H2 dx (.own x)) x (.ins (He.ga K "Stretch") dx [])) := fun c o e => by
        rw [upd_ne (ne_of_none e nx)]; exact up1 nd e
      refine ⟨x, dx, v, w, _, _, _, _, rfl, upd_same, mv2.same sx, mw.same sx, lv, lw, e, fun H' hx kp => ⟨rfl, ?_⟩⟩
      have s' : Same H2 H' := made_same nx nd kp
      exact k _ H' ((s1.trans s2).trans s') (.inl ⟨e, x, rfl, StAt.mk' hx s' mv2 mw lv lw⟩)
theorem ok_end_at {P : Program} {w : World} {K : PySem.W.Frag} {mg : Str → Option Value} {base : Heap} {φ : Fds} (T : Txt K mg φ) : FnOk P w K mg base CX0 1 (He.fAd K ("end_at", none)) φ.end_at p_end_at (sp_endat K (He.ga K "Measure")) := by
  refine T.f_end_at.ok sc_end_at (fun vs H Q E h => ?_) (fun cdv A outer s H vs Q E hr h => ?_)
  · obtain ⟨T', k, ps, zs, i, rfl, hq, hm, kk⟩ := h; rfl
  · obtain ⟨T', k, ps, zs, i, rfl, hq, hm, kk⟩ := h
    refine ⟨_, PSs.nox (pss_cons (ps_if (pt_chain op_le op_lt pe_int (pv 1) (pe_callB (id := "len") (lenS (K := K)) (by rfl) T.z_len PySem.boot_len (pa_cons (pv 0) pa_nil)))
      (pss_one (ps_ret (pe_ix (ixs (K := K)) (pv 0) (pv 1) (fun _ _ => rfl))))
      pss_nil)
      (pss_one (ps_ret pe_non))), ?_⟩
    have el : ps.length = zs.length := hm.len
    walk_at "w"
    by_cases c1 : 0 ≤ i
    · obtain ⟨n, rfl⟩ := Int.eq_ofNat_of_zero_le c1
      walk_at "w"
      rw [endQ_in rfl] at kk
      by_cases c2 : n < zs.length
      · obtain ⟨a, ha⟩ := ge2 c2
        obtain ⟨p, ep, qp⟩ := hm.at ha
        rw [ha] at kk
        walk_at "w"
        exact kk _ ⟨p, rfl, qp⟩
      · walk_at "w"
        refine kk _ ?_
        rw [List.getElem?_eq_none (by omega)]
        rfl
    · walk_at "w"
      refine kk _ ?_
      rw [endQ_none (by omega)]
      rfl
theorem ok_has_size {P : Program} {w : World} {K : PySem.W.Frag} {mg : Str → Option Value} {base : Heap} {φ : Fds} (T : Txt K mg φ) : FnOk P w K mg base CX0 2 (He.fAd K ("has_size", none)) φ.has_size p_has_size (sp_hassz K (He.ga K "Measure") (He.ga K "Ladder")) := by
  obtain ⟨_, B0v, B0⟩ := b_is_whole_1 T
  refine T.f_has_size.ok sc_has_size (fun vs H Q E h => ?_) (fun cdv A outer s H vs Q E hr h => ?_)
  · obtain ⟨p, k, zs, r, lo, hi, n, rfl, hL, hn, kk⟩ := h; rfl
  · obtain ⟨p, k, zs, r, lo, hi, n, rfl, hL, hn, kk⟩ := h
    refine ⟨_, PSs.nox (pss_one (ps_ret (pe_and (pe_call (ok_is_whole (K := K) T) (hr.mono (by decide)) rfl T.g_is_whole T.f_is_whole.kp B0 B0v pass0 (pa_cons (pv 1) pa_nil)) (pe_one (pe_chain op_le op_lt pe_int (pv 1) (pe_callB (id := "len") (lenS (K := K)) (by rfl) T.z_len PySem.boot_len (pa_cons (fldK (K := K) (pv 0) rfl) pa_nil))))))), ?_⟩
    have cl_Ladder := T.cl_Ladder
    have na_Ladder_marks := T.na_Ladder_marks
    have na_Ladder_rule := T.na_Ladder_rule
    have na_Ladder_least := T.na_Ladder_least
    have na_Ladder_most := T.na_Ladder_most
    
    obtain ⟨⟨dx, T', ps, l, h, hp, hT, hm, ql, qh⟩, l0, l1, hri, hru, hsp⟩ := hL
    have el : ps.length = zs.length := hm.len
    walk_at "w"
    show Q (.bl (decide ((n : Int) < (ps.length : Int)))) H
    rw [decide_eq_true (by omega)]
    exact kk
theorem ok_Ladder_len {P : Program} {w : World} {K : PySem.W.Frag} {mg : Str → Option Value} {base : Heap} {φ : Fds} (T : Txt K mg φ) : FnOk P w K mg base CX0 1 (He.fAd K ("Ladder", some "__len__")) φ.Ladder_len p_Ladder_len (sp_llen K (He.ga K "Measure") (He.ga K "Ladder")) := by
  refine T.f_Ladder_len.ok sc_Ladder_len (fun vs H Q E h => ?_) (fun cdv A outer s H vs Q E hr h => ?_)
  · obtain ⟨p, k, zs, r, lo, hi, rfl, hL, kk⟩ := h; rfl
  · obtain ⟨p, k, zs, r, lo, hi, rfl, hL, kk⟩ := h
    refine ⟨_, PSs.nox (pss_one (ps_ret (pe_callB (id := "len") (lenS (K := K)) (by rfl) T.z_len PySem.boot_len (pa_cons (fldK (K := K) (pv 0) rfl) pa_nil)))), ?_⟩
    have cl_Ladder := T.cl_Ladder
    have na_Ladder_marks := T.na_Ladder_marks
    have na_Ladder_rule := T.na_Ladder_rule
    have na_Ladder_least := T.na_Ladder_least
    have na_Ladder_most := T.na_Ladder_most
    
    obtain ⟨⟨dx, T', ps, l, h, hp, hT, hm, ql, qh⟩, l0, l1, hri, hru, hsp⟩ := hL
    have el : ps.length = zs.length := hm.len
    walk_at "w"
    rw [el]
    exact kk
theorem ok_stretch_by_rule {P : Program} {w : World} {K : PySem.W.Frag} {mg : Str → Option Value} {base : Heap} {φ : Fds} (T : Txt K mg φ) : FnOk P w K mg base CX0 6 (He.fAd K ("stretch_by_rule", none)) φ.stretch_by_rule p_stretch_by_rule (sp_strR K (He.ga K "Measure") (He.ga K "Stretch")) := by
  obtain ⟨_, B0v, B0⟩ := b_Stretch_init_3 T
  obtain ⟨_, B1v, B1⟩ := b_end_at_2 T
  obtain ⟨_, B2v, B2⟩ := b_Stretch_init_5 T
  obtain ⟨_, B3v, B3⟩ := b_midsts_of_1 T
  refine T.f_stretch_by_rule.ok sc_stretch_by_rule (fun vs H Q E h => ?_) (fun cdv A outer s H vs Q E hr h => ?_)
  · obtain ⟨T', k, ps, zs, r, n, rfl, hT, hm, k0, k1, l1, hn, hr', kk⟩ := h; rfl
  · obtain ⟨T', k, ps, zs, r, n, rfl, hT, hm, k0, k1, l1, hn, hr', kk⟩ := h
    refine ⟨_, PSs.nox (pss_cons (ps_if (pt_cmpR op_eq (pv 1) pe_str (nomark _))
      (pss_one (ps_ret (pe_make T.mk_Stretch (ok_Stretch_init (K := K) T) (hr.mono (by decide)) rfl T.g_Stretch B0 B0v pass0 (pa_cons (pe_call (ok_end_at (K := K) T) (hr.mono (by decide)) rfl T.g_end_at T.f_end_at.kp B1 B1v pass0 (pa_cons (pv 0) (pa_cons (pe_op op_sub (pv 2) pe_int) pa_nil))) (pa_cons (pe_ix (ixt (K := K)) (pv 0) (pv 2) (fun _ _ => rfl)) pa_nil)))))
      pss_nil)
      (pss_cons (ps_if (pt_cmpR op_eq (pv 1) pe_str (nomark _))
      (pss_one (ps_ret (pe_make T.mk_Stretch (ok_Stretch_init (K := K) T) (hr.mono (by decide)) rfl T.g_Stretch B2 B2v pass0 (pa_cons (pe_ix (ixt (K := K)) (pv 0) (pv 2) (fun _ _ => rfl)) (pa_cons (pe_call (ok_end_at (K := K) T) (hr.mono (by decide)) rfl T.g_end_at T.f_end_at.kp B1 B1v pass0 (pa_cons (pv 0) (pa_cons (pe_op op_add (pv 2) pe_int) pa_nil))) (pa_cons pe_bl (pa_cons pe_bl pa_nil)))))))
      pss_nil)
      (pss_cons (ps_set (i := 3) sc_stretch_by_rule.nd rfl (Or.inl rfl) (pe_call (ok_midsts_of (K := K) T) (hr.mono (by decide)) rfl T.g_midsts_of T.f_midsts_of.kp B3 B3v pass0 (pa_cons (pv 0) pa_nil)))
      (pss_one (ps_ret (pe_make T.mk_Stretch (ok_Stretch_init (K := K) T) (hr.mono (by decide)) rfl T.g_Stretch B2 B2v pass0 (pa_cons (pe_call (ok_end_at (K := K) T) (hr.mono (by decide)) rfl T.g_end_at T.f_end_at.kp B1 B1v pass0 (pa_cons (pv 3) (pa_cons (pe_op op_sub (pv 2) pe_int) pa_nil))) (pa_cons (pe_call (ok_end_at (K := K) T) (hr.mono (by decide)) rfl T.g_end_at T.f_end_at.kp B1 B1v pass0 (pa_cons (pv 3) (pa_cons (pv 2) pa_nil))) (pa_cons pe_bl (pa_cons pe_bl pa_nil)))))))))), ?_⟩
    obtain ⟨a, ha⟩ := ge2 hn
    obtain ⟨pa, ea, qa⟩ := hm.at ha
    have l0 : 0 < zs.length := by omega
    refine ⟨_, rfl, rfl, _, rfl, ?_⟩
    refine ite2 (fun e => ?_) (fun e => ?_)
    · have er : r = "up" := V.str.inj (of_decide_eq_true e)
      have ee : rulE zs r n = ((endQ zs ((n : Int) - 1), false), (zs[n]?, true)) := by unfold rulE; rw [if_pos er]
      rw [ee, ha] at kk
      walk_at "w"
      refine ⟨zs, _, rfl, .inr hT, hm, fun v1 q1 => ?_⟩
      walk_at "w"
      have so := some_up (n := n) hr' (i := false) (j := true)
      rw [ha] at so
      exact stq_made (a := endQ zs ((n : Int) - 1)) (b := some a) (ia := false) (ib := true) q1 ⟨pa, rfl, qa⟩ (by omega) (by omega) so fun p H' s S => kk p H' s S
    have er : ¬ r = "up" := fun z => e (decide_eq_true (congrArg V.str z))
    refine ⟨_, rfl, rfl, _, rfl, ?_⟩
    refine ite2 (fun e => ?_) (fun e => ?_)
    · have er2 : r = "down" := V.str.inj (of_decide_eq_true e)
      have ee : rulE zs r n = ((zs[n]?, true), (endQ zs ((n : Int) + 1), false)) := by unfold rulE; rw [if_neg er, if_pos er2]
      rw [ee, ha] at kk
      walk_at "w"
      refine ⟨zs, _, rfl, .inr hT, hm, fun v1 q1 => ?_⟩
      walk_at "w"
      have so := some_dn (n := n) hr' (i := true) (j := false)
      rw [ha] at so
      exact stq_made (b := endQ zs ((n : Int) + 1)) (a := some a) (ia := true) (ib := false) ⟨pa, rfl, qa⟩ q1 (by omega) (by omega) so fun p H' s S => kk p H' s S
    have er2 : ¬ r = "down" := fun z => e (decide_eq_true (congrArg V.str z))
    have ee : rulE zs r n = ((endQ (midq zs) ((n : Int) - 1), true), (endQ (midq zs) n, false)) := by unfold rulE; rw [if_neg er, if_neg er2]
    rw [ee] at kk
    refine ⟨_, rfl, T', k, ps, zs, rfl, hT, hm, k0, k1, l0, l1, fun D ys H1 s1 hD hm1 => ?_⟩
    walk_at "w"
    refine ⟨midq zs, _, rfl, .inl (SqL.of hD), hm1, fun v1 q1 => ?_⟩
    walk_at "w"
    refine ⟨midq zs, _, rfl, .inl (SqL.of hD), hm1, fun v2 q2 => ?_⟩
    exact stq_made (a := endQ (midq zs) ((n : Int) - 1)) (b := endQ (midq zs) n) (ia := true) (ib := false) q1 q2 (by omega) (by omega) (some_nr (midq_rise hr' hm.posL)) fun p H' s S => kk p H' (s1.trans s) S
theorem ok_Ladder_stretch {P : Program} {w : World} {K : PySem.W.Frag} {mg : Str → Option Value} {base : Heap} {φ : Fds} (T : Txt K mg φ) : FnOk P w K mg base CX0 7 (He.fAd K ("Ladder", some "stretch")) φ.Ladder_stretch p_Ladder_stretch (sp_stretch K (He.ga K "Measure") (He.ga K "Ladder") (He.ga K "Stretch")) := by
  obtain ⟨_, B0v, B0⟩ := b_has_size_2 T
  obtain ⟨_, B1v, B1⟩ := b_Stretch_init_5 T
  obtain ⟨_, B2v, B2⟩ := b_Stretch_cut_2 T
  obtain ⟨_, B3v, B3⟩ := b_stretch_by_rule_3 T
  refine T.f_Ladder_stretch.ok sc_Ladder_stretch (fun vs H Q E h => ?_) (fun cdv A outer s H vs Q E hr h => ?_)
  · obtain ⟨p, k, zs, r, lo, hi, n, rfl, hL, k0, k1, hn, kk⟩ := h; rfl
  · obtain ⟨p, k, zs, r, lo, hi, n, rfl, hL, k0, k1, hn, kk⟩ := h
    refine ⟨_, PSs.nox (pss_cons (ps_if (pt_not (pt_val (pe_call (ok_has_size (K := K) T) (hr.mono (by decide)) rfl T.g_has_size T.f_has_size.kp B0 B0v pass0 (pa_cons (pv 0) (pa_cons (pv 1) pa_nil)))))
      (pss_one ps_never)
      pss_nil)
      (pss_cons (ps_set (i := 2) sc_Ladder_stretch.nd rfl (Or.inl rfl) (pe_make T.mk_Stretch (ok_Stretch_init (K := K) T) (hr.mono (by decide)) rfl T.g_Stretch B1 B1v pass0 (pa_cons (fldK (K := K) (pv 0) rfl) (pa_cons (fldK (K := K) (pv 0) rfl) (pa_cons pe_bl (pa_cons pe_bl pa_nil))))))
      (pss_one (ps_ret (pe_meth (pe_call (ok_stretch_by_rule (K := K) T) (hr.mono (by decide)) rfl T.g_stretch_by_rule T.f_stretch_by_rule.kp B3 B3v pass0 (pa_cons (fldK (K := K) (pv 0) rfl) (pa_cons (fldK (K := K) (pv 0) rfl) (pa_cons (pv 1) pa_nil)))) T.cl_Stretch T.me_Stretch_cut (ok_Stretch_cut (K := K) T) (hr.mono (by decide)) B2 B2v pass0 (pa_cons (pv 2) pa_nil)))))), ?_⟩
    have cl_Ladder := T.cl_Ladder
    have na_Ladder_marks := T.na_Ladder_marks
    have na_Ladder_rule := T.na_Ladder_rule
    have na_Ladder_least := T.na_Ladder_least
    have na_Ladder_most := T.na_Ladder_most
    
    have hL0 := hL
    obtain ⟨⟨dx, T', ps, l, h, hp, hT, hm, ql, qh⟩, l0, l1, hri, hru, hsp⟩ := hL
    have el : ps.length = zs.length := hm.len
    walk_at "w"
    refine ⟨zs, _, lo, hi, n, rfl, hL0, hn, _, rfl, iteF ?_⟩
    walk_at "w"
    change ∀ (x dx : Addr), _
    refine stq_made (a := lo) (b := hi) (ia := true) (ib := true) ql qh (by omega) (by omega) (some_tt hsp) (fun B H1 s1 SB => ?_)
    have hp1 := s1 _ _ hp
    have hT1 := s1.sqt hT
    have hm1 := hm.same s1
    walk_at "w"
    refine ⟨zs, _, n, rfl, hT1, hm1, k0, k1, l1, hn, hri, fun S H2 s2 SS => ?_⟩
    obtain ⟨a1, b1, St1, ra, rb⟩ := SS
    obtain ⟨a2, b2, St2, rc, rd⟩ := SB.same s2
    refine meth_s St1 (by decide +kernel) (by decide +kernel) (by decide +kernel) (by decide +kernel) ?_
    refine ⟨_, rfl, S, B, _, _, _, _, _, _, _, _, rfl, St1, St2, fun v H3 s3 C => ?_⟩
    have A1 : Alike (a1, (rulE zs r n).1.2 && (rulE zs r n).1.1.isSome) (rulE zs r n).1 := Alike.norm (i := (rulE zs r n).1.2) ra
    have A2 : Alike (a2, true && lo.isSome) (lo, true) := Alike.norm rc
    have B1 : Alike (b1, (rulE zs r n).2.2 && (rulE zs r n).2.1.isSome) (rulE zs r n).2 := Alike.norm (i := (rulE zs r n).2.2) rb
    have B2 : Alike (b2, true && hi.isSome) (hi, true) := Alike.norm rd
    exact kk v H3 ((s1.trans s2).trans s3) ⟨_, _, C, cutLo_alike A1 A2, cutHi_alike B1 B2⟩
theorem ok_turns_of {P : Program} {w : World} {K : PySem.W.Frag} {mg : Str → Option Value} {base : Heap} {φ : Fds} (T : Txt K mg φ) : FnOk P w K mg base CX0 8 (He.fAd K ("turns_of", none)) φ.turns_of p_turns_of (sp_turns K (He.ga K "Measure") (He.ga K "Ladder")) := by
  obtain ⟨_, B0v, B0⟩ := b_Ladder_len_1 T
  obtain ⟨_, B1v, B1⟩ := b_Ladder_stretch_2 T
  refine T.f_turns_of.ok sc_turns_of (fun vs H Q E h => ?_) (fun cdv A outer s H vs Q E hr h => ?_)
  · obtain ⟨p, k, zs, r, lo, hi, rfl, hL, k0, k1, kk⟩ := h; rfl
  · obtain ⟨p, k, zs, r, lo, hi, rfl, hL, k0, k1, kk⟩ := h
    refine ⟨_, PSs.nox (pss_cons (ps_setLc (i := 1) (own := [("number", 3)]) (g := gName 3) rfl sc_turns_of.nd rfl rfl (sw_true rfl rfl rfl (by decide +kernel)) (pi_range1 rfl T.z_range (pa_cons (pe_callB (id := "len") (call_lenO (ok_Ladder_len (K := K) T) T.me_Ladder_len (bnil B0v B0) pass0 (hr.mono (by decide))) (by rfl) T.z_len PySem.boot_len (pa_cons (pv 0) pa_nil)) pa_nil)) (blkOk_by (own := [("number", 3)]) (N := N_turns_of) (sc := (defScope s_turns_of)) (by decide +kernel)) (fun _ _ _ _ _ => (pg_name (i := 3) sc_turns_of.nd rfl (Or.inl rfl))) (fun _ _ _ _ _ => pts_nil) (fun _ _ _ _ _ => (pe_meth (pv 0) T.cl_Ladder T.me_Ladder_stretch (ok_Ladder_stretch (K := K) T) (hr.mono (by decide)) B1 B1v pass0 (pa_cons (pv 3) pa_nil))))
      (pss_cons (ps_setLc2 (i := 2) (own := [("stretch", 4), ("end", 5)]) (g := gName 4) (g1 := gName 5) (vs1 := [5]) rfl sc_turns_of.nd rfl rfl (sw_true rfl rfl rfl (by decide +kernel)) (pi_list (pv 1)) (blkOk_by (own := [("stretch", 4), ("end", 5)]) (N := N_turns_of) (sc := (defScope s_turns_of)) (by decide +kernel)) (by decide) (fun _ _ _ _ _ => (pg_name (i := 4) sc_turns_of.nd rfl (Or.inl rfl))) (fun _ _ _ _ _ => (pts_one (pt_cmpR op_notN (pv 4) pe_non (nomark _)))) (fun _ _ _ _ _ => (pi_listK (K := K) (pe_lst (pa_cons (fldK (K := K) (pv 4) rfl) (pa_cons (fldK (K := K) (pv 4) rfl) pa_nil))))) (fun _ _ _ _ _ => (pg_name (i := 5) sc_turns_of.nd rfl (Or.inl rfl))) (fun _ _ _ _ _ => pts_nil) (fun _ _ _ _ _ => (pv 5)))
      (pss_one (ps_ret (pe_lc (own := [("end", 5)]) (g := gName 5) rfl sc_turns_of.nd (pi_list (pv 2)) (blkOk_by (own := [("end", 5)]) (N := N_turns_of) (sc := (defScope s_turns_of)) (by decide +kernel)) (fun _ _ _ _ _ => (pg_name (i := 5) sc_turns_of.nd rfl (Or.inl rfl))) (fun _ _ _ _ _ => (pts_one (pt_cmpR op_notN (pv 5) pe_non (nomark _)))) (fun _ _ _ _ _ => (pv 5))))))), ?_⟩
    have cl_Ladder := T.cl_Ladder
    have na_Ladder_marks := T.na_Ladder_marks
    have na_Ladder_rule := T.na_Ladder_rule
    have na_Ladder_least := T.na_Ladder_least
    have na_Ladder_most := T.na_Ladder_most
    have cl_Stretch := T.cl_Stretch
    have na_Stretch_low := T.na_Stretch_low
    have na_Stretch_high := T.na_Stretch_high
    have na_Stretch_low_in := T.na_Stretch_low_in
    have na_Stretch_high_in := T.na_Stretch_high_in
    
    have l1 := hL.len1
    have hL0 := hL
    obtain ⟨⟨dx, T', ps, l, h, hp, hT, hm, ql, qh⟩, l0, _, hri, hru, hsp⟩ := hL0
    have szz := szL_of hm
    have sze := fun n => sizE_sz (n := n) (r := r) szz (szE_of ql) (szE_of qh)
    refine ⟨_, rfl, _, p, dx, _, rfl, rfl, hp, p, k, zs, r, lo, hi, rfl, hL, zs.length, rfl, by omega, ?_⟩
    walk_at "w"
    intro D nD
    refine lcr (n := zs.length) walk_range (fun _ _ _ _ => trivial) (fun i H v => RunV (He.ga K "Measure") (He.ga K "Stretch") H v zs r lo hi i) (fun i H H' v q n => q.nl n) (szs (by omega)) trivial nD (fun i x H1 H2 N M hi' s1 yy hN => ?_) (fun H1 sv s1 hD ly hy => ?_)
    · obtain ⟨rfl, rfl⟩ := yy
      have hL1 := hL.same s1
      refine ⟨rfl, yesT ?_⟩
      refine ⟨_, rfl, meth_l hL1 (by decide +kernel) (by decide +kernel) (by decide +kernel) (by decide +kernel) ?_⟩
      refine ⟨_, rfl, p, k, zs, r, lo, hi, i, by show [V.ref p, V.int (0 + (i : Int))] = _; rw [Int.zero_add], hL1, k0, k1, hi', fun v H' s' c => ?_⟩
      exact hN _ _ s' (run_of c)
    refine ⟨_, rfl, _, rfl, ⟨_, SqL.of hD⟩, fun D2 nD2 => ?_⟩
    refine lc2p (n := sv.length) (m := 2) walk_list (fun _ _ g s => s.seq g) (TuP (He.ga K "Measure") (k + k + 12) zs r lo hi) (TuI (He.ga K "Measure") (k + k + 12) zs r lo hi) (fun i H H' acc a n => ⟨a.1.nl n, a.2.nl n⟩) (fun i j H H' acc a n => ⟨a.1.nl n, a.2.1.nl n, fun z => (a.2.2.1 z).nl n, fun z => (a.2.2.2 z).nl n⟩) (szs (by omega)) (SqL.of hD) nD2 ⟨fun v hv => by simp at hv, fun n hn => by omega⟩ (fun i x H3 H4 acc NX hi' s3 hacc hP yy hskip hin => ?_) (fun H3 acc s3 hD2 lacc hP => ?_)
    · obtain ⟨rfl, hx⟩ := yy
      have rv := (hy i x hx).same s3
      have hiz : i < zs.length := by omega
      refine ⟨rfl, ?_⟩
      rcases rv with ⟨hs, q, rfl, lo', hi'', st, re1, re2⟩ | ⟨hs, rfl⟩
      · refine ⟨_, rfl, rfl, _, rfl, ?_⟩
        refine iteT ?_
        obtain ⟨⟨dq, vl, vh, hq, ml, mh⟩, lw1, lw2, _, _⟩ := st
        have e1 := qo_of ml lw1 re1 (sze i).1
        have e2 := qo_of mh lw2 re2 (sze i).2
        refine ⟨_, rfl, q, _, dq, _, _, rfl, hq, cl_Stretch, na_Stretch_low, sf_low _ _ _ _, _, rfl, q, _, dq, _, _, rfl, hq, cl_Stretch, na_Stretch_high, sf_high _ _ _ _, szl (by show 2 ≤ 1000; omega), fun L nL => ⟨L, rfl, ⟨_, SqL.of upd_same⟩, ?_⟩⟩
        have nLD : L ≠ D2 := fun e => by
          subst e
          rw [hacc] at nL
          cases nL
        have n1 : Nl H4 (upd H4 L (.lst [vl, vh])) := Nl.of (same1 nL)
        refine hin _ _ _ (fun H => SqL K H L [vl, vh]) _ (same1 nL) ⟨hP.1.nl n1, hP.2.nl n1, fun z => absurd z (Nat.lt_irrefl _), fun z => by omega⟩ (walk_list (xs := [vl, vh])) (fun H5 k5 => k5.seq nLD (SqL.of upd_same)) (fun j y H5 H6 acc2 N2 M2 hj k5 h5 pin y5 hy2 hno => ?_) (fun H5 acc2 k5 pin => ?_)
        · obtain ⟨rfl, hx2⟩ := y5
          have n5 : Nl H4 H6 := fun c o e no => k5 c o (same1 nL c o e) (fun ec => by
            subst ec
            rw [hacc] at e
            cases e
            cases no)
          refine ⟨rfl, yesT ⟨_, rfl, hy2 _ _ (Same.refl _) ?_⟩⟩
          rcases j with _ | _ | j
          · have ey : vl = y := by simpa using hx2
            subst ey
            exact ⟨pin.1.snoc (QO.nl n5 e1), pin.2.1.snoc _, fun _ => ⟨_, by simp, QO.nl n5 e1⟩, fun z => by omega⟩
          · have ey : vh = y := by simpa using hx2
            subst ey
            exact ⟨pin.1.snoc (QO.nl n5 e2), pin.2.1.snoc _, fun _ => (pin.2.2.1 (by omega)).snoc _, fun _ => ⟨_, by simp, QO.nl n5 e2⟩⟩
          · omega
        · refine ⟨pin.1, fun n hn h => ?_⟩
          by_cases e : n = i
          · subst e
            exact ⟨pin.2.2.1 (by omega), pin.2.2.2 (by omega)⟩
          · exact pin.2.1 n (by omega) h
      · refine ⟨_, rfl, rfl, _, rfl, ?_⟩
        refine iteF ?_
        refine hskip _ (Same.refl _) ⟨hP.1, fun n hn h => ?_⟩
        by_cases e : n = i
        · subst e
          rw [hs] at h
          cases h
        · exact hP.2 n (by omega) h
    refine ⟨_, rfl, D2, rfl, ⟨_, SqL.of hD2⟩, fun D3 nD3 => ?_⟩
    refine lcz (n := acc.length) walk_list (fun _ _ g s => s.seq g) (acc.map fun v => if v = .non then none else some v) (by rw [List.length_map]) (szs (by omega)) (SqL.of hD2) nD3 (fun i x H4 H5 z N M hi' hz s4 yy hy hn => ?_) (fun H4 s4 hD3 => ?_)
    · obtain ⟨rfl, hx⟩ := yy
      rw [List.getElem?_map, hx] at hz
      have hz : (if x = V.non then none else some x) = z := Option.some.inj hz
      refine ⟨rfl, _, rfl, rfl, _, rfl, ?_⟩
      show if (!decide (x = V.non)) = true then _ else _
      by_cases e : x = V.non
      · rw [if_neg (by simp [e])]
        rw [if_pos e] at hz
        exact hn _ hz.symm (Same.refl _)
      · rw [if_pos (by simp [e])]
        rw [if_neg e] at hz
        exact ⟨_, rfl, hy _ _ hz.symm (Same.refl _)⟩
    have hP4 : TuP (He.ga K "Measure") (k + k + 12) zs r lo hi sv.length H4 acc := ⟨hP.1.nl (Nl.of s4), hP.2.nl (Nl.of s4)⟩
    rw [ly] at hP4
    have hmem : ∀ v, v ∈ (acc.map fun v => if v = V.non then none else some v).filterMap _root_.id ↔ v ∈ acc ∧ v ≠ V.non := fun v => by
      rw [List.mem_filterMap]
      constructor
      · rintro ⟨o, ho, e⟩
        obtain ⟨u, hu, rfl⟩ := List.mem_map.mp ho
        by_cases c : u = V.non
        · rw [if_pos c] at e
          cases e
        · rw [if_neg c] at e
          cases e
          exact ⟨hu, c⟩
      · rintro ⟨h1, h2⟩
        exact ⟨some v, List.mem_map.mpr ⟨v, h1, by rw [if_neg h2]⟩, rfl⟩
    have hle : ((acc.map fun v => if v = V.non then none else some v).filterMap _root_.id).length ≤ acc.length := by
      have := List.length_filterMap_le (_root_.id : Option V → Option V) (acc.map fun v => if v = V.non then none else some v)
      rw [List.length_map] at this
      exact this
    obtain ⟨qs, mk⟩ := mks_of (CM := (He.ga K "Measure")) (H := H4) (k := k + k + 12) (ys := (acc.map fun v => if v = V.non then none else some v).filterMap _root_.id) fun v hv => by
      obtain ⟨h1, h2⟩ := (hmem v).mp hv
      obtain ⟨e, he⟩ := hP4.1 v h1
      cases e with
      | none => exact absurd he h2
      | some e =>
        obtain ⟨p, e1, e2⟩ := he
        exact ⟨p, e, e1, e2⟩
    have tell : ∀ {o : Option Q2}, HasE (He.ga K "Measure") H4 (k + k + 12) acc o → ∀ e, o = some e → ∃ q ∈ qs, toR q = toR e := by
      rintro o ⟨v, hv, qv⟩ e rfl
      obtain ⟨p, rfl, q⟩ := qv
      have hm := (hmem (V.ref p)).mpr ⟨hv, by simp⟩
      obtain ⟨i, hi'⟩ := List.mem_iff_getElem?.mp hm
      obtain ⟨p', z, e1, e2, q'⟩ := mk.of hi'
      cases e1
      exact ⟨z, List.mem_of_getElem? e2, QAt.toR q' q⟩
    exact kk D3 _ qs H4 ((s1.trans s3).trans s4) hD3 (by omega) ⟨mk, fun n hn h => ⟨tell (hP4.2 n hn h).1, tell (hP4.2 n hn h).2⟩⟩
theorem ok_turn_behind {P : Program} {w : World} {K : PySem.W.Frag} {mg : Str → Option Value} {base : Heap} {φ : Fds} (T : Txt K mg φ) : FnOk P w K mg base CX0 2 (He.fAd K ("turn_behind", none)) φ.turn_behind p_turn_behind (sp_behind (He.ga K "Measure")) := by
  obtain ⟨_, B0v, B0⟩ := b_Measure_is_below_2 T
  refine T.f_turn_behind.ok sc_turn_behind (fun vs H Q E h => ?_) (fun cdv A outer s H vs Q E hr h => ?_)
  · obtain ⟨D, p, h, k, ps, qs, x, y, rfl, hD, hm, hx, hy, lt, k9, kk⟩ := h; rfl
  · obtain ⟨D, p, h, k, ps, qs, x, y, rfl, hD, hm, hx, hy, lt, k9, kk⟩ := h
    refine ⟨_, PSs.nox (pss_cons (ps_set (i := 3) sc_turn_behind.nd rfl (Or.inl rfl) (pv 2))
      (pss_cons (ps_for PassesOwn.never rfl (pi_list (pv 0)) (pg_name (i := 4) sc_turn_behind.nd rfl (Or.inl rfl))
      (pss_one (ps_if (PW.pt (pw_and (pt_val (pe_meth (pv 1) T.cl_Measure T.me_Measure_is_below (ok_Measure_is_below (K := K) T) (hr.mono (by decide)) B0 B0v pass0 (pa_cons (pv 4) pa_nil))) (pw_and1 (pt_val (pe_meth (pv 4) T.cl_Measure T.me_Measure_is_below (ok_Measure_is_below (K := K) T) (hr.mono (by decide)) B0 B0v pass0 (pa_cons (pv 3) pa_nil))))))
      (pss_one (ps_set (i := 3) sc_turn_behind.nd rfl (Or.inl rfl) (pv 4)))
      pss_nil)))
      (pss_one (ps_ret (pv 3))))), ?_⟩
    have cl_Measure := T.cl_Measure
    have na_Measure_top := T.na_Measure_top
    have na_Measure_bottom := T.na_Measure_bottom
    
    walk_at "w"
    refine for_list (K := K) (a := D) (xs := ps) (fun i σ H' => (∃ l z v4, σ = [some (.ref D), some (.ref p), some (.ref h), some (.ref l), v4] ∧ QAt (He.ga K "Measure") H l k z ∧ (toR z = toR y ∨ ∃ q ∈ qs, toR q = toR z) ∧ toR x < toR z ∧ toR z ≤ toR y ∧ ∀ j q, j < i → qs[j]? = some q → toR x < toR q → toR z ≤ toR q) ∧ H' = H) ⟨⟨h, y, _, rfl, hy, .inl rfl, lt, Rat.le_refl, fun j q h => by omega⟩, rfl⟩ (fun i σ H' _ q => by rw [q.2]; exact SqL.of hD) ?_ ?_
    · rintro i v σ H' hv ⟨⟨l, z, v4, rfl, hz, c1, c2, c3, c4⟩, rfl⟩
      obtain ⟨t, q, rfl, hq, qt⟩ := hm.of hv
      have stay : ¬ (toR x < toR q ∧ toR q < toR z) → ∀ j q, j < i + 1 → qs[j]? = some q → toR x < toR q → toR z ≤ toR q := fun n j q' hj hq' g => by
        by_cases e : j = i
        · subst e
          rw [hq] at hq'
          cases hq'
          have := fun g2 => n ⟨g, g2⟩
          grind
        · exact c4 j q' (by omega) hq' g
      walk_at "w"
      by_cases g1 : toR x < toR q
      · rw [(ltq_R hx.pos qt.pos).mpr g1]
        refine iteT ?_
        walk_at "w"
        by_cases g2 : toR q < toR z
        · rw [(ltq_R qt.pos hz.pos).mpr g2]
          walk_at "w"
          refine ⟨⟨t, q, _, rfl, qt, .inr ⟨q, List.mem_of_getElem? hq, rfl⟩, g1, by grind, fun j q' hj hq' g => ?_⟩, rfl⟩
          by_cases e : j = i
          · subst e
            rw [hq] at hq'
            cases hq'
            exact Rat.le_refl
          · have := c4 j q' (by omega) hq' g
            grind
        · rw [show ltq q z = false from by
            cases e : ltq q z
            · rfl
            · exact absurd ((ltq_R qt.pos hz.pos).mp e) g2]
          walk_at "w"
          exact ⟨⟨l, z, _, rfl, hz, c1, c2, c3, stay fun g => g2 g.2⟩, rfl⟩
      · rw [show ltq x q = false from by
          cases e : ltq x q
          · rfl
          · exact absurd ((ltq_R hx.pos qt.pos).mp e) g1]
        refine iteF ?_
        walk_at "w"
        exact ⟨⟨l, z, _, rfl, hz, c1, c2, c3, stay fun g => g1 g.1⟩, rfl⟩
    · rintro σ H' ⟨⟨l, z, v4, rfl, hz, c1, c2, c3, c4⟩, rfl⟩
      refine ⟨_, rfl, kk l z hz ⟨c1, c2, c3, fun q hq g => ?_⟩⟩
      obtain ⟨j, hj⟩ := List.mem_iff_getElem?.mp hq
      exact c4 j q (by rw [hm.len]; exact (List.getElem?_eq_some_iff.mp hj).1) hj g
theorem ok_points_of {P : Program} {w : World} {K : PySem.W.Frag} {mg : Str → Option Value} {base : Heap} {φ : Fds} (T : Txt K mg φ) : FnOk P w K mg base CX0 3 (He.fAd K ("points_of", none)) φ.points_of p_points_of (sp_points (He.ga K "Measure")) := by
  obtain ⟨_, B0v, B0⟩ := b_Measure_is_below_2 T
  obtain ⟨_, B1v, B1⟩ := b_turn_behind_3 T
  obtain ⟨_, B2v, B2⟩ := b_Measure_eq_2 T
  refine T.f_points_of.ok sc_points_of (fun vs H Q E h => ?_) (fun cdv A outer s H vs Q E hr h => ?_)
  · obtain ⟨D, p, h, k, ps, qs, x, y, rfl, hD, hm, hx, hy, k4, l4, kk⟩ := h; rfl
  · obtain ⟨D, p, h, k, ps, qs, x, y, rfl, hD, hm, hx, hy, k4, l4, kk⟩ := h
    refine ⟨_, PSs.nox (pss_cons (ps_set (i := 3) sc_points_of.nd rfl (Or.inl rfl) (pe_lst pa_nil))
      (pss_cons (ps_set (i := 4) sc_points_of.nd rfl (Or.inl rfl) (pv 1))
      (pss_cons (ps_while PassesOwn.never (pt_val (pe_meth (pv 4) T.cl_Measure T.me_Measure_is_below (ok_Measure_is_below (K := K) T) (hr.mono (by decide)) B0 B0v pass0 (pa_cons (pv 2) pa_nil)))
      (pss_cons (ps_expr (pe_bm PySem.F.plainAttrs_list PySem.F.slot_list_append PySem.F.type_list_append mt_append (pv 3) (pa_cons (pv 4) pa_nil)))
      (pss_one (ps_set (i := 4) sc_points_of.nd rfl (Or.inl rfl) (pe_call (ok_turn_behind (K := K) T) (hr.mono (by decide)) rfl T.g_turn_behind T.f_turn_behind.kp B1 B1v pass0 (pa_cons (pv 0) (pa_cons (pv 4) (pa_cons (pv 2) pa_nil))))))))
      (pss_cons (ps_if (pt_cmpR (op_eqI (ok_Measure_eq (K := K) T) (hr.mono (by decide)) T.me_Measure_eq B2 B2v pass0) (pv 4) (pv 2) (nomark _))
      (pss_one (ps_expr (pe_bm PySem.F.plainAttrs_list PySem.F.slot_list_append PySem.F.type_list_append mt_append (pv 3) (pa_cons (pv 4) pa_nil))))
      pss_nil)
      (pss_one (ps_ret (pv 3))))))), ?_⟩
    have cl_Measure := T.cl_Measure
    have na_Measure_top := T.na_Measure_top
    have na_Measure_bottom := T.na_Measure_bottom
    
    walk_at "w"
    intro S nS
    have s0 : Same H (upd H S (.lst [])) := same1 nS
    have hS : upd H S (.lst []) S = some (.lst []) := upd_same
    generalize upd H S (.lst []) = H1 at *
    have hq0 : ∀ q ∈ qs, 0 < q.2 := mks_pos hm
    have nDS : D ≠ S := fun e => by
      subst e
      rw [hD] at nS
      cases nS
    walk_at "w"
    refine ⟨fun m σ H' => ∃ (us : List V) (zs : List Q2) (z : Q2) (q : Addr), σ = [some (.ref D), some (.ref p), some (.ref h), some (.ref S), some (.ref q)] ∧ Same H H' ∧ H' S = some (.lst us) ∧ Mks (He.ga K "Measure") H' k us zs ∧ QAt (He.ga K "Measure") H' q k z ∧ PtsP qs x y zs z ∧ zs.length + leftN qs z y ≤ ps.length + 1 ∧ m = leftN qs z y, ⟨_, [], [], x, p, rfl, s0, hS, ⟨rfl, fun i v z h => by simp at h⟩, hx.same s0, PtsP.first, ?_, rfl⟩, ?_⟩
    · have l1 := List.countP_le_length (p := ltq x) (l := qs)
      have l2 := hm.len
      unfold leftN
      rw [List.length_nil]
      split <;> omega
    rintro m σ H' ⟨us, zs, z, q, rfl, s1, hS1, mk, hz, P, l1, rfl⟩
    have hy1 := hy.same s1
    have lu := mk.len
    have s2 : ∀ vs, Same H (upd H' S (.lst vs)) := fun vs c o e => by
      rw [upd_ne (ne_of_none e nS)]
      exact s1 _ _ e
    have n2 : ∀ vs, Nl H' (upd H' S (.lst vs)) := fun vs => Nl.put hS1
    walk_at "w"
    by_cases g : toR z < toR y
    · rw [(ltq_R hz.pos hy.pos).mpr g]
      refine iteT ⟨_, fun σ' H'' w => w, ?_⟩
      refine ⟨_, rfl, .inl ⟨rfl, _, SqL.of hS1⟩, _, rfl, S, us, .ref q, rfl, rfl, hS1, szs (by omega), ?_⟩
      refine ⟨_, rfl, _, rfl, _, rfl, D, q, h, k, ps, qs, z, y, rfl, s2 _ _ _ hD, hm.same (s2 _), hz.nl (n2 _), hy.same (s2 _), g, by omega, fun r w hw B => ?_⟩
      have lt := left_lt hq0 hz.pos hy.pos hw.pos g B
      refine ⟨leftN qs w y, lt, us ++ [.ref q], zs ++ [z], w, r, rfl, s2 _, upd_same, mks_snoc (mks_nl mk (n2 _)) (hz.nl (n2 _)), hw, P.next B, ?_, rfl⟩
      rw [List.length_append, List.length_singleton]
      omega
    · rw [ltq_F hz.pos hy.pos g]
      refine iteF ?_
      refine ⟨_, rfl, _, rfl, q_eqI hz hy1 ⟨_, rfl, ?_⟩⟩
      show if eqq z y = true then _ else _
      by_cases e : toR z = toR y
      · rw [eqq_T hz.pos hy.pos e]
        refine iteT ?_
        refine ⟨_, rfl, .inl ⟨rfl, _, SqL.of hS1⟩, _, rfl, S, us, .ref q, rfl, rfl, hS1, szs (by omega), ?_⟩
        refine ⟨_, rfl, ?_⟩
        exact kk S _ _ _ (s2 _) upd_same (by rw [List.length_append, List.length_singleton]; omega) (mks_snoc (mks_nl mk (n2 _)) (hz.nl (n2 _))) (P.done e)
      · rw [eqq_F hz.pos hy.pos e]
        refine iteF ?_
        refine ⟨_, rfl, ?_⟩
        exact kk S _ _ _ s1 hS1 (by omega) mk (P.over (by grind))
theorem ok_looks_of {P : Program} {w : World} {K : PySem.W.Frag} {mg : Str → Option Value} {base : Heap} {φ : Fds} (T : Txt K mg φ) : FnOk P w K mg base CX0 5 (He.fAd K ("looks_of", none)) φ.looks_of p_looks_of (sp_looks (He.ga K "Measure")) := by
  obtain ⟨_, B0v, B0⟩ := b_Measure_parted_1 T
  obtain ⟨_, B1v, B1⟩ := b_Measure_plus_2 T
  refine T.f_looks_of.ok sc_looks_of (fun vs H Q E h => ?_) (fun cdv A outer s H vs Q E hr h => ?_)
  · obtain ⟨D, k, ps, zs, rfl, hD, hm, k0, k4, l4, kk⟩ := h; rfl
  · obtain ⟨D, k, ps, zs, rfl, hD, hm, k0, k4, l4, kk⟩ := h
    refine ⟨_, PSs.nox (pss_cons (ps_set (i := 1) sc_looks_of.nd rfl (Or.inl rfl) (pe_lst pa_nil))
      (pss_cons (ps_for PassesOwn.never rfl (pi_enum (by rfl) T.z_enumerate (pa_cons (pv 0) pa_nil)) (pg_tup rfl (pgs_cons (pg_name (i := 2) sc_looks_of.nd rfl (Or.inl rfl)) (pgs_cons (pg_name (i := 3) sc_looks_of.nd rfl (Or.inl rfl)) pgs_nil)))
      (pss_cons (ps_expr (pe_bm PySem.F.plainAttrs_list PySem.F.slot_list_append PySem.F.type_list_append mt_append (pv 1) (pa_cons (pe_tup (pa_cons (pv 3) (pa_cons pe_str (pa_cons (pv 3) pa_nil)))) pa_nil)))
      (pss_one (ps_if (pt_cmpR op_lt (pe_op op_add (pv 2) pe_int) (pe_callB (id := "len") (lenS (K := K)) (by rfl) T.z_len PySem.boot_len (pa_cons (pv 0) pa_nil)) (nomark _))
      (pss_one (ps_expr (pe_bm PySem.F.plainAttrs_list PySem.F.slot_list_append PySem.F.type_list_append mt_append (pv 1) (pa_cons (pe_tup (pa_cons (pv 3) (pa_cons pe_str (pa_cons (pe_meth0 (pe_meth (pv 3) T.cl_Measure T.me_Measure_plus (ok_Measure_plus (K := K) T) (hr.mono (by decide)) B1 B1v pass0 (pa_cons (pe_ix (ixl (K := K)) (pv 0) (pe_op op_add (pv 2) pe_int) (fun _ _ => rfl)) pa_nil)) T.cl_Measure T.me_Measure_parted (ok_Measure_parted (K := K) T) (hr.mono (by decide)) B0 B0v pass0) pa_nil)))) pa_nil))))
      pss_nil))))
      (pss_one (ps_ret (pv 1))))), ?_⟩
    have cl_Measure := T.cl_Measure
    have na_Measure_top := T.na_Measure_top
    have na_Measure_bottom := T.na_Measure_bottom
    
    walk_at "w"
    intro S nS
    have s0 : Same H (upd H S (.lst [])) := same1 nS
    have hS : upd H S (.lst []) S = some (.lst []) := upd_same
    generalize upd H S (.lst []) = H1 at *
    have lz := hm.len
    have s9 : ∀ {H' : Hp} {vs : List V}, Same H H' → Same H (upd H' S (.lst vs)) := fun s1 c o e => by
      rw [upd_ne (ne_of_none e nS)]
      exact s1 _ _ e
    refine ⟨_, rfl, D, ps, rfl, SqL.of (s0 _ _ hD), ?_⟩
    refine for_it walk_enum (fun i σ H' => (∃ v2 v3, σ = [some (.ref D), some (.ref S), v2, v3]) ∧ Same H H' ∧ ∃ ls, H' S = some (.lst ls) ∧ (i < ps.length → ls.length = 2 * i) ∧ (i = ps.length → ls.length = 2 * ps.length - 1) ∧ ∀ j v, ls[j]? = some v → LookV (He.ga K "Measure") H' k zs j v) ⟨⟨_, _, rfl⟩, s0, [], hS, fun _ => rfl, fun e => by rw [← e]; rfl, fun j v h => by simp at h⟩ (fun i σ H' _ q => q.2.1.seq (SqL.of hD)) ?_ ?_
    · rintro i x σ H1 H2 hi ⟨⟨v2, v3, rfl⟩, s1, ls, hS1, la, lb, hl⟩ ⟨T', a0, b0, rfl, nT, rfl, ha, hb0⟩
      cases ha
      obtain ⟨p, z, rfl, hz, qz⟩ := hm.of hb0
      have s2 : Same H (upd H1 T' (.tup [.int (i : Nat), .ref p])) := s1.trans (same1 nT)
      have hS2 : upd H1 T' (.tup [.int (i : Nat), .ref p]) S = some (.lst ls) := up1 nT hS1
      have n2 : Nl H1 (upd H1 T' (.tup [.int (i : Nat), .ref p])) := Nl.of (same1 nT)
      refine ⟨T', _, rfl, SqT.of upd_same, rfl, _, _, rfl, _, _, rfl, rfl, ?_⟩
      generalize upd H1 T' _ = H2 at s2 hS2 n2 ⊢
      have l2 := la hi
      refine ⟨_, rfl, .inl ⟨rfl, _, SqL.of hS2⟩, _, rfl, _, rfl, szl (by show 3 ≤ 1000; omega), fun A nA => ⟨S, ls, .ref A, rfl, rfl, up1 nA hS2, szs (by omega), ?_⟩⟩
      have nAS : A ≠ S := fun e => by
        subst e
        rw [hS2] at nA
        cases nA
      have n3 : Nl H2 (upd (upd H2 A (.tup [.ref p, .str "at", .ref p])) S (.lst (ls ++ [.ref A]))) := fun c o e no => Nl.put (up1 nA hS2) _ _ (same1 nA _ _ e) no
      have s3 : Same H (upd (upd H2 A (.tup [.ref p, .str "at", .ref p])) S (.lst (ls ++ [.ref A]))) := s9 (s2.up nA)
      have hA3 : upd (upd H2 A (.tup [.ref p, .str "at", .ref p])) S (.lst (ls ++ [.ref A])) A = some (.tup [.ref p, .str "at", .ref p]) := by
        rw [upd_ne nAS]
        exact upd_same
      have hS3 : upd (upd H2 A (.tup [.ref p, .str "at", .ref p])) S (.lst (ls ++ [.ref A])) S = some (.lst (ls ++ [.ref A])) := upd_same
      generalize upd (upd H2 A (.tup [.ref p, .str "at", .ref p])) S (.lst (ls ++ [.ref A])) = H3 at n3 s3 hA3 hS3 ⊢
      have hl3 := look_snoc hl (fun c o e no => n3 _ _ (n2 _ _ e no) no) (w := .ref A) (by rw [l2]; exact ⟨A, p, z, rfl, by rw [show 2 * i / 2 = i by omega]; exact hz, qz.same s3, .inl ⟨by omega, hA3⟩⟩)
      have hD3 := s3 _ _ hD
      have qz3 := qz.same s3
      walk_at "w"
      refine ite2 (fun e => ?_) (fun e => ?_)
      · have hi1 : i + 1 < ps.length := by
          have := of_decide_eq_true e
          omega
        obtain ⟨w, hw⟩ : ∃ w, zs[i + 1]? = some w := ⟨_, List.getElem?_eq_getElem (by omega)⟩
        obtain ⟨r, hr', qr⟩ := hm.at hw
        have qr3 := qr.same s3
        refine ⟨_, rfl, .inl ⟨rfl, _, SqL.of hS3⟩, _, rfl, _, rfl, ?_⟩
        refine meth_q qz3 (by decide +kernel) (by decide +kernel) ?_
        refine ⟨_, rfl, _, rfl, _, _, rfl, rfl, D, ps, _, _, rfl, rfl, SqL.of hD3, (show atI ps ((i + 1 : Nat) : Int) = _ from atI_nat hr'), ?_⟩
        refine q_addT qz3 qr3 (by omega) k0 k0 fun B H4 s4 qB => ?_
        refine meth_q qB (by decide +kernel) (by decide +kernel) ?_
        refine q_prt2T qB (by omega) (by omega) fun M H5 s5 qM => ?_
        refine ⟨szl (by show 3 ≤ 1000; omega), fun A2 nA2 => ?_⟩
        have s35 := s4.trans s5
        have hS5 := s35 _ _ hS3
        refine ⟨S, ls ++ [.ref A], .ref A2, rfl, rfl, up1 nA2 hS5, szs (by rw [List.length_append, List.length_singleton]; omega), ?_⟩
        have nAS2 : A2 ≠ S := fun e => by
          subst e
          rw [hS5] at nA2
          cases nA2
        have lq : (ls ++ [V.ref A]).length = 2 * i + 1 := by
          rw [List.length_append, List.length_singleton, l2]
        refine ⟨⟨_, _, rfl⟩, s9 ((s3.trans s35).up nA2), (ls ++ [.ref A]) ++ [.ref A2], upd_same, fun g => ?_, fun g => by omega, ?_⟩
        · rw [List.length_append, lq, List.length_singleton]
          omega
        · have n6 : ∀ u v, Nl H5 (upd (upd H5 A2 u) S (.lst v)) := fun u v c o e no => Nl.put (up1 nA2 hS5) _ _ (same1 nA2 _ _ e) no
          refine look_snoc hl3 (fun c o e no => n6 _ _ _ _ (s35 _ _ e) no) ?_
          rw [lq]
          refine ⟨A2, p, z, rfl, by rw [show (2 * i + 1) / 2 = i by omega]; exact hz, (qz3.same s35).nl (n6 _ _), .inr ⟨by omega, M, w, by rw [show (2 * i + 1) / 2 + 1 = i + 1 by omega]; exact hw, ?_, qM.nl (n6 _ _)⟩⟩
          rw [upd_ne nAS2]
          exact upd_same
      · have hi1 : i + 1 = ps.length := by
          have : ¬ ((i : Int) + 1 < (ps.length : Int)) := fun g => e (decide_eq_true g)
          omega
        refine ⟨⟨_, _, rfl⟩, s3, ls ++ [.ref A], hS3, fun g => by omega, fun g => ?_, hl3⟩
        rw [List.length_append, List.length_singleton]
        omega
    · rintro σ H' ⟨⟨v2, v3, rfl⟩, s1, ls, hS1, la, lb, hl⟩
      refine ⟨_, rfl, kk S ls H' s1 hS1 ?_ hl⟩
      rw [lb rfl, lz]
theorem ok_are_alike {P : Program} {w : World} {K : PySem.W.Frag} {mg : Str → Option Value} {base : Heap} {φ : Fds} (T : Txt K mg φ) : FnOk P w K mg base CX0 1 (He.fAd K ("are_alike", none)) φ.are_alike p_are_alike sp_alike2 := by
  refine T.f_are_alike.ok sc_are_alike (fun vs H Q E h => ?_) (fun cdv A outer s H vs Q E hr h => ?_)
  · obtain ⟨a, b, sh, rfl, kk⟩ := h; rfl
  · obtain ⟨a, b, sh, rfl, kk⟩ := h
    refine ⟨_, PSs.nox (pss_cons (ps_if (PW.pt (pw_or (pt_cmpR op_isN (pv 0) pe_non (nomark _)) (pw_or1 (pt_cmpR op_isN (pv 1) pe_non (nomark _)))))
      (pss_one (ps_ret (pe_and (pe_cmpR op_isN (pv 0) pe_non (nomark _)) (pe_one (pe_cmpR op_isN (pv 1) pe_non (nomark _))))))
      pss_nil)
      (pss_one (ps_ret (pe_cmpR op_eq (pv 1) (pe_op op_add (pv 0) (pv 2)) (nomark _))))), ?_⟩
    cases a with
    | none =>
      cases b with
      | none =>
        have kk : Q (.bl true) H := kk
        walk_at "w"
        show Q (.bl (decide (optI none = V.non))) H
        rw [show decide (optI none = V.non) = true from decide_eq_true rfl]
        exact kk
      | some b =>
        have kk : Q (.bl false) H := kk
        walk_at "w"
        show Q (.bl (decide (optI (some b) = V.non))) H
        rw [show decide (optI (some b) = V.non) = false from decide_eq_false fun h => by cases h]
        exact kk
    | some a =>
      cases b with
      | none =>
        have kk : Q (.bl false) H := kk
        walk_at "w"
        exact kk
      | some b =>
        have kk : Q (.bl (decide ((b : Int) = (a : Int) + sh))) H := kk
        walk_at "w"
        show Q (.bl (decide (V.int (b : Int) = V.int ((a : Int) + sh)))) H
        rw [show decide (V.int (b : Int) = V.int ((a : Int) + sh)) = decide ((b : Int) = (a : Int) + sh) from decide_eq_decide.mpr ⟨fun h => by injection h, fun h => by rw [h]⟩]
        exact kk
theorem ok_parting {P : Program} {w : World} {K : PySem.W.Frag} {mg : Str → Option Value} {base : Heap} {φ : Fds} (T : Txt K mg φ) : FnOk P w K mg base CX0 9 (He.fAd K ("parting", none)) φ.parting p_parting (sp_parting K (He.ga K "Measure") (He.ga K "Ladder")) := by
  obtain ⟨_, B0v, B0⟩ := b_points_of_3 T
  obtain ⟨_, B1v, B1⟩ := b_turns_of_1 T
  obtain ⟨_, B2v, B2⟩ := b_looks_of_1 T
  obtain ⟨_, B3v, B3⟩ := b_Ladder_size_2 T
  obtain ⟨_, B4v, B4⟩ := b_are_alike_3 T
  refine T.f_parting.ok sc_parting (fun vs H Q E h => ?_) (fun cdv A outer s H vs Q E hr h => ?_)
  · obtain ⟨p, q, l, h, sh, k, zs, zt, r, rt, lo, hi, lt, ht, x, y, rfl, hp, hq, hl, hh, k0, k2, kk⟩ := h; rfl
  · obtain ⟨p, q, l, h, sh, k, zs, zt, r, rt, lo, hi, lt, ht, x, y, rfl, hp, hq, hl, hh, k0, k2, kk⟩ := h
    refine ⟨_, PSs.nox (pss_cons (ps_set (i := 5) sc_parting.nd rfl (Or.inl rfl) (pe_call (ok_points_of (K := K) T) (hr.mono (by decide)) rfl T.g_points_of T.f_points_of.kp B0 B0v pass0 (pa_cons (pe_op op_cat (pe_call (ok_turns_of (K := K) T) (hr.mono (by decide)) rfl T.g_turns_of T.f_turns_of.kp B1 B1v pass0 (pa_cons (pv 0) pa_nil)) (pe_call (ok_turns_of (K := K) T) (hr.mono (by decide)) rfl T.g_turns_of T.f_turns_of.kp B1 B1v pass0 (pa_cons (pv 1) pa_nil))) (pa_cons (pv 2) (pa_cons (pv 3) pa_nil)))))
      (pss_cons (ps_for PassesOwn.never rfl (pi_list (pe_call (ok_looks_of (K := K) T) (hr.mono (by decide)) rfl T.g_looks_of T.f_looks_of.kp B2 B2v pass0 (pa_cons (pv 5) pa_nil))) (pg_tup rfl (pgs_cons (pg_name (i := 6) sc_parting.nd rfl (Or.inl rfl)) (pgs_cons (pg_name (i := 7) sc_parting.nd rfl (Or.inl rfl)) (pgs_cons (pg_name (i := 8) sc_parting.nd rfl (Or.inl rfl)) pgs_nil))))
      (pss_cons (ps_set (i := 9) sc_parting.nd rfl (Or.inl rfl) (pe_meth (pv 0) T.cl_Ladder T.me_Ladder_size (ok_Ladder_size (K := K) T) (hr.mono (by decide)) B3 B3v pass0 (pa_cons (pv 8) pa_nil)))
      (pss_cons (ps_set (i := 10) sc_parting.nd rfl (Or.inl rfl) (pe_meth (pv 1) T.cl_Ladder T.me_Ladder_size (ok_Ladder_size (K := K) T) (hr.mono (by decide)) B3 B3v pass0 (pa_cons (pv 8) pa_nil)))
      (pss_one (ps_if (pt_not (pt_val (pe_call (ok_are_alike (K := K) T) (hr.mono (by decide)) rfl T.g_are_alike T.f_are_alike.kp B4 B4v pass0 (pa_cons (pv 9) (pa_cons (pv 10) (pa_cons (pv 4) pa_nil))))))
      (pss_one (ps_ret (pe_tup (pa_cons pe_str (pa_cons (pv 6) (pa_cons (pv 7) (pa_cons (pv 9) (pa_cons (pv 10) pa_nil))))))))
      pss_nil)))))
      (pss_one (ps_ret (pe_tup (pa_cons pe_str pa_nil)))))), ?_⟩
    have cl_Measure := T.cl_Measure
    have na_Measure_top := T.na_Measure_top
    have na_Measure_bottom := T.na_Measure_bottom
    have cl_Ladder := T.cl_Ladder
    have na_Ladder_marks := T.na_Ladder_marks
    have na_Ladder_rule := T.na_Ladder_rule
    have na_Ladder_least := T.na_Ladder_least
    have na_Ladder_most := T.na_Ladder_most
    
    refine ⟨_, rfl, p, k, zs, r, lo, hi, rfl, hp, k0, by omega, fun D1 ps1 q1 H1 s1 hD1 l1 t1 => ?_⟩
    refine ⟨_, rfl, q, k, zt, rt, lt, ht, rfl, hq.same s1, k0, by omega, fun D2 ps2 q2 H2 s2 hD2 l2 t2 => ?_⟩
    refine ⟨D1, D2, ps1, ps2, rfl, rfl, s2 _ _ hD1, hD2, szl (by omega), fun D nD => ?_⟩
    have s3 : Same H2 (upd H2 D (.lst (ps1 ++ ps2))) := same1 nD
    have hD : upd H2 D (.lst (ps1 ++ ps2)) D = some (.lst (ps1 ++ ps2)) := upd_same
    generalize upd H2 D (.lst (ps1 ++ ps2)) = H3 at s3 hD ⊢
    have s03 : Same H H3 := (s1.trans s2).trans s3
    refine ⟨_, rfl, _, rfl, D, l, h, k + k + 12, ps1 ++ ps2, q1 ++ q2, x, y, rfl, hD, mks_app (t1.ms.same (s2.trans s3)) (t2.ms.same s3), (hl.same s03).mono (by omega), (hh.same s03).mono (by omega), by omega, by rw [List.length_append]; omega, fun Dp ups us H4 s4 hDp l4 mk P => ?_⟩
    refine ⟨_, rfl, Dp, k + k + 12, ups, us, rfl, hDp, mk, by omega, by omega, l4, fun L ls H5 s5 hL lls hls => ?_⟩
    have PP := pts_of (ladq_of hp) (ladq_of hq) t1.has t2.has P
    have s05 : Same H H5 := (s03.trans s4).trans s5
    refine ⟨L, rfl, ⟨_, SqL.of hL⟩, ?_⟩
    refine for_list (K := K) (a := L) (xs := ls) (fun j σ H' => (∃ v6 v7 v8 v9 v10 : Option V, σ = [some (.ref p), some (.ref q), some (.ref l), some (.ref h), some (.int sh), some (.ref Dp), v6, v7, v8, v9, v10]) ∧ Same H5 H' ∧ ∀ j' c, j' < j → LookR us j' c → alkB (sizF zs r lo hi c) (sizF zt rt lt ht c) sh = true) ⟨⟨_, _, _, _, _, rfl⟩, Same.refl _, fun j' c h => by omega⟩ (fun j σ H' _ q => q.2.1.seq (SqL.of hL)) ?_ ?_
    · rintro j v σ H6 hv ⟨⟨v6, v7, v8, v9, v10, rfl⟩, s6, hj⟩
      obtain ⟨T', pz, m, z, xx, rfl, hT, hz, qz, qm, lr⟩ := look_at ((hls j v hv).nl (Nl.of s6))
      refine ⟨T', _, rfl, SqT.of hT, rfl, _, _, rfl, _, _, rfl, _, _, rfl, rfl, ?_⟩
      have s06 := s05.trans s6
      have hp6 := (hp.same s06).mono (j := k + k + 12 + (k + k + 12) + 12) (by omega)
      refine ⟨_, rfl, meth_l hp6 (by decide +kernel) (by decide +kernel) (by decide +kernel) (by decide +kernel) ⟨_, rfl, p, m, _, zs, r, lo, hi, xx, rfl, hp6, qm, by omega, by omega, fun H7 s7 => ?_⟩⟩
      have s07 := s06.trans s7
      have hq7 := (hq.same s07).mono (j := k + k + 12 + (k + k + 12) + 12) (by omega)
      refine ⟨_, rfl, meth_l hq7 (by decide +kernel) (by decide +kernel) (by decide +kernel) (by decide +kernel) ⟨_, rfl, q, m, _, zt, rt, lt, ht, xx, rfl, hq7, qm.same s7, by omega, by omega, fun H8 s8 => ?_⟩⟩
      rw [sizF_eq (ladq_of hp) qm.pos, sizF_eq (ladq_of hq) qm.pos]
      refine ⟨_, rfl, _, rfl, _, rfl, sizF zs r lo hi (toR xx), sizF zt rt lt ht (toR xx), sh, rfl, _, rfl, ?_⟩
      have s58 := s6.trans (s7.trans s8)
      cases e : alkB (sizF zs r lo hi (toR xx)) (sizF zt rt lt ht (toR xx)) sh with
      | true =>
        refine iteF ?_
        refine ⟨⟨_, _, _, _, _, rfl⟩, s58, fun j' c hj' l => ?_⟩
        by_cases e2 : j' = j
        · subst e2
          rw [l.uniq lr]
          exact e
        · exact hj j' c (by omega) l
      | false =>
        refine iteT ?_
        refine ⟨_, rfl, _, rfl, _, rfl, _, rfl, szl (by show 5 ≤ 1000; omega), fun R nR => ?_⟩
        have le : toR x ≤ toR y := Classical.byContradiction fun g => by
          rw [P.em (by grind)] at hz
          simp at hz
        exact kk R (some (toR z, decide (j % 2 = 1), _, _)) _ ((s05.trans s58).up nR) ⟨pz, z, qz.same ((s7.trans s8).up nR), rfl, upd_same⟩ (part_stop (PP le) hz lr hj e)
    · rintro σ H6 ⟨⟨v6, v7, v8, v9, v10, rfl⟩, s6, hj⟩
      refine ⟨szl (by show 1 ≤ 1000; omega), fun R nR => ?_⟩
      exact kk R none _ ((s05.trans s6).up nR) upd_same (part_fin PP fun j c l => hj j c (by rw [lls]; exact l.lt) l)
theorem ok_Measure_eqX {P : Program} {w : World} {K : PySem.W.Frag} {mg : Str → Option Value} {base : Heap} {φ : Fds} (T : Txt K mg φ) : FnOk P w K mg base CX0 1 (He.fAd K ("Measure", some "__eq__")) φ.Measure_eq p_Measure_eq (spEqB (REq K (He.ga K "Measure"))) := by
  refine T.f_Measure_eq.ok sc_Measure_eq (fun vs H Q E h => ?_) (fun cdv A outer s H vs Q E hr h => ?_)
  · obtain ⟨x, y, b, rfl, ⟨p, t, u, rfl, ⟨dp, hp⟩, hy⟩, k⟩ := h; rfl
  · obtain ⟨x, y, b, rfl, ⟨p, t, u, rfl, ⟨dp, hp⟩, hy⟩, k⟩ := h
    refine ⟨_, PSs.nox (pss_one (ps_ret (pe_and (pe_callB (id := "isinstance") (isi (K := K)) (by rfl) T.z_isinstance (by decide +kernel) (pa_cons (pv 1) (pa_cons (pe_glob (v := .ref (He.ga K "Measure")) rfl T.g_Measure rfl) pa_nil))) (pe_and (pe_cmpR op_eq (fldK (K := K) (pv 0) rfl) (fldK (K := K) (pv 1) rfl) (nomark _)) (pe_one (pe_cmpR op_eq (fldK (K := K) (pv 0) rfl) (fldK (K := K) (pv 1) rfl) (nomark _))))))), ?_⟩
    rcases hy with ⟨q, t', u', rfl, ⟨dq, hq⟩, rfl⟩ | ⟨tv, ty, kt, rfl⟩
    · refine ⟨_, rfl, _, _, _, _, true, rfl, .own _, tyM hq T.cl_Measure T.ii_Measure, T.k_Measure_Measure, _, rfl, iteT ?_⟩
      refine ⟨_, rfl, _, _, _, _, _, rfl, hp, T.cl_Measure, T.na_Measure_top, mf_top _ _, _, rfl, _, _, _, _, _, rfl, hq, T.cl_Measure, T.na_Measure_top, mf_top _ _, rfl, _, rfl, ?_⟩
      rw [dI]
      refine ite2 (fun e => ?_) (fun e => ?_)
      · rw [e] at k
        refine ⟨_, rfl, _, _, _, _, _, rfl, hp, T.cl_Measure, T.na_Measure_bottom, mf_bottom _ _, _, rfl, _, _, _, _, _, rfl, hq, T.cl_Measure, T.na_Measure_bottom, mf_bottom _ _, rfl, ?_⟩
        rw [dI]
        exact k
      · rw [isTrueN e] at k
        exact k
    · refine ⟨_, rfl, _, _, _, _, false, rfl, .own _, ty, kt, _, rfl, iteF ?_⟩
      exact k
theorem kitsT {K : PySem.W.Frag} {mg : Str → Option Value} {φ : Fds} (T : Txt K mg φ) : KitsT K (He.ga K "Measure") (He.ga K "Stretch") (He.ga K "Ladder") := ⟨T.cl_Measure, T.ii_Measure, T.cl_Stretch, T.ii_Stretch, T.cl_Ladder, T.ii_Ladder, ⟨T.k_Measure_tuple, T.k_Measure_str, T.k_Measure_int, T.k_Measure_bool, T.k_Measure_Measure⟩, ⟨T.k_Stretch_tuple, T.k_Stretch_str, T.k_Stretch_int, T.k_Stretch_bool, T.k_Stretch_Measure⟩, ⟨T.k_Ladder_tuple, T.k_Ladder_str, T.k_Ladder_int, T.k_Ladder_bool, T.k_Ladder_Measure⟩, fun n h => by rcases h with rfl | rfl | rfl | rfl | rfl | rfl | rfl <;> first | exact T.k_NoneType_Measure | exact T.k_bool_Measure | exact T.k_int_Measure | exact T.k_str_Measure | exact T.k_list_Measure | exact T.k_tuple_Measure | exact T.k_dict_Measure⟩
theorem ok_is_whole40 {P : Program} {w : World} {K : PySem.W.Frag} {mg : Str → Option Value} {base : Heap} {φ : Fds} (T : Txt K mg φ) : FnOk P w K mg base CX0 1 (He.fAd K ("is_whole", none)) φ.is_whole p_is_whole (sp_whole40 K (He.ga K "Measure")) := by
  refine T.f_is_whole.ok sc_is_whole (fun vs H Q E h => ?_) (fun cdv A outer s H vs Q E hr h => ?_)
  · obtain ⟨v, k, rfl, hk, kk⟩ := h; rfl
  · obtain ⟨v, k, rfl, hk, kk⟩ := h
    refine ⟨_, PSs.nox (pss_one (ps_ret (pe_and (pe_callB (id := "isinstance") (isi (K := K)) (by rfl) T.z_isinstance (by decide +kernel) (pa_cons (pv 0) (pa_cons (pe_bltn (v := .ty "int") rfl T.z_int (by decide +kernel) rfl) pa_nil))) (pe_one (pe_not (pe_callB (id := "isinstance") (isi (K := K)) (by rfl) T.z_isinstance (by decide +kernel) (pa_cons (pv 0) (pa_cons (pe_bltn (v := .ty "bool") rfl T.z_bool (by decide +kernel) rfl) pa_nil)))))))), ?_⟩
    have cl_Measure := T.cl_Measure
    have na_Measure_top := T.na_Measure_top
    have na_Measure_bottom := T.na_Measure_bottom
    
    obtain ⟨t1, y1, i1⟩ := hk.int
    obtain ⟨t2, y2, i2⟩ := hk.bl
    generalize k.isI = b1 at *
    generalize k.isB = b2 at *
    refine ⟨_, rfl, _, _, t1, _, b1, rfl, .ty _, y1, i1, _, rfl, ?_⟩
    cases b1 with
    | false => exact iteF kk
    | true =>
      refine iteT ?_
      exact ⟨_, rfl, _, _, t2, _, b2, rfl, .ty _, y2, i2, _, rfl, kk⟩
theorem ok_is_tuple_of {P : Program} {w : World} {K : PySem.W.Frag} {mg : Str → Option Value} {base : Heap} {φ : Fds} (T : Txt K mg φ) : FnOk P w K mg base CX0 1 (He.fAd K ("is_tuple_of", none)) φ.is_tuple_of p_is_tuple_of (sp_istup40 K (He.ga K "Measure")) := by
  refine T.f_is_tuple_of.ok sc_is_tuple_of (fun vs H Q E h => ?_) (fun cdv A outer s H vs Q E hr h => ?_)
  · obtain ⟨v, o, n, rfl, hf, kk⟩ := h; rfl
  · obtain ⟨v, o, n, rfl, hf, kk⟩ := h
    refine ⟨_, PSs.nox (pss_one (ps_ret (pe_and (pe_callB (id := "isinstance") (isi (K := K)) (by rfl) T.z_isinstance (by decide +kernel) (pa_cons (pv 0) (pa_cons (pe_bltn (v := .ty "tuple") rfl T.z_tuple (by decide +kernel) rfl) pa_nil))) (pe_one (pe_cmpR op_eq (pe_callB (id := "len") (lenS (K := K)) (by rfl) T.z_len PySem.boot_len (pa_cons (pv 0) pa_nil)) (pv 1) (nomark _)))))), ?_⟩
    have cl_Measure := T.cl_Measure
    have na_Measure_top := T.na_Measure_top
    have na_Measure_bottom := T.na_Measure_bottom
    
    cases o with
    | none =>
      obtain ⟨k, hk, e⟩ := hf
      obtain ⟨t1, y1, i1⟩ := hk.tup
      rw [e] at i1
      exact ⟨_, rfl, _, _, t1, _, false, rfl, .ty _, y1, i1, _, rfl, iteF kk⟩
    | some ks =>
      obtain ⟨a, xs, rfl, hT, l9, hk, hd⟩ := hf
      obtain ⟨t1, y1, i1⟩ := hk.tup
      refine ⟨_, rfl, _, _, t1, _, true, rfl, .ty _, y1, i1, _, rfl, iteT ?_⟩
      refine ⟨_, rfl, a, _, rfl, .inr hT, _, rfl, rfl, ?_⟩
      have e : decide (V.int ((xs.length : Nat) : Int) = V.int n) = decide ((ks.length : Int) = n) := decide_eq_decide.mpr ⟨fun h => by have := V.int.inj h; rw [← hd.1]; exact this, fun h => by rw [hd.1, h]⟩
      rw [e]
      exact kk
theorem ok_is_number {P : Program} {w : World} {K : PySem.W.Frag} {mg : Str → Option Value} {base : Heap} {φ : Fds} (T : Txt K mg φ) : FnOk P w K mg base CX0 2 (He.fAd K ("is_number", none)) φ.is_number p_is_number (sp_isnum40 K (He.ga K "Measure")) := by
  obtain ⟨_, B0v, B0⟩ := b_is_whole_1 T
  refine T.f_is_number.ok sc_is_number (fun vs H Q E h => ?_) (fun cdv A outer s H vs Q E hr h => ?_)
  · obtain ⟨v, k, n, rfl, hk, kk⟩ := h; rfl
  · obtain ⟨v, k, n, rfl, hk, kk⟩ := h
    refine ⟨_, PSs.nox (pss_one (ps_ret (pe_and (pe_call (ok_is_whole40 (K := K) T) (hr.mono (by decide)) rfl T.g_is_whole T.f_is_whole.kp B0 B0v pass0 (pa_cons (pv 0) pa_nil)) (pe_one (pe_cmpR op_eq (pv 0) (pv 1) (nomark _)))))), ?_⟩
    have cl_Measure := T.cl_Measure
    have na_Measure_top := T.na_Measure_top
    have na_Measure_bottom := T.na_Measure_bottom
    
    refine ⟨_, rfl, v, k, rfl, hk, _, rfl, ?_⟩
    have h := hk.at_
    cases k with
    | int z =>
      cases (show v = V.int z from h)
      refine iteT ?_
      refine ⟨_, rfl, _, rfl, rfl, ?_⟩
      have e : decide (V.int z = V.int n) = decide (z = n) := decide_eq_decide.mpr ⟨fun h => V.int.inj h, fun h => by rw [h]⟩
      rw [e]
      exact kk
    | _ => exact iteF kk
theorem ok_is_word {P : Program} {w : World} {K : PySem.W.Frag} {mg : Str → Option Value} {base : Heap} {φ : Fds} (T : Txt K mg φ) : FnOk P w K mg base CX0 1 (He.fAd K ("is_word", none)) φ.is_word p_is_word (sp_isword40 K (He.ga K "Measure")) := by
  refine T.f_is_word.ok sc_is_word (fun vs H Q E h => ?_) (fun cdv A outer s H vs Q E hr h => ?_)
  · obtain ⟨v, k, s, rfl, hk, kk⟩ := h; rfl
  · obtain ⟨v, k, s, rfl, hk, kk⟩ := h
    refine ⟨_, PSs.nox (pss_one (ps_ret (pe_and (pe_callB (id := "isinstance") (isi (K := K)) (by rfl) T.z_isinstance (by decide +kernel) (pa_cons (pv 0) (pa_cons (pe_bltn (v := .ty "str") rfl T.z_str (by decide +kernel) rfl) pa_nil))) (pe_one (pe_cmpR op_eq (pv 0) (pv 1) (nomark _)))))), ?_⟩
    have cl_Measure := T.cl_Measure
    have na_Measure_top := T.na_Measure_top
    have na_Measure_bottom := T.na_Measure_bottom
    
    obtain ⟨t1, y1, i1⟩ := hk.str
    refine ⟨_, rfl, _, _, t1, _, _, rfl, .ty _, y1, i1, _, rfl, ?_⟩
    have h := hk.at_
    cases k with
    | str z =>
      cases (show v = V.str z from h)
      refine iteT ?_
      refine ⟨_, rfl, _, rfl, rfl, ?_⟩
      have e : decide (V.str z = V.str s) = decide (z = s) := decide_eq_decide.mpr ⟨fun h => V.str.inj h, fun h => by rw [h]⟩
      rw [e]
      exact kk
    | _ => exact iteF kk
theorem ok_is_size {P : Program} {w : World} {K : PySem.W.Frag} {mg : Str → Option Value} {base : Heap} {φ : Fds} (T : Txt K mg φ) : FnOk P w K mg base CX0 3 (He.fAd K ("is_size", none)) φ.is_size p_is_size (sp_issize40 K (He.ga K "Measure")) := by
  obtain ⟨_, B0v, B0⟩ := b_is_number_2 T
  refine T.f_is_size.ok sc_is_size (fun vs H Q E h => ?_) (fun cdv A outer s H vs Q E hr h => ?_)
  · obtain ⟨v, k, a, rfl, hk, kk⟩ := h; rfl
  · obtain ⟨v, k, a, rfl, hk, kk⟩ := h
    refine ⟨_, PSs.nox (pss_cons (ps_if (pt_cmpR op_isN (pv 1) pe_non (nomark _))
      (pss_one (ps_ret (pe_cmpR op_isN (pv 0) pe_non (nomark _))))
      pss_nil)
      (pss_one (ps_ret (pe_call (ok_is_number (K := K) T) (hr.mono (by decide)) rfl T.g_is_number T.f_is_number.kp B0 B0v pass0 (pa_cons (pv 0) (pa_cons (pv 1) pa_nil)))))), ?_⟩
    have cl_Measure := T.cl_Measure
    have na_Measure_top := T.na_Measure_top
    have na_Measure_bottom := T.na_Measure_bottom
    
    cases a with
    | none =>
      refine ⟨_, rfl, rfl, _, rfl, iteDT rfl ?_⟩
      refine ⟨_, rfl, rfl, ?_⟩
      have h := hk.at_
      have e : decide (v = V.non) = matchB k (optK none) := by
        cases k with
        | non => cases (show v = V.non from h); exact decide_eq_true rfl
        | meas z =>
          obtain ⟨p, j, rfl, _⟩ := h
          exact decide_eq_false fun e => by cases e
        | tup =>
          obtain ⟨p, rfl⟩ := h
          exact decide_eq_false fun e => by cases e
        | oth =>
          obtain ⟨p, rfl⟩ := h
          exact decide_eq_false fun e => by cases e
        | int z => cases (show v = V.int z from h); exact decide_eq_false fun e => by cases e
        | str z => cases (show v = V.str z from h); exact decide_eq_false fun e => by cases e
        | bl z => cases (show v = V.bl z from h); exact decide_eq_false fun e => by cases e
      rw [e]
      exact kk
    | some n =>
      refine ⟨_, rfl, rfl, _, rfl, iteDF (fun e => by cases e) ?_⟩
      exact ⟨_, rfl, _, rfl, v, k, (n : Int), rfl, hk, kk⟩
theorem ok_is_part {P : Program} {w : World} {K : PySem.W.Frag} {mg : Str → Option Value} {base : Heap} {φ : Fds} (T : Txt K mg φ) : FnOk P w K mg base CX0 4 (He.fAd K ("is_part", none)) φ.is_part p_is_part (sp_ispart40 K (He.ga K "Measure")) := by
  obtain ⟨_, B0v, B0⟩ := b_is_word_2 T
  obtain ⟨_, B1v, B1⟩ := b_Measure_eq_2 T
  obtain ⟨_, B2v, B2⟩ := b_is_size_2 T
  refine T.f_is_part.ok sc_is_part (fun vs H Q E h => ?_) (fun cdv A outer s H vs Q E hr h => ?_)
  · obtain ⟨v, ks, S, N, j, z, u, a, b, rfl, hf, l5, hS, qz, kk⟩ := h; rfl
  · obtain ⟨v, ks, S, N, j, z, u, a, b, rfl, hf, l5, hS, qz, kk⟩ := h
    refine ⟨_, PSs.nox (pss_cons (ps_asg (pv 0) (pg_tup rfl (pgs_cons (pg_name (i := 2) sc_is_part.nd rfl (Or.inl rfl)) (pgs_cons (pg_name (i := 3) sc_is_part.nd rfl (Or.inl rfl)) (pgs_cons (pg_name (i := 4) sc_is_part.nd rfl (Or.inl rfl)) (pgs_cons (pg_name (i := 5) sc_is_part.nd rfl (Or.inl rfl)) (pgs_cons (pg_name (i := 6) sc_is_part.nd rfl (Or.inl rfl)) pgs_nil)))))))
      (pss_cons (ps_if (PW.pt (pw_or (pt_not (pt_val (pe_call (ok_is_word (K := K) T) (hr.mono (by decide)) rfl T.g_is_word T.f_is_word.kp B0 B0v pass0 (pa_cons (pv 2) (pa_cons pe_str pa_nil))))) (pw_or1 (pt_not (pt_val (pe_call (ok_is_word (K := K) T) (hr.mono (by decide)) rfl T.g_is_word T.f_is_word.kp B0 B0v pass0 (pa_cons (pv 4) (pa_cons (pe_ix (ixt (K := K)) (pv 1) pe_int (fun _ _ => rfl)) pa_nil))))))))
      (pss_one (ps_ret pe_bl))
      pss_nil)
      (pss_cons (ps_if (PW.pt (pw_or (pt_not (pt_val (pe_callB (id := "isinstance") (isi (K := K)) (by rfl) T.z_isinstance (by decide +kernel) (pa_cons (pv 3) (pa_cons (pe_glob (v := .ref (He.ga K "Measure")) rfl T.g_Measure rfl) pa_nil))))) (pw_or1 (pt_cmpR (op_neB (ok_Measure_eqX (K := K) T) T.me_Measure_eq T.ec_Measure (bnil B1v B1) pass0 (hr.mono (by decide))) (pv 3) (pe_ix (ixt (K := K)) (pv 1) pe_int (fun _ _ => rfl)) (nomark _)))))
      (pss_one (ps_ret pe_bl))
      pss_nil)
      (pss_one (ps_ret (pe_and (pe_call (ok_is_size (K := K) T) (hr.mono (by decide)) rfl T.g_is_size T.f_is_size.kp B2 B2v pass0 (pa_cons (pv 5) (pa_cons (pe_ix (ixt (K := K)) (pv 1) pe_int (fun _ _ => rfl)) pa_nil))) (pe_one (pe_call (ok_is_size (K := K) T) (hr.mono (by decide)) rfl T.g_is_size T.f_is_size.kp B2 B2v pass0 (pa_cons (pv 6) (pa_cons (pe_ix (ixt (K := K)) (pv 1) pe_int (fun _ _ => rfl)) pa_nil)))))))))), ?_⟩
    have cl_Measure := T.cl_Measure
    have na_Measure_top := T.na_Measure_top
    have na_Measure_bottom := T.na_Measure_bottom
    
    obtain ⟨T1, xs, rfl, hT, l9, hk, hd⟩ := hf
    obtain ⟨lx, hd⟩ := hd
    obtain ⟨x1, x2, x3, x4, x5, rfl⟩ : ∃ a b c d e, xs = [a, b, c, d, e] := by
      match xs, lx.trans l5 with
      | [a, b, c, d, e], _ => exact ⟨a, b, c, d, e, rfl⟩
    obtain ⟨k1, k2, k3, k4, k5, rfl⟩ : ∃ a b c d e, ks = [a, b, c, d, e] := by
      match ks, l5 with
      | [a, b, c, d, e], _ => exact ⟨a, b, c, d, e, rfl⟩
    have h1 := hd 0 x1 k1 rfl rfl
    have h2 := hd 1 x2 k2 rfl rfl
    have h3 := hd 2 x3 k3 rfl rfl
    have h4 := hd 3 x4 k4 rfl rfl
    have h5 := hd 4 x5 k5 rfl rfl
    have sS := SqT.of (K := K) hS
    have kk : Q (.bl (matchB k1 (.str "part") && (matchB k2 (.meas z) && (matchB k3 (.str u) && (matchB k4 (optK a) && (matchB k5 (optK b) && true)))))) H := kk
    refine ⟨_, rfl, T1, _, rfl, hT, rfl, _, _, rfl, _, _, rfl, _, _, rfl, _, _, rfl, _, _, rfl, rfl, ?_⟩
    have key : ∀ b9 : Bool, (matchB k1 (.str "part") && (matchB k2 (.meas z) && (matchB k3 (.str u) && (matchB k4 (optK a) && (matchB k5 (optK b) && true))))) = b9 → Q (.bl b9) H := fun b9 e => e ▸ kk
    clear kk
    refine ⟨_, rfl, x1, k1, _, rfl, h1, _, rfl, ?_⟩
    cases e1 : matchB k1 (.str "part") with
    | false => exact iteT (iteT (key false (by rw [e1]; rfl)))
    | true =>
      refine iteF ?_
      refine ⟨_, rfl, _, rfl, S, _, _, _, rfl, rfl, sS, rfl, x3, k3, u, rfl, h3, _, rfl, ?_⟩
      cases e3 : matchB k3 (.str u) with
      | false => exact iteT (key false (by rw [e3]; simp))
      | true =>
        refine iteF ?_
        obtain ⟨t2, y2, i2⟩ := h2.mea
        refine ⟨_, rfl, _, _, t2, _, _, rfl, .own _, y2, i2, _, rfl, ?_⟩
        have a2 := h2.at_
        cases k2 with
        | meas z' =>
          obtain ⟨p2, j2, rfl, q2, l2⟩ := a2
          refine iteF ?_
          refine ⟨_, rfl, _, rfl, S, _, _, _, rfl, rfl, sS, rfl, _, q_dnB T.cl_Measure T.ii_Measure T.ec_Measure q2 qz, _, rfl, ?_⟩
          have em := mat_eqq q2 qz
          cases e2 : eqq z' z with
          | false => exact iteT (key false (by rw [em, e2]; simp))
          | true =>
            rw [e2] at em
            refine iteF ?_
            refine ⟨_, rfl, _, rfl, S, _, _, _, rfl, rfl, sS, rfl, x4, k4, a, rfl, h4, _, rfl, ?_⟩
            cases e4 : matchB k4 (optK a) with
            | false => exact iteF (key false (by rw [e4]; simp))
            | true =>
              refine iteT ?_
              refine ⟨_, rfl, _, rfl, S, _, _, _, rfl, rfl, sS, rfl, x5, k5, b, rfl, h5, ?_⟩
              exact key _ (by rw [e1, em, e3, e4]; simp)
        | _ => exact iteT (iteT (key false (by rw [e1]; rfl)))
theorem ok_shows_parting {P : Program} {w : World} {K : PySem.W.Frag} {mg : Str → Option Value} {base : Heap} {φ : Fds} (T : Txt K mg φ) : FnOk P w K mg base CX0 10 (He.fAd K ("shows_parting", none)) φ.shows_parting p_shows_parting (sp_shpart40 K (He.ga K "Measure") (He.ga K "Ladder")) := by
  obtain ⟨_, B0v, B0⟩ := b_parting_5 T
  obtain ⟨_, B1v, B1⟩ := b_is_tuple_of_2 T
  obtain ⟨_, B2v, B2⟩ := b_is_word_2 T
  obtain ⟨_, B3v, B3⟩ := b_is_part_2 T
  refine T.f_shows_parting.ok sc_shows_parting (fun vs H Q E h => ?_) (fun cdv A outer s H vs Q E hr h => ?_)
  · obtain ⟨p, q, l, h, v, o, sh, k, zs, zt, r, rt, lo, hi, lt, ht, x, y, u, rfl, hp, hq, hl, hh, k0, k2, hf, ps, kk⟩ := h; rfl
  · obtain ⟨p, q, l, h, v, o, sh, k, zs, zt, r, rt, lo, hi, lt, ht, x, y, u, rfl, hp, hq, hl, hh, k0, k2, hf, ps, kk⟩ := h
    refine ⟨_, PSs.nox (pss_cons (ps_set (i := 6) sc_shows_parting.nd rfl (Or.inl rfl) (pe_call (ok_parting (K := K) T) (hr.mono (by decide)) rfl T.g_parting T.f_parting.kp B0 B0v pass0 (pa_cons (pv 0) (pa_cons (pv 1) (pa_cons (pv 2) (pa_cons (pv 3) (pa_cons (pv 4) pa_nil)))))))
      (pss_cons (ps_if (pt_not (pt_val (pe_call (ok_is_tuple_of (K := K) T) (hr.mono (by decide)) rfl T.g_is_tuple_of T.f_is_tuple_of.kp B1 B1v pass0 (pa_cons (pv 5) (pa_cons (pe_callB (id := "len") (lenS (K := K)) (by rfl) T.z_len PySem.boot_len (pa_cons (pv 6) pa_nil)) pa_nil)))))
      (pss_one (ps_ret pe_bl))
      pss_nil)
      (pss_cons (ps_if (pt_cmpR op_eq (pe_callB (id := "len") (lenS (K := K)) (by rfl) T.z_len PySem.boot_len (pa_cons (pv 6) pa_nil)) pe_int (nomark _))
      (pss_one (ps_ret (pe_call (ok_is_word (K := K) T) (hr.mono (by decide)) rfl T.g_is_word T.f_is_word.kp B2 B2v pass0 (pa_cons (pe_ix (ixt (K := K)) (pv 5) pe_int (fun _ _ => rfl)) (pa_cons pe_str pa_nil)))))
      pss_nil)
      (pss_one (ps_ret (pe_call (ok_is_part (K := K) T) (hr.mono (by decide)) rfl T.g_is_part T.f_is_part.kp B3 B3v pass0 (pa_cons (pv 5) (pa_cons (pv 6) pa_nil)))))))), ?_⟩
    have cl_Measure := T.cl_Measure
    have na_Measure_top := T.na_Measure_top
    have na_Measure_bottom := T.na_Measure_bottom
    have cl_Ladder := T.cl_Ladder
    have na_Ladder_marks := T.na_Ladder_marks
    have na_Ladder_rule := T.na_Ladder_rule
    have na_Ladder_least := T.na_Ladder_least
    have na_Ladder_most := T.na_Ladder_most
    
    refine ⟨_, rfl, _, rfl, _, rfl, _, rfl, _, rfl, p, q, l, h, sh, k, zs, zt, r, rt, lo, hi, lt, ht, x, y, rfl, hp, hq, hl, hh, k0, k2, fun R u' H1 s1 pw pq => ?_⟩
    have eu := PartS.uniq pq ps
    subst eu
    have hf1 := hf.same s1
    have kk := kk H1 s1
    cases u' with
    | none =>
      have hR : H1 R = some (.tup [.str "alike"]) := pw
      have sR := SqT.of (K := K) hR
      refine ⟨_, rfl, _, rfl, R, _, rfl, .inr sR, v, o, _, rfl, hf1, _, rfl, ?_⟩
      cases o with
      | none => exact iteT kk
      | some ks =>
        by_cases e : ks.length = 1
        · have e1 : decide ((ks.length : Int) = ((([V.str "alike"] : List V).length : Nat) : Int)) = true := decide_eq_true (by rw [e]; rfl)
          show if (!decide ((ks.length : Int) = ((([V.str "alike"] : List V).length : Nat) : Int))) = true then _ else _
          rw [e1]
          refine iteF ?_
          refine ⟨_, rfl, R, _, rfl, .inr sR, rfl, _, rfl, iteT ?_⟩
          obtain ⟨a, xs, rfl, hT, l9, hk, hd⟩ := hf1
          obtain ⟨lx, hd⟩ := hd
          obtain ⟨x1, rfl⟩ : ∃ a, xs = [a] := by
            match xs, lx.trans e with
            | [a], _ => exact ⟨a, rfl⟩
          obtain ⟨k1, rfl⟩ : ∃ a, ks = [a] := by
            match ks, e with
            | [a], _ => exact ⟨a, rfl⟩
          refine ⟨_, rfl, a, _, _, _, rfl, rfl, hT, rfl, x1, k1, _, rfl, hd 0 x1 k1 rfl rfl, ?_⟩
          have kk : Q (.bl (matchB k1 (.str "alike") && true)) H1 := kk
          rw [Bool.and_true] at kk
          exact kk
        · have e1 : decide ((ks.length : Int) = ((([V.str "alike"] : List V).length : Nat) : Int)) = false := decide_eq_false (fun h => e (by have : (ks.length : Int) = 1 := h; omega))
          show if (!decide ((ks.length : Int) = ((([V.str "alike"] : List V).length : Nat) : Int))) = true then _ else _
          rw [e1]
          refine iteT ?_
          have e2 : topB (some ks) (dueK none) = false := by
            show (decide (ks.length = 1) && _) = false
            rw [decide_eq_false e]
            rfl
          rw [e2] at kk
          exact kk
    | some u =>
      obtain ⟨m, w', c, d⟩ := u
      obtain ⟨N, z, qw, e, hR⟩ := pw
      have sR := SqT.of (K := K) hR
      refine ⟨_, rfl, _, rfl, R, _, rfl, .inr sR, v, o, _, rfl, hf1, _, rfl, ?_⟩
      cases o with
      | none => exact iteT kk
      | some ks =>
        by_cases e5 : ks.length = 5
        · have e1 : decide ((ks.length : Int) = (5 : Int)) = true := decide_eq_true (by rw [e5]; rfl)
          show if (!decide ((ks.length : Int) = (5 : Int))) = true then _ else _
          rw [e1]
          refine iteF ?_
          refine ⟨_, rfl, R, _, rfl, .inr sR, rfl, _, rfl, iteF ?_⟩
          refine ⟨_, rfl, _, rfl, v, ks, R, N, _, z, _, c, d, rfl, hf1, e5, hR, qw, ?_⟩
          have e2 : topB (some ks) (dueK (some (m, w', c, d))) = (List.zipWith matchB ks [.str "part", .meas z, .str (if w' = true then "behind" else "at"), optK c, optK d]).all _root_.id := by
            show (decide (ks.length = 5) && _) = _
            rw [decide_eq_true e5, Bool.true_and]
            obtain ⟨k1, k2, k3, k4, k5, rfl⟩ : ∃ a b c d e, ks = [a, b, c, d, e] := by
              match ks, e5 with
              | [a, b, c, d, e], _ => exact ⟨a, b, c, d, e, rfl⟩
            show (matchB k1 _ && (matchB k2 (.meas (ofR m)) && _)) = (matchB k1 _ && (matchB k2 (.meas z) && _))
            rw [mat_meas (k := k2) (show toR (ofR m) = toR z by rw [toR_ofR, e])]
          rw [e2] at kk
          exact kk
        · have e1 : decide ((ks.length : Int) = (5 : Int)) = false := decide_eq_false (fun h => e5 (by omega))
          show if (!decide ((ks.length : Int) = (5 : Int))) = true then _ else _
          rw [e1]
          refine iteT ?_
          have e2 : topB (some ks) (dueK (some (m, w', c, d))) = false := by
            show (decide (ks.length = 5) && _) = false
            rw [decide_eq_false e5]
            rfl
          rw [e2] at kk
          exact kk
theorem okn_l_same {P : Program} {w : World} {K : PySem.W.Frag} {mg : Str → Option Value} {base : Heap} {φ : Fds} (T : Txt K mg φ) : FnOk P w K mg base CX0 0 (He.fAd K ("_law_same", none)) φ.l_same p_l_same (fun _ _ _ _ => False) := fn_never
theorem ok0_l_same {P : Program} {w : World} {K : PySem.W.Frag} {mg : Str → Option Value} {base : Heap} {φ : Fds} (T : Txt K mg φ) : FnOk P w K mg base CX0 3 (He.fAd K ("_law_same", none)) φ.l_same p_l_same (sp_same40 K (He.ga K "Measure") 0) := by
  obtain ⟨_, B0v, B0⟩ := b_l_same_2 T
  obtain ⟨_, B1v, B1⟩ := b_Measure_eq_2 T
  refine T.f_l_same.ok sc_l_same (fun vs H Q E h => ?_) (fun cdv A outer s H vs Q E hr h => ?_)
  · obtain ⟨x, y, k, kd, rfl, hx, hy, ok, kk⟩ := h; rfl
  · obtain ⟨x, y, k, kd, rfl, hx, hy, ok, kk⟩ := h
    refine ⟨_, PSs.nox (pss_cons (ps_if (pt_val (pe_callB (id := "isinstance") (isi (K := K)) (by rfl) T.z_isinstance (by decide +kernel) (pa_cons (pv 1) (pa_cons (pe_bltn (v := .ty "tuple") rfl T.z_tuple (by decide +kernel) rfl) pa_nil))))
      (pss_cons (ps_if (PW.pt (pw_or (pt_not (pt_val (pe_callB (id := "isinstance") (isi (K := K)) (by rfl) T.z_isinstance (by decide +kernel) (pa_cons (pv 0) (pa_cons (pe_bltn (v := .ty "tuple") rfl T.z_tuple (by decide +kernel) rfl) pa_nil))))) (pw_or1 (pt_cmpR op_ne (pe_callB (id := "len") (lenS (K := K)) (by rfl) T.z_len PySem.boot_len (pa_cons (pv 0) pa_nil)) (pe_callB (id := "len") (lenS (K := K)) (by rfl) T.z_len PySem.boot_len (pa_cons (pv 1) pa_nil)) (nomark _)))))
      (pss_one (ps_ret pe_bl))
      pss_nil)
      (pss_one (ps_ret (pe_callB (id := "all") (allK (K := K)) (by rfl) T.z_all (by decide +kernel) (pa_cons (pe_lc (own := [("_law_left", 2), ("_law_right_here", 3)]) (g := gTup K 2 (gCons (gName 2) (gCons (gName 3) (gNil)))) rfl sc_l_same.nd (RZ.pi_zipA (by rfl) T.z_zip (pa_cons (pv 0) (pa_cons (pv 1) pa_nil))) (blkOk_by (own := [("_law_left", 2), ("_law_right_here", 3)]) (N := N_l_same) (sc := (defScope s_l_same)) (by decide +kernel)) (fun _ _ _ _ _ => (pg_tup rfl (pgs_cons (pg_name (i := 2) sc_l_same.nd rfl (Or.inl rfl)) (pgs_cons (pg_name (i := 3) sc_l_same.nd rfl (Or.inl rfl)) pgs_nil)))) (fun _ _ _ _ _ => pts_nil) (fun _ _ _ _ _ => (pe_call (okn_l_same (K := K) T) (hr.mono (by decide)) rfl T.g_l_same T.f_l_same.kp B0 B0v pass0 (pa_cons (pv 2) (pa_cons (pv 3) pa_nil))))) pa_nil)))))
      pss_nil)
      (pss_cons (ps_if (pt_val (pe_callB (id := "isinstance") (isi (K := K)) (by rfl) T.z_isinstance (by decide +kernel) (pa_cons (pv 1) (pa_cons (pe_glob (v := .ref (He.ga K "Measure")) rfl T.g_Measure rfl) pa_nil))))
      (pss_one (ps_ret (pe_and (pe_callB (id := "isinstance") (isi (K := K)) (by rfl) T.z_isinstance (by decide +kernel) (pa_cons (pv 0) (pa_cons (pe_glob (v := .ref (He.ga K "Measure")) rfl T.g_Measure rfl) pa_nil))) (pe_one (pe_cmpR (op_eqB (rcB_own (ok_Measure_eqX (K := K) T) T.me_Measure_eq (bnil B1v B1) pass0) (hr.mono (by decide))) (pv 0) (pv 1) (nomark _))))))
      pss_nil)
      (pss_cons (ps_if (pt_cmpR op_isN (pv 1) pe_non (nomark _))
      (pss_one (ps_ret (pe_cmpR op_isN (pv 0) pe_non (nomark _))))
      pss_nil)
      (pss_cons (ps_if (pt_val (pe_callB (id := "isinstance") (isi (K := K)) (by rfl) T.z_isinstance (by decide +kernel) (pa_cons (pv 1) (pa_cons (pe_bltn (v := .ty "str") rfl T.z_str (by decide +kernel) rfl) pa_nil))))
      (pss_one (ps_ret (pe_and (pe_callB (id := "isinstance") (isi (K := K)) (by rfl) T.z_isinstance (by decide +kernel) (pa_cons (pv 0) (pa_cons (pe_bltn (v := .ty "str") rfl T.z_str (by decide +kernel) rfl) pa_nil))) (pe_one (pe_cmpR op_eq (pv 0) (pv 1) (nomark _))))))
      pss_nil)
      (pss_one (ps_ret (pe_and (pe_callB (id := "isinstance") (isi (K := K)) (by rfl) T.z_isinstance (by decide +kernel) (pa_cons (pv 0) (pa_cons (pe_bltn (v := .ty "int") rfl T.z_int (by decide +kernel) rfl) pa_nil))) (pe_and (pe_not (pe_callB (id := "isinstance") (isi (K := K)) (by rfl) T.z_isinstance (by decide +kernel) (pa_cons (pv 0) (pa_cons (pe_bltn (v := .ty "bool") rfl T.z_bool (by decide +kernel) rfl) pa_nil)))) (pe_one (pe_cmpR op_eq (pv 0) (pv 1) (nomark _))))))))))), ?_⟩
    have cl_Measure := T.cl_Measure
    have na_Measure_top := T.na_Measure_top
    have na_Measure_bottom := T.na_Measure_bottom
    
    obtain ⟨td, yd, id'⟩ := hy.tup
    obtain ⟨te, ye, ie⟩ := hy.mea
    obtain ⟨tf, yf, if'⟩ := hy.str
    obtain ⟨t1, y1, i1⟩ := hx.mea
    obtain ⟨t2, y2, i2⟩ := hx.str
    obtain ⟨t3, y3, i3⟩ := hx.int
    obtain ⟨t4, y4, i4⟩ := hx.bl
    have hx0 := hx.at_
    have hy0 := hy.at_
    cases kd with
    | meas z =>
      refine ⟨_, rfl, _, _, td, _, false, rfl, .ty _, yd, id', _, rfl, iteF ?_⟩
      refine ⟨_, rfl, _, _, te, _, true, rfl, .own _, ye, ie, _, rfl, iteT ?_⟩
      refine ⟨_, rfl, _, _, t1, _, _, rfl, .own _, y1, i1, _, rfl, ?_⟩
      obtain ⟨p, j, rfl, qz, l⟩ := hy0
      cases k with
      | meas z' =>
        obtain ⟨p', j', rfl, qz', l'⟩ := hx0
        have kk := kk H (Same.refl _)
        rw [mat_eqq qz' qz] at kk
        refine iteT ?_
        exact ⟨_, rfl, _, rfl, _, q_dnB T.cl_Measure T.ii_Measure T.ec_Measure qz' qz, kk⟩
      | _ => exact iteF (kk _ (Same.refl _))
    | non =>
      cases (show y = V.non from hy0)
      refine ⟨_, rfl, _, _, td, _, false, rfl, .ty _, yd, id', _, rfl, iteF ?_⟩
      refine ⟨_, rfl, _, _, te, _, false, rfl, .own _, ye, ie, _, rfl, iteF ?_⟩
      refine ⟨_, rfl, rfl, _, rfl, iteDT rfl ⟨_, rfl, rfl, ?_⟩⟩
      rw [non_pk hx]
      exact kk _ (Same.refl _)
    | str s =>
      cases (show y = V.str s from hy0)
      refine ⟨_, rfl, _, _, td, _, false, rfl, .ty _, yd, id', _, rfl, iteF ?_⟩
      refine ⟨_, rfl, _, _, te, _, false, rfl, .own _, ye, ie, _, rfl, iteF ?_⟩
      refine ⟨_, rfl, rfl, _, rfl, iteDF (fun e => by cases e) ?_⟩
      refine ⟨_, rfl, _, _, tf, _, true, rfl, .ty _, yf, if', _, rfl, iteT ?_⟩
      refine ⟨_, rfl, _, _, t2, _, _, rfl, .ty _, y2, i2, _, rfl, ?_⟩
      cases k with
      | str z =>
        cases (show x = V.str z from hx0)
        refine iteT ?_
        refine ⟨_, rfl, _, rfl, rfl, ?_⟩
        have e : decide (V.str z = V.str s) = decide (z = s) := decide_eq_decide.mpr ⟨fun h => V.str.inj h, fun h => by rw [h]⟩
        rw [e]
        exact kk _ (Same.refl _)
      | _ => exact iteF (kk _ (Same.refl _))
    | int n =>
      cases (show y = V.int n from hy0)
      refine ⟨_, rfl, _, _, td, _, false, rfl, .ty _, yd, id', _, rfl, iteF ?_⟩
      refine ⟨_, rfl, _, _, te, _, false, rfl, .own _, ye, ie, _, rfl, iteF ?_⟩
      refine ⟨_, rfl, rfl, _, rfl, iteDF (fun e => by cases e) ?_⟩
      refine ⟨_, rfl, _, _, tf, _, false, rfl, .ty _, yf, if', _, rfl, iteF ?_⟩
      refine ⟨_, rfl, _, _, t3, _, _, rfl, .ty _, y3, i3, _, rfl, ?_⟩
      cases k with
      | int z =>
        cases (show x = V.int z from hx0)
        refine iteT ?_
        refine ⟨_, rfl, _, _, t4, _, false, rfl, .ty _, y4, i4, _, rfl, _, rfl, iteT ?_⟩
        refine ⟨_, rfl, _, rfl, rfl, ?_⟩
        have e : decide (V.int z = V.int n) = decide (z = n) := decide_eq_decide.mpr ⟨fun h => V.int.inj h, fun h => by rw [h]⟩
        rw [e]
        exact kk _ (Same.refl _)
      | bl b =>
        refine iteT ?_
        refine ⟨_, rfl, _, _, t4, _, true, rfl, .ty _, y4, i4, _, rfl, _, rfl, iteF ?_⟩
        exact kk _ (Same.refl _)
      | _ => exact iteF (kk _ (Same.refl _))
    | _ => exact ok.elim
theorem ok_l_same {P : Program} {w : World} {K : PySem.W.Frag} {mg : Str → Option Value} {base : Heap} {φ : Fds} (T : Txt K mg φ) : FnOk P w K mg base CX0 4 (He.fAd K ("_law_same", none)) φ.l_same p_l_same (sp_same40 K (He.ga K "Measure") 1) := by
  obtain ⟨_, B0v, B0⟩ := b_l_same_2 T
  obtain ⟨_, B1v, B1⟩ := b_Measure_eq_2 T
  refine T.f_l_same.ok sc_l_same (fun vs H Q E h => ?_) (fun cdv A outer s H vs Q E hr h => ?_)
  · obtain ⟨x, T', ys, o, ds, rfl, hf, hq, l9, hd, ok, kk⟩ := h; rfl
  · obtain ⟨x, T', ys, o, ds, rfl, hf, hq, l9, hd, ok, kk⟩ := h
    refine ⟨_, PSs.nox (pss_cons (ps_if (pt_val (pe_callB (id := "isinstance") (isi (K := K)) (by rfl) T.z_isinstance (by decide +kernel) (pa_cons (pv 1) (pa_cons (pe_bltn (v := .ty "tuple") rfl T.z_tuple (by decide +kernel) rfl) pa_nil))))
      (pss_cons (ps_if (PW.pt (pw_or (pt_not (pt_val (pe_callB (id := "isinstance") (isi (K := K)) (by rfl) T.z_isinstance (by decide +kernel) (pa_cons (pv 0) (pa_cons (pe_bltn (v := .ty "tuple") rfl T.z_tuple (by decide +kernel) rfl) pa_nil))))) (pw_or1 (pt_cmpR op_ne (pe_callB (id := "len") (lenS (K := K)) (by rfl) T.z_len PySem.boot_len (pa_cons (pv 0) pa_nil)) (pe_callB (id := "len") (lenS (K := K)) (by rfl) T.z_len PySem.boot_len (pa_cons (pv 1) pa_nil)) (nomark _)))))
      (pss_one (ps_ret pe_bl))
      pss_nil)
      (pss_one (ps_ret (pe_callB (id := "all") (allK (K := K)) (by rfl) T.z_all (by decide +kernel) (pa_cons (pe_lc (own := [("_law_left", 2), ("_law_right_here", 3)]) (g := gTup K 2 (gCons (gName 2) (gCons (gName 3) (gNil)))) rfl sc_l_same.nd (RZ.pi_zipA (by rfl) T.z_zip (pa_cons (pv 0) (pa_cons (pv 1) pa_nil))) (blkOk_by (own := [("_law_left", 2), ("_law_right_here", 3)]) (N := N_l_same) (sc := (defScope s_l_same)) (by decide +kernel)) (fun _ _ _ _ _ => (pg_tup rfl (pgs_cons (pg_name (i := 2) sc_l_same.nd rfl (Or.inl rfl)) (pgs_cons (pg_name (i := 3) sc_l_same.nd rfl (Or.inl rfl)) pgs_nil)))) (fun _ _ _ _ _ => pts_nil) (fun _ _ _ _ _ => (pe_call (ok0_l_same (K := K) T) (hr.mono (by decide)) rfl T.g_l_same T.f_l_same.kp B0 B0v pass0 (pa_cons (pv 2) (pa_cons (pv 3) pa_nil))))) pa_nil)))))
      pss_nil)
      (pss_cons (ps_if (pt_val (pe_callB (id := "isinstance") (isi (K := K)) (by rfl) T.z_isinstance (by decide +kernel) (pa_cons (pv 1) (pa_cons (pe_glob (v := .ref (He.ga K "Measure")) rfl T.g_Measure rfl) pa_nil))))
      (pss_one (ps_ret (pe_and (pe_callB (id := "isinstance") (isi (K := K)) (by rfl) T.z_isinstance (by decide +kernel) (pa_cons (pv 0) (pa_cons (pe_glob (v := .ref (He.ga K "Measure")) rfl T.g_Measure rfl) pa_nil))) (pe_one (pe_cmpR (op_eqB (rcB_own (ok_Measure_eqX (K := K) T) T.me_Measure_eq (bnil B1v B1) pass0) (hr.mono (by decide))) (pv 0) (pv 1) (nomark _))))))
      pss_nil)
      (pss_cons (ps_if (pt_cmpR op_isN (pv 1) pe_non (nomark _))
      (pss_one (ps_ret (pe_cmpR op_isN (pv 0) pe_non (nomark _))))
      pss_nil)
      (pss_cons (ps_if (pt_val (pe_callB (id := "isinstance") (isi (K := K)) (by rfl) T.z_isinstance (by decide +kernel) (pa_cons (pv 1) (pa_cons (pe_bltn (v := .ty "str") rfl T.z_str (by decide +kernel) rfl) pa_nil))))
      (pss_one (ps_ret (pe_and (pe_callB (id := "isinstance") (isi (K := K)) (by rfl) T.z_isinstance (by decide +kernel) (pa_cons (pv 0) (pa_cons (pe_bltn (v := .ty "str") rfl T.z_str (by decide +kernel) rfl) pa_nil))) (pe_one (pe_cmpR op_eq (pv 0) (pv 1) (nomark _))))))
      pss_nil)
      (pss_one (ps_ret (pe_and (pe_callB (id := "isinstance") (isi (K := K)) (by rfl) T.z_isinstance (by decide +kernel) (pa_cons (pv 0) (pa_cons (pe_bltn (v := .ty "int") rfl T.z_int (by decide +kernel) rfl) pa_nil))) (pe_and (pe_not (pe_callB (id := "isinstance") (isi (K := K)) (by rfl) T.z_isinstance (by decide +kernel) (pa_cons (pv 0) (pa_cons (pe_bltn (v := .ty "bool") rfl T.z_bool (by decide +kernel) rfl) pa_nil)))) (pe_one (pe_cmpR op_eq (pv 0) (pv 1) (nomark _))))))))))), ?_⟩
    have cl_Measure := T.cl_Measure
    have na_Measure_top := T.na_Measure_top
    have na_Measure_bottom := T.na_Measure_bottom
    
    refine ⟨_, rfl, _, _, _, _, _, rfl, .ty _, tyTup hq, kit_ty (r := true) (by decide +kernel), _, rfl, iteT ?_⟩
    cases o with
    | none =>
      obtain ⟨k, hk, e⟩ := hf
      obtain ⟨t1, y1, i1⟩ := hk.tup
      rw [e] at i1
      refine ⟨_, rfl, _, _, t1, _, false, rfl, .ty _, y1, i1, _, rfl, iteT ?_⟩
      exact iteT (kk _ (Same.refl _))
    | some ks =>
      obtain ⟨a, xs, rfl, hp, l8, hk, hd'⟩ := hf
      obtain ⟨t1, y1, i1⟩ := hk.tup
      refine ⟨_, rfl, _, _, t1, _, true, rfl, .ty _, y1, i1, _, rfl, iteF ?_⟩
      refine ⟨_, rfl, a, _, rfl, .inr hp, _, rfl, T', _, rfl, .inr hq, rfl, _, rfl, ?_⟩
      have lx := hd'.1
      have ly := hd.1
      by_cases e : ks.length = ds.length
      · have e1 : decide (V.int ((xs.length : Nat) : Int) = V.int ((ys.length : Nat) : Int)) = true := decide_eq_true (by rw [lx, ly, e])
        rw [e1]
        refine iteF ?_
        refine ⟨_, rfl, _, rfl, a, T', _, _, rfl, .inr ⟨hp, hq, fun D nD => ?_⟩⟩
        have em : topB (some ks) ds = (List.zipWith matchB ks ds).all _root_.id := by
          show (decide (ks.length = ds.length) && _) = _
          rw [decide_eq_true e, Bool.true_and]
        rw [em] at kk
        refine lcz (n := xs.length) (walk_zipT (xs := xs) (ys := ys) (by omega)) (fun _ _ g s => ⟨s.sqt g.1, s.sqt g.2⟩) ((List.zipWith matchB ks ds).map fun b => some (V.bl b)) (by rw [List.length_map, List.length_zipWith]; omega) (szs (by omega)) ⟨hp, hq⟩ nD (fun i x H3 H4 o N M hi ho s3 y hN hM => ?_) (fun H3 s3 hD => ?_)
        · obtain ⟨t, p, q, rfl, nt, rfl, ha, hb⟩ := y
          have hk1 : ks[i]? = some ks[i] := List.getElem?_eq_getElem (by omega)
          have hd1 : ds[i]? = some ds[i] := List.getElem?_eq_getElem (by omega)
          rw [List.getElem?_map, List.getElem?_zipWith, hk1, hd1] at ho
          cases ho
          have s4 := s3.trans (same1 (u := .tup [p, q]) nt)
          refine ⟨t, _, rfl, SqT.of upd_same, rfl, _, _, rfl, _, _, rfl, rfl, rfl, yesT ?_⟩
          exact ⟨_, rfl, _, rfl, p, q, _, _, rfl, (hd'.2 i p _ ha hk1).same s4, (hd.2 i q _ hb hd1).same s4, ok _ (List.mem_of_getElem? hd1), fun H5 s5 => hN _ _ rfl ((same1 nt : Same H3 _).trans s5)⟩
        rw [blm_fm] at hD
        refine ⟨D, _, rfl, SqL.of hD, ?_⟩
        exact kk _ s3
      · have e1 : decide (V.int ((xs.length : Nat) : Int) = V.int ((ys.length : Nat) : Int)) = false := decide_eq_false (fun h => e (by have := V.int.inj h; omega))
        rw [e1]
        have em : topB (some ks) ds = false := by
          show (decide (ks.length = ds.length) && _) = _
          rw [decide_eq_false e]
          rfl
        rw [em] at kk
        exact iteT (kk _ (Same.refl _))
theorem ok_l_hand_at {P : Program} {w : World} {K : PySem.W.Frag} {mg : Str → Option Value} {base : Heap} {φ : Fds} (T : Txt K mg φ) : FnOk P w K mg base CX0 1 (He.fAd K ("_law_hand_at", none)) φ.l_hand_at p_l_hand_at (sp_hand K) := by
  refine T.f_l_hand_at.ok sc_l_hand_at (fun vs H Q E h => ?_) (fun cdv A outer s H vs Q E hr h => ?_)
  · obtain ⟨a, ns, kk, rfl, hS, hk, k⟩ := h; rfl
  · obtain ⟨a, ns, kk, rfl, hS, hk, k⟩ := h
    refine ⟨_, PSs.nox (pss_cons (ps_set (i := 2) sc_l_hand_at.nd rfl (Or.inl rfl) pe_int)
      (pss_cons (ps_cut (ps_if (pt_cmpR op_lt (pv 1) (pe_callB (id := "len") (lenS (K := K)) (by rfl) T.z_len PySem.boot_len (pa_cons (pv 0) pa_nil)) (nomark _))
      (pss_one (ps_set (i := 2) sc_l_hand_at.nd rfl (Or.inl rfl) (pe_ix (ixl (K := K)) (pv 0) (pv 1) (fun _ _ => rfl))))
      pss_nil))
      (pss_one (ps_ret (pe_lst (pa_cons (pe_op op_mulA (pe_callB (id := "abs") call_abs (by rfl) T.z_abs (by decide +kernel) (pa_cons (pv 2) pa_nil)) (pe_callTy (T := "int") call_int1 (by rfl) T.z_int (by decide +kernel) (pa_cons (pe_cmpR op_ge (pe_callB (id := "abs") call_abs (by rfl) T.z_abs (by decide +kernel) (pa_cons (pv 2) pa_nil)) (pe_op op_pow pe_int pe_int) (nomark _)) pa_nil))) (pa_cons (pe_op op_add (pe_op op_mod (pv 2) pe_int) (pe_op op_mulA pe_int (pv 1))) (pa_cons pe_int pa_nil)))))))), ?_⟩
    refine ⟨fun σ' H' => H' = H ∧ ∃ z : Int, σ' = [some (.ref a), some (.int kk), some (.int z)], ?_, ?_⟩
    · refine ⟨_, rfl, _, rfl, a, _, rfl, .inl hS, _, _, rfl, rfl, _, rfl, ?_⟩
      refine ite2 (fun e => ?_) (fun e => ?_)
      · have e0 : (kk : Int) < ((ns.map V.int).length : Int) := of_decide_eq_true e
        rw [List.length_map] at e0
        have e1 : kk < ns.length := by omega
        refine ⟨_, rfl, _, rfl, a, _, _, V.int ns[kk], rfl, rfl, hS, atI_nat ?_, rfl, _, rfl⟩
        rw [List.getElem?_map, List.getElem?_eq_getElem e1]
        rfl
      · exact ⟨rfl, 0, rfl⟩
    · rintro σ' H' ⟨rfl, z, rfl⟩
      refine ⟨_, rfl, _, rfl, _, rfl, _, rfl, _, _, rfl, rfl, ⟨by decide, by decide, by decide⟩, _, _, rfl, rfl, .inr ⟨_, rfl, _, _, rfl, rfl, .inl (.inr ?_), ?_⟩⟩
      · cases decide ((10 : Int) ^ Int.toNat 18 ≤ (if z < 0 then -z else z)) <;> exact ⟨by decide, by decide⟩
      refine ⟨_, rfl, _, _, rfl, rfl, (by show (0 : Int) < 2305843009213693951; decide), _, rfl, _, _, rfl, rfl, .inl (.inl ⟨by decide, by decide⟩), _, _, rfl, rfl, by show 3 ≤ sizeLine; decide, fun p hp => ?_⟩
      have m0 := Int.emod_nonneg z (show (2305843009213693951 : Int) ≠ 0 by decide)
      have m1 := Int.emod_lt_of_pos z (show (0 : Int) < 2305843009213693951 by decide)
      refine k p _ hp (same1 hp) ⟨_, _, _, upd_same, ?_, by omega, by omega, by decide, by decide⟩
      have ez : 0 ≤ (if z < 0 then -z else z) := by split <;> omega
      generalize (if z < 0 then -z else z) = y at *
      by_cases e : (10 : Int) ^ Int.toNat 18 ≤ y
      · rw [decide_eq_true e]
        show 0 ≤ y * 1
        omega
      · rw [decide_eq_false e]
        show 0 ≤ y * 0
        omega
theorem ok_l_take {P : Program} {w : World} {K : PySem.W.Frag} {mg : Str → Option Value} {base : Heap} {φ : Fds} (T : Txt K mg φ) : FnOk P w K mg base CX0 1 (He.fAd K ("_law_take", none)) φ.l_take p_l_take sp_take := by
  refine T.f_l_take.ok sc_l_take (fun vs H Q E h => ?_) (fun cdv A outer s H vs Q E hr h => ?_)
  · obtain ⟨hd, n, m, rfl, hh, hn, hm, hl, k⟩ := h; rfl
  · obtain ⟨hd, n, m, rfl, hh, hn, hm, hl, k⟩ := h
    refine ⟨_, PSs.nox (pss_cons (ps_if (pt_cmpR op_gt (pe_ix (ixl (K := K)) (pv 0) pe_int (fun _ _ => rfl)) pe_int (nomark _))
      (pss_cons (ps_set (i := 2) sc_l_take.nd rfl (Or.inl rfl) (pe_op op_mod (pe_ix (ixl (K := K)) (pv 0) pe_int (fun _ _ => rfl)) (pv 1)))
      (pss_cons (ps_asg (pe_op op_fd (pe_ix (ixl (K := K)) (pv 0) pe_int (fun _ _ => rfl)) (pv 1)) (pg_sub (pv 0) pe_int set_list))
      (pss_one (ps_ret (pv 2)))))
      pss_nil)
      (pss_cons (ps_asg (pe_op op_add (pe_ix (ixl (K := K)) (pv 0) pe_int (fun _ _ => rfl)) pe_int) (pg_sub (pv 0) pe_int set_list))
      (pss_cons (ps_set (i := 3) sc_l_take.nd rfl (Or.inl rfl) (pe_lst (pa_cons pe_int (pa_cons pe_int (pa_cons pe_int (pa_cons pe_int (pa_cons pe_int (pa_cons pe_int (pa_cons pe_int (pa_cons pe_int pa_nil))))))))))
      (pss_cons (ps_set (i := 4) sc_l_take.nd rfl (Or.inl rfl) (pe_ix (ixl (K := K)) (pv 3) (pe_op op_mod (pe_ix (ixl (K := K)) (pv 0) pe_int (fun _ _ => rfl)) pe_int) (fun _ _ => rfl)))
      (pss_cons (ps_set (i := 5) sc_l_take.nd rfl (Or.inl rfl) (pe_op op_mod (pe_op op_pow (pe_op op_add (pe_ix (ixl (K := K)) (pv 0) pe_int (fun _ _ => rfl)) (pe_op op_mulA pe_int (pe_ix (ixl (K := K)) (pv 0) pe_int (fun _ _ => rfl)))) pe_int) (pv 4)))
      (pss_one (ps_ret (pe_op op_mod (pe_op op_fd (pe_op op_mod (pe_op op_mulA (pv 5) (pe_op op_add (pe_op op_mod (pv 5) pe_int) (pe_ix (ixl (K := K)) (pv 0) pe_int (fun _ _ => rfl)))) (pv 4)) pe_int) (pv 1))))))))), ?_⟩
    obtain ⟨a, b, c, h0, ha, hb, hb2, hc, hc2⟩ := hh
    refine ⟨_, rfl, _, _, _, _, rfl, rfl, SqL.of h0, rfl, _, _, rfl, rfl, _, rfl, ?_⟩
    refine ite2 (fun e => ?_) (fun e => ?_)
    · have e0 : 0 < a := of_decide_eq_true e
      refine ⟨_, rfl, _, _, _, _, rfl, rfl, SqL.of h0, rfl, _, rfl, _, _, rfl, rfl, hm, ?_⟩
      refine ⟨_, rfl, _, _, _, _, rfl, rfl, SqL.of h0, rfl, _, rfl, _, _, rfl, rfl, ⟨by omega, hl⟩, _, rfl, _, _, _, _, rfl, rfl, h0, rfl, ?_⟩
      refine ⟨_, rfl, k _ _ (Int.emod_nonneg _ (by omega)) (Int.emod_lt_of_pos _ hm) ⟨a.fdiv m, b, c, upd_same, ?_, hb, hb2, hc, by omega⟩ (Kp.refl _ _).set⟩
      rw [Int.fdiv_eq_ediv_of_nonneg a (by omega)]
      exact Int.ediv_nonneg ha (by omega)
    · have c9 : c ≤ 1000000 := by omega
      refine ⟨_, rfl, _, _, _, _, rfl, rfl, SqL.of h0, rfl, _, _, rfl, rfl, _, rfl, _, _, _, _, rfl, rfl, h0, rfl, ?_⟩
      have h1 : (upd H hd (.lst ([V.int a, V.int b, V.int c].set 2 (V.int (c + 1))))) hd = some (.lst [V.int a, V.int b, V.int (c + 1)]) := upd_same
      have k1 : Kp hd H (upd H hd (.lst ([V.int a, V.int b, V.int c].set 2 (V.int (c + 1))))) := (Kp.refl _ _).set
      refine ⟨szl (by show 8 ≤ 1000; omega), fun L nL0 => ?_⟩
      have nL : (upd H hd (.lst ([V.int a, V.int b, V.int c].set 2 (V.int (c + 1))))) L = none := nL0
      have neL : L ≠ hd := fun e => by
        subst e
        rw [h1] at nL
        cases nL
      have hL : (upd (upd H hd (.lst ([V.int a, V.int b, V.int c].set 2 (V.int (c + 1))))) L (.lst [V.int 2147483647, V.int 2147483629, V.int 2147483587, V.int 2147483579, V.int 2147483563, V.int 2147483549, V.int 2147483543, V.int 2147483497])) L = some (.lst [V.int 2147483647, V.int 2147483629, V.int 2147483587, V.int 2147483579, V.int 2147483563, V.int 2147483549, V.int 2147483543, V.int 2147483497]) := upd_same
      have h2 := up1 (u := HO.lst [V.int 2147483647, V.int 2147483629, V.int 2147483587, V.int 2147483579, V.int 2147483563, V.int 2147483549, V.int 2147483543, V.int 2147483497]) nL h1
      have k2 := k1.up (u := HO.lst [V.int 2147483647, V.int 2147483629, V.int 2147483587, V.int 2147483579, V.int 2147483563, V.int 2147483549, V.int 2147483543, V.int 2147483497]) nL
      obtain ⟨pr, hpr, p0, p1⟩ : ∃ pr : Int, atI [V.int 2147483647, V.int 2147483629, V.int 2147483587, V.int 2147483579, V.int 2147483563, V.int 2147483549, V.int 2147483543, V.int 2147483497] ((c + 1) % 8) = some (.int pr) ∧ 0 < pr ∧ pr ≤ 2147483647 := by
        have m0 := Int.emod_nonneg (c + 1) (show (8 : Int) ≠ 0 by decide)
        have m1 := Int.emod_lt_of_pos (c + 1) (show (0 : Int) < 8 by decide)
        generalize (c + 1) % 8 = e at m0 m1
        have : e = 0 ∨ e = 1 ∨ e = 2 ∨ e = 3 ∨ e = 4 ∨ e = 5 ∨ e = 6 ∨ e = 7 := by omega
        rcases this with rfl | rfl | rfl | rfl | rfl | rfl | rfl | rfl <;> exact ⟨_, rfl, by decide, by decide⟩
      refine ⟨_, rfl, _, rfl, _, _, _, _, rfl, rfl, SqL.of h2, rfl, _, _, rfl, rfl, (by show (0 : Int) < 8; decide), _, _, _, _, rfl, rfl, SqL.of hL, hpr, ?_⟩
      refine ⟨_, rfl, _, _, _, _, rfl, rfl, SqL.of h2, rfl, _, rfl, _, _, _, _, rfl, rfl, SqL.of h2, rfl, _, _, rfl, rfl, .inl (.inl ⟨by decide, by decide⟩), _, _, rfl, rfl, _, _, rfl, rfl, ⟨by decide, by decide, by omega⟩, _, rfl, _, _, rfl, rfl, p0, ?_⟩
      have q0 := Int.emod_nonneg ((b + 7919 * (c + 1)) ^ Int.toNat 5) (show pr ≠ 0 by omega)
      have q1 := Int.emod_lt_of_pos ((b + 7919 * (c + 1)) ^ Int.toNat 5) p0
      refine ⟨_, rfl, _, rfl, _, _, rfl, rfl, (by show (0 : Int) < 1009; decide), _, rfl, _, _, _, _, rfl, rfl, SqL.of h2, rfl, _, _, rfl, rfl, _, _, rfl, rfl, .inl (.inl ?_), _, rfl, _, _, rfl, rfl, p0, _, _, rfl, rfl, ⟨by decide, by decide +kernel⟩, _, rfl, _, _, rfl, rfl, hm, ?_⟩
      · generalize (b + 7919 * (c + 1)) ^ Int.toNat 5 % pr = z at q0 q1
        constructor <;> omega
      · exact k _ _ (Int.emod_nonneg _ (by omega)) (Int.emod_lt_of_pos _ hm) ⟨a, b, c + 1, h2, ha, hb, hb2, by omega, by omega⟩ k2
theorem ok_l_pick {P : Program} {w : World} {K : PySem.W.Frag} {mg : Str → Option Value} {base : Heap} {φ : Fds} (T : Txt K mg φ) : FnOk P w K mg base CX0 2 (He.fAd K ("_law_pick", none)) φ.l_pick p_l_pick (sp_of K) := by
  obtain ⟨_, B0v, B0⟩ := b_l_take_2 T
  refine T.f_l_pick.ok sc_l_pick (fun vs H Q E h => ?_) (fun cdv A outer s H vs Q E hr h => ?_)
  · obtain ⟨h, l, n, xs, rfl, hh, hn, hl, ne, l0, l1, k⟩ := h; rfl
  · obtain ⟨h, l, n, xs, rfl, hh, hn, hl, ne, l0, l1, k⟩ := h
    refine ⟨_, PSs.nox (pss_one (ps_ret (pe_ix (ixl (K := K)) (pv 1) (pe_call (ok_l_take (K := K) T) (hr.mono (by decide)) rfl T.g_l_take T.f_l_take.kp B0 B0v pass0 (pa_cons (pv 0) (pa_cons (pe_callB (id := "len") (lenS (K := K)) (by rfl) T.z_len PySem.boot_len (pa_cons (pv 1) pa_nil)) pa_nil))) (fun _ _ => rfl)))), ?_⟩
    refine ⟨_, rfl, _, rfl, _, rfl, l, xs, rfl, .inl hl, h, n, (xs.length : Int), rfl, hh, by omega, by omega, ?_, fun d H1 d0 d1 hh1 k1 => ?_⟩
    · have : (xs.length : Int).natAbs = xs.length := by omega
      rw [this]
      have : xs.length < 2 ^ 10 := by omega
      exact Nat.lt_of_lt_of_le (PySem.Flt.log2_lt_of (by decide) this) (by decide)
    obtain ⟨j, rfl⟩ := Int.eq_ofNat_of_zero_le d0
    have hj : j < xs.length := by omega
    exact ⟨l, xs, _, xs[j], rfl, rfl, k1.seq ne hl, atI_nat (List.getElem?_eq_getElem hj), k j _ _ (List.getElem?_eq_getElem hj) hh1 k1⟩
theorem ok_l_grain {P : Program} {w : World} {K : PySem.W.Frag} {mg : Str → Option Value} {base : Heap} {φ : Fds} (T : Txt K mg φ) : FnOk P w K mg base CX0 3 (He.fAd K ("_law_grain", none)) φ.l_grain p_l_grain sp_grain38 := by
  obtain ⟨_, B0v, B0⟩ := b_l_pick_2 T
  refine T.f_l_grain.ok sc_l_grain (fun vs H Q E h => ?_) (fun cdv A outer s H vs Q E hr h => ?_)
  · obtain ⟨h, n, rfl, hh, hn, kk⟩ := h; rfl
  · obtain ⟨h, n, rfl, hh, hn, kk⟩ := h
    refine ⟨_, PSs.nox (pss_one (ps_ret (pe_call (ok_l_pick (K := K) T) (hr.mono (by decide)) rfl T.g_l_pick T.f_l_pick.kp B0 B0v pass0 (pa_cons (pv 0) (pa_cons (pe_lst (pa_cons pe_int (pa_cons pe_int (pa_cons pe_int (pa_cons pe_int (pa_cons pe_int (pa_cons pe_int (pa_cons (pe_op op_mulA pe_int (pe_op op_pow pe_int pe_int)) pa_nil)))))))) pa_nil))))), ?_⟩
    walk_at "w"
    refine ⟨⟨by decide, by decide, by decide⟩, _, _, rfl, rfl, .inl (.inl ⟨by decide, by decide⟩), szl (by show 7 ≤ 1000; omega), fun p np => ?_⟩
    refine ⟨h, p, n, _, rfl, hh.up np, by omega, SqL.of upd_same, hh.ne np, by show 0 < 7; omega, by show 7 ≤ 1000; omega, fun i x H1 hx h1 k1 => ?_⟩
    obtain ⟨g, rfl, g0, g1⟩ : ∃ g : Int, x = .int g ∧ 0 < g ∧ g ≤ 12000000000 := by
      have hm := List.mem_of_getElem? hx
      simp at hm
      rcases hm with rfl | rfl | rfl | rfl | rfl | rfl | rfl <;> exact ⟨_, rfl, by decide, by decide⟩
    exact kk g H1 g0 g1 h1 (((Kp.refl h H).up np).trans k1)
theorem ok_l_drawn_marks {P : Program} {w : World} {K : PySem.W.Frag} {mg : Str → Option Value} {base : Heap} {φ : Fds} (T : Txt K mg φ) : FnOk P w K mg base CX0 3 (He.fAd K ("_law_drawn_marks", none)) φ.l_drawn_marks p_l_drawn_marks sp_dmarks := by
  obtain ⟨_, B0v, B0⟩ := b_l_take_2 T
  obtain ⟨_, B1v, B1⟩ := b_l_pick_2 T
  refine T.f_l_drawn_marks.ok sc_l_drawn_marks (fun vs H Q E h => ?_) (fun cdv A outer s H vs Q E hr h => ?_)
  · obtain ⟨h, n, rfl, hh, hn, kk⟩ := h; rfl
  · obtain ⟨h, n, rfl, hh, hn, kk⟩ := h
    refine ⟨_, PSs.nox (pss_cons (ps_par (i := 1) (j := 2) rfl sc_l_drawn_marks.nd rfl rfl (by decide) rfl rfl (pa_cons (pe_op op_add pe_int (pe_call (ok_l_take (K := K) T) (hr.mono (by decide)) rfl T.g_l_take T.f_l_take.kp B0 B0v pass0 (pa_cons (pv 0) (pa_cons (pe_call (ok_l_pick (K := K) T) (hr.mono (by decide)) rfl T.g_l_pick T.f_l_pick.kp B1 B1v pass0 (pa_cons (pv 0) (pa_cons (pe_lst (pa_cons pe_int (pa_cons pe_int (pa_cons pe_int (pa_cons pe_int (pa_cons pe_int pa_nil)))))) pa_nil))) pa_nil)))) (pa_cons (pe_call (ok_l_take (K := K) T) (hr.mono (by decide)) rfl T.g_l_take T.f_l_take.kp B0 B0v pass0 (pa_cons (pv 0) (pa_cons pe_int pa_nil))) pa_nil)) (by rfl))
      (pss_cons (ps_par (i := 3) (j := 4) rfl sc_l_drawn_marks.nd rfl rfl (by decide) rfl rfl (pa_cons (pe_lst (pa_cons (pe_op op_mulA pe_int (pe_op op_sub (pe_call (ok_l_take (K := K) T) (hr.mono (by decide)) rfl T.g_l_take T.f_l_take.kp B0 B0v pass0 (pa_cons (pv 0) (pa_cons pe_int pa_nil))) pe_int)) pa_nil)) (pa_cons (pe_op op_mulA pe_int (pe_op op_add pe_int (pe_call (ok_l_take (K := K) T) (hr.mono (by decide)) rfl T.g_l_take T.f_l_take.kp B0 B0v pass0 (pa_cons (pv 0) (pa_cons pe_int pa_nil))))) pa_nil)) (by rfl))
      (pss_cons (ps_for PassesOwn.never rfl (pi_range1 rfl T.z_range (pa_cons (pe_op op_sub (pv 1) pe_int) pa_nil)) (pg_name (i := 5) sc_l_drawn_marks.nd rfl (Or.inl rfl))
      (pss_one (ps_expr (pe_bm PySem.F.plainAttrs_list PySem.F.slot_list_append PySem.F.type_list_append mt_append (pv 3) (pa_cons (pe_op op_add (pe_ix (ixl (K := K)) (pv 3) (pe_un un_neg pe_int) (fun _ _ => rfl)) (pe_ifExp (pt_cmpR op_eq (pv 2) pe_int (nomark _)) (pv 4) (pe_op op_mulA pe_int (pe_op op_add pe_int (pe_call (ok_l_take (K := K) T) (hr.mono (by decide)) rfl T.g_l_take T.f_l_take.kp B0 B0v pass0 (pa_cons (pv 0) (pa_cons pe_int pa_nil))))))) pa_nil)))))
      (pss_one (ps_ret (pv 3)))))), ?_⟩
    walk_at "w"
    intro p1 np1
    refine ⟨h, p1, n, _, rfl, hh.up np1, by omega, SqL.of upd_same, hh.ne np1, by show 0 < 5; omega, by show 5 ≤ 1000; omega, fun i1 x H1 hx hh1 k1 => ?_⟩
    obtain ⟨many, rfl, m0, m1⟩ : ∃ g : Int, x = .int g ∧ 0 < g ∧ g ≤ 24 := by
      have hm := List.mem_of_getElem? hx
      simp at hm
      rcases hm with rfl | rfl | rfl | rfl <;> exact ⟨_, rfl, by decide, by decide⟩
    walk_at "w"
    intro t H2 t0 t1 hh2 k2
    obtain ⟨tn, rfl⟩ := Int.eq_ofNat_of_zero_le t0
    walk_at "w"
    intro st H3 st0 st1 hh3 k3
    walk_at "w"
    intro a H4 a0 a1 hh4 k4
    walk_at "w"
    intro l nl
    have hh5 : HandAt (upd H4 l (.lst [.int (4 * (a - 20))])) h (n + 1 + 1 + 1 + 1) := hh4.up nl
    have k5 : Kp h H (upd H4 l (.lst [.int (4 * (a - 20))])) := (((((Kp.refl h H).up np1).trans k1).trans k2).trans (k3.trans k4)).up nl
    have nlh := hh4.ne nl
    have nlH : H l = none := (((((Kp.refl h H).up np1).trans k1).trans k2).trans (k3.trans k4)).fresh nl nlh
    have hl5 : (upd H4 l (.lst [.int (4 * (a - 20))])) l = some (.lst ([4 * (a - 20)].map V.int)) := upd_same
    walk_at "w"
    intro b H6 b0 b1 hh6 k6
    have k06 := k5.trans k6
    have hl6 : H6 l = some (.lst ([4 * (a - 20)].map V.int)) := k6 _ _ hl5 nlh
    walk_at "w"
    refine for_range (fun i σ H' => ∃ (v5 : Option V) (ms : List Int) (e : Int), σ = [some (.ref h), some (.int (1 + (tn : Int))), some (.int st), some (.ref l), some (.int (4 * (1 + b))), v5] ∧ H' l = some (.lst (ms.map V.int)) ∧ GrowD i ms e ∧ HandAt H' h (n + 5 + i) ∧ Kp h H H') ⟨_, _, _, rfl, hl6, GrowD.first a0 a1, hh6, k06⟩ ?_ ?_
    · rintro i σ H7 hi ⟨v5, ms, e, rfl, hl, g, hh7, k7⟩
      have hi2 : i < 24 := by omega
      have hlen := g.len
      refine ⟨_, rfl, .inl ⟨rfl, _, SqL.of hl⟩, _, rfl, _, rfl, l, _, _, _, rfl, rfl, SqL.of hl, g.end, ?_⟩
      refine ⟨_, rfl, rfl, _, rfl, ?_⟩
      refine ite2 (fun e1 => ?_) (fun e1 => ?_)
      · exact ⟨_, rfl, _, _, rfl, rfl, l, _, _, rfl, rfl, hl, szs (by rw [List.length_map]; omega), _, ms ++ [e + 4 * (1 + b)], e + 4 * (1 + b), rfl, (by rw [upd_same, List.map_append]; rfl), g.snoc (by omega) (by omega) (by omega), (hh7.put nlh).mono (by omega), k7.putN nlH⟩
      · refine ⟨_, rfl, h, _, 9, rfl, hh7, by omega, by decide, logS (by omega), fun c H8 c0 c1 hh8 k8 => ?_⟩
        have hl8 := k8 _ _ hl nlh
        exact ⟨_, _, rfl, rfl, _, _, rfl, rfl, .inl (.inl ⟨by decide, by decide⟩), _, _, rfl, rfl, l, _, _, rfl, rfl, hl8, szs (by rw [List.length_map]; omega), _, ms ++ [e + 4 * (1 + c)], e + 4 * (1 + c), rfl, (by rw [upd_same, List.map_append]; rfl), g.snoc (by omega) (by omega) (by omega), (hh8.put nlh).mono (by omega), (k7.trans k8).putN nlH⟩
    · rintro σ H7 ⟨v5, ms, e, rfl, hl, g, hh7, k7⟩
      refine ⟨_, rfl, kk l ms H7 nlH nlh hl (g.marks (by omega)) (hh7.mono (by omega)) k7⟩
theorem ok_l_drawn_ladder {P : Program} {w : World} {K : PySem.W.Frag} {mg : Str → Option Value} {base : Heap} {φ : Fds} (T : Txt K mg φ) : FnOk P w K mg base CX0 4 (He.fAd K ("_law_drawn_ladder", none)) φ.l_drawn_ladder p_l_drawn_ladder sp_dladder := by
  obtain ⟨_, B0v, B0⟩ := b_l_pick_2 T
  obtain ⟨_, B1v, B1⟩ := b_l_drawn_marks_1 T
  obtain ⟨_, B2v, B2⟩ := b_l_take_2 T
  refine T.f_l_drawn_ladder.ok sc_l_drawn_ladder (fun vs H Q E h => ?_) (fun cdv A outer s H vs Q E hr h => ?_)
  · obtain ⟨h, n, rfl, hh, hn, kk⟩ := h; rfl
  · obtain ⟨h, n, rfl, hh, hn, kk⟩ := h
    refine ⟨_, PSs.nox (pss_cons (ps_par (i := 1) (j := 2) rfl sc_l_drawn_ladder.nd rfl rfl (by decide) rfl rfl (pa_cons (pe_call (ok_l_drawn_marks (K := K) T) (hr.mono (by decide)) rfl T.g_l_drawn_marks T.f_l_drawn_marks.kp B1 B1v pass0 (pa_cons (pv 0) pa_nil)) (pa_cons (pe_call (ok_l_pick (K := K) T) (hr.mono (by decide)) rfl T.g_l_pick T.f_l_pick.kp B0 B0v pass0 (pa_cons (pv 0) (pa_cons (pe_lst (pa_cons pe_str (pa_cons pe_str (pa_cons pe_str pa_nil)))) pa_nil))) pa_nil)) (by rfl))
      (pss_cons (ps_asg (pe_tup (pa_cons pe_non (pa_cons pe_non pa_nil))) (pg_tup rfl (pgs_cons (pg_name (i := 3) sc_l_drawn_ladder.nd rfl (Or.inl rfl)) (pgs_cons (pg_name (i := 4) sc_l_drawn_ladder.nd rfl (Or.inl rfl)) pgs_nil))))
      (pss_cons (ps_cut (ps_if (pt_cmpR op_eq (pe_call (ok_l_take (K := K) T) (hr.mono (by decide)) rfl T.g_l_take T.f_l_take.kp B2 B2v pass0 (pa_cons (pv 0) (pa_cons pe_int pa_nil))) pe_int (nomark _))
      (pss_one (ps_set (i := 3) sc_l_drawn_ladder.nd rfl (Or.inl rfl) (pe_op op_add (pe_op op_sub (pe_ix (ixl (K := K)) (pv 1) pe_int (fun _ _ => rfl)) pe_int) (pe_op op_mulA pe_int (pe_call (ok_l_take (K := K) T) (hr.mono (by decide)) rfl T.g_l_take T.f_l_take.kp B2 B2v pass0 (pa_cons (pv 0) (pa_cons pe_int pa_nil)))))))
      pss_nil))
      (pss_cons (ps_cut (ps_if (pt_cmpR op_eq (pe_call (ok_l_take (K := K) T) (hr.mono (by decide)) rfl T.g_l_take T.f_l_take.kp B2 B2v pass0 (pa_cons (pv 0) (pa_cons pe_int pa_nil))) pe_int (nomark _))
      (pss_one (ps_set (i := 4) sc_l_drawn_ladder.nd rfl (Or.inl rfl) (pe_callB (id := "max") (call_max2 rfl) (by rfl) T.z_max (by decide +kernel) (pa_cons (pe_op op_sub (pe_op op_add (pe_ix (ixl (K := K)) (pv 1) (pe_un un_neg pe_int) (fun _ _ => rfl)) pe_int) (pe_op op_mulA pe_int (pe_call (ok_l_take (K := K) T) (hr.mono (by decide)) rfl T.g_l_take T.f_l_take.kp B2 B2v pass0 (pa_cons (pv 0) (pa_cons pe_int pa_nil))))) (pa_cons (pe_ifExp (pt_cmpR op_isN (pv 3) pe_non (nomark _)) (pe_op op_sub (pe_ix (ixl (K := K)) (pv 1) pe_int (fun _ _ => rfl)) pe_int) (pv 3)) pa_nil)))))
      pss_nil))
      (pss_one (ps_ret (pe_tup (pa_cons (pv 1) (pa_cons (pv 2) (pa_cons (pv 3) (pa_cons (pv 4) pa_nil))))))))))), ?_⟩
    refine ⟨_, rfl, h, n, rfl, hh, by omega, fun l ms H1 nlH nlh hl mk hh1 k1 => ?_⟩
    refine ⟨_, rfl, szl (by show 3 ≤ 1000; omega), fun p1 np1 => ?_⟩
    refine ⟨h, p1, _, _, rfl, hh1.up np1, by omega, SqL.of upd_same, hh1.ne np1, by show 0 < 3; omega, by show 3 ≤ 1000; omega, fun i1 x H2 hx hh2 k2 => ?_⟩
    obtain ⟨r, rfl, hr⟩ : ∃ r : Str, x = .str r ∧ IsRule r := by
      have hm := List.mem_of_getElem? hx
      simp at hm
      rcases hm with rfl | rfl | rfl
      · exact ⟨_, rfl, .inl rfl⟩
      · exact ⟨_, rfl, .inr (.inl rfl)⟩
      · exact ⟨_, rfl, .inr (.inr rfl)⟩
    have k02 : Kp h H H2 := (k1.up np1).trans k2
    have hl2 : H2 l = some (.lst (ms.map V.int)) := k2 _ _ (up1 np1 hl) nlh
    refine ⟨_, _, rfl, szl (by show 2 ≤ 1000; omega), fun p2 np2 => ?_⟩
    refine ⟨p2, _, rfl, SqT.of upd_same, rfl, _, _, rfl, _, _, rfl, rfl, ?_⟩
    have hh3 := hh2.up (u := .tup [.non, .non]) np2
    have k03 := k02.up (u := .tup [.non, .non]) np2
    have hl3 := up1 (u := .tup [.non, .non]) np2 hl2
    generalize upd H2 p2 (.tup [.non, .non]) = H3 at *
    obtain ⟨m0, hm0, mm0, _⟩ := mk.front
    obtain ⟨e, he, me, _⟩ := mk.end
    have b0 := mk.bnd m0 mm0
    have be := mk.bnd e me
    have f0 := mk.four m0 mm0
    have fe := mk.four e me
    clear hh hh1 hh2 hx np1 np2
    refine ⟨fun σ' H' => ∃ lo : Option Int, σ' = [some (.ref h), some (.ref l), some (.str r), some (optZ lo), some .non] ∧ HandAt H' h (n + 30 + 1 + 2) ∧ Kp h H H' ∧ H' l = some (.lst (ms.map V.int)) ∧ (∀ z, lo = some z → z % 2 = 0 ∧ -1300 ≤ z ∧ z ≤ 1300), ?_, ?_⟩
    · refine ⟨_, rfl, h, _, 3, rfl, hh3, by omega, by decide, logS (by omega), fun t H4 t0 t1 hh4 k4 => ⟨rfl, _, rfl, ?_⟩⟩
      have hl4 := k4 _ _ hl3 nlh
      refine ite2 (fun e1 => ?_) (fun e1 => ?_)
      · refine ⟨_, rfl, l, _, _, _, rfl, rfl, SqL.of hl4, hm0, _, _, rfl, rfl, _, rfl, h, _, 30, rfl, hh4, by omega, by decide, logS (by omega), fun u H5 u0 u1 hh5 k5 => ⟨_, _, rfl, rfl, .inl (.inl ⟨by decide, by decide⟩), _, _, rfl, rfl, ?_⟩⟩
        exact ⟨some (m0 - 12 + 2 * u), rfl, hh5.mono (by omega), (k03.trans k4).trans k5, k5 _ _ hl4 nlh, fun z hz => by cases hz; omega⟩
      · exact ⟨none, rfl, hh4.mono (by omega), k03.trans k4, hl4, fun z hz => by cases hz⟩
    rintro σ' H4 ⟨lo, rfl, hh4, k4, hl4, hlo⟩
    refine ⟨fun σ' H' => ∃ hi : Option Int, σ' = [some (.ref h), some (.ref l), some (.str r), some (optZ lo), some (optZ hi)] ∧ HandAt H' h (n + 30 + 1 + 2 + 2) ∧ Kp h H H' ∧ H' l = some (.lst (ms.map V.int)) ∧ (∀ z, hi = some z → z % 2 = 0 ∧ -1300 ≤ z ∧ z ≤ 1300) ∧ ∀ a b, lo = some a → hi = some b → a ≤ b, ?_, ?_⟩
    · refine ⟨_, rfl, h, _, 3, rfl, hh4, by omega, by decide, logS (by omega), fun t H5 t0 t1 hh5 k5 => ⟨rfl, _, rfl, ?_⟩⟩
      have hl5 := k5 _ _ hl4 nlh
      refine ite2 (fun e1 => ?_) (fun e1 => ?_)
      · refine ⟨_, rfl, _, rfl, l, _, _, _, rfl, rfl, SqL.of hl5, he, _, _, rfl, rfl, _, rfl, h, _, 30, rfl, hh5, by omega, by decide, logS (by omega), fun u H6 u0 u1 hh6 k6 => ⟨_, _, rfl, rfl, .inl (.inl ⟨by decide, by decide⟩), _, _, rfl, rfl, ?_⟩⟩
        have hl6 := k6 _ _ hl5 nlh
        have k06 := (k4.trans k5).trans k6
        cases lo with
        | none =>
          refine ⟨_, rfl, rfl, _, rfl, ?_⟩
          refine iteDT rfl ?_
          refine ⟨_, rfl, l, _, _, _, rfl, rfl, SqL.of hl6, hm0, _, _, rfl, rfl, _, _, rfl, ?_⟩
          exact ⟨some (if m0 - 12 > e + 12 - 2 * u then m0 - 12 else e + 12 - 2 * u), rfl, hh6.mono (by omega), k06, hl6, (fun z hz => by cases hz; split <;> omega), fun a b hz => by cases hz⟩
        | some a =>
          have ha := hlo a rfl
          refine ⟨_, rfl, rfl, _, rfl, ?_⟩
          refine iteDF (fun z => by cases z) ?_
          refine ⟨_, rfl, _, _, rfl, ?_⟩
          exact ⟨some (if a > e + 12 - 2 * u then a else e + 12 - 2 * u), rfl, hh6.mono (by omega), k06, hl6, (fun z hz => by cases hz; split <;> omega), fun a' b hz hz' => by cases hz; cases hz'; split <;> omega⟩
      · exact ⟨none, rfl, hh5.mono (by omega), k4.trans k5, hl5, (fun z hz => by cases hz), fun a b _ hz => by cases hz⟩
    rintro σ' H5 ⟨hi, rfl, hh5, k5, hl5, hhi, hsp⟩
    refine ⟨_, rfl, _, rfl, _, rfl, _, rfl, szl (by show 4 ≤ 1000; omega), fun p3 np3 => ?_⟩
    exact kk p3 l ms r lo hi _ nlh ⟨upd_same, up1 np3 hl5, mk.mono (by omega), hlo, hhi, hr, hsp⟩ ((hh5.mono (by omega)).up np3) (k5.up np3)
theorem ok_l_measure {P : Program} {w : World} {K : PySem.W.Frag} {mg : Str → Option Value} {base : Heap} {φ : Fds} (T : Txt K mg φ) : FnOk P w K mg base CX0 4 (He.fAd K ("_law_measure", none)) φ.l_measure p_l_measure (sp_lmeas (He.ga K "Measure")) := by
  obtain ⟨_, B0v, B0⟩ := b_Measure_init_3 T
  refine T.f_l_measure.ok sc_l_measure (fun vs H Q E h => ?_) (fun cdv A outer s H vs Q E hr h => ?_)
  · obtain ⟨o, d, rfl, d0, d1, sz, k⟩ := h; rfl
  · obtain ⟨o, d, rfl, d0, d1, sz, k⟩ := h
    refine ⟨_, PSs.nox (pss_one (ps_ret (pe_ifExp (pt_cmpR op_isN (pv 0) pe_non (nomark _)) pe_non (pe_make T.mk_Measure (ok_Measure_init (K := K) T) (hr.mono (by decide)) rfl T.g_Measure B0 B0v pass0 (pa_cons (pv 0) (pa_cons (pv 1) pa_nil)))))), ?_⟩
    cases o with
    | none =>
      walk_at "w"
      exact k _ _ (Same.refl _) rfl
    | some z =>
      walk_at "w"
      refine q_made (k := 40) d0 (sz z rfl) ?_ (by decide) (by decide) fun q H1 s1 R => k _ H1 s1 ⟨q, rfl, R⟩
      show d.natAbs < 2 ^ 40
      omega
theorem ok_l_made {P : Program} {w : World} {K : PySem.W.Frag} {mg : Str → Option Value} {base : Heap} {φ : Fds} (T : Txt K mg φ) : FnOk P w K mg base CX0 5 (He.fAd K ("_law_made", none)) φ.l_made p_l_made (sp_lmade38 K (He.ga K "Measure") (He.ga K "Ladder")) := by
  obtain ⟨_, B0v, B0⟩ := b_Measure_init_3 T
  obtain ⟨_, B1v, B1⟩ := b_Ladder_init_2 T
  obtain ⟨_, B2⟩ := b_Ladder_init_2_rule T
  obtain ⟨_, B3⟩ := b_Ladder_init_2_most_rule_least T
  obtain ⟨_, B4v, B4⟩ := b_l_measure_2 T
  refine T.f_l_made.ok sc_l_made (fun vs H Q E h => ?_) (fun cdv A outer s H vs Q E hr h => ?_)
  · obtain ⟨p, l, ms, r, lo, hi, d, rfl, hL, d0, d1, k⟩ := h; rfl
  · obtain ⟨p, l, ms, r, lo, hi, d, rfl, hL, d0, d1, k⟩ := h
    refine ⟨_, PSs.nox (pss_cons (ps_set (i := 2) sc_l_made.nd rfl (Or.inl rfl) (pe_callTy (T := "tuple") (tupleL (K := K)) (by rfl) T.z_tuple (by decide +kernel) (pa_cons (pe_lc (own := [("_law_x", 3)]) (g := gName 3) rfl sc_l_made.nd (pi_list (pe_ix (ixt (K := K)) (pv 0) pe_int (fun _ _ => rfl))) (blkOk_by (own := [("_law_x", 3)]) (N := N_l_made) (sc := (defScope s_l_made)) (by decide +kernel)) (fun _ _ _ _ _ => (pg_name (i := 3) sc_l_made.nd rfl (Or.inl rfl))) (fun _ _ _ _ _ => pts_nil) (fun _ _ _ _ _ => (pe_make T.mk_Measure (ok_Measure_init (K := K) T) (hr.mono (by decide)) rfl T.g_Measure B0 B0v pass0 (pa_cons (pv 3) (pa_cons (pv 1) pa_nil))))) pa_nil)))
      (pss_cons (ps_if (PW.pt (pw_and (pt_cmpR op_isN (pe_ix (ixt (K := K)) (pv 0) pe_int (fun _ _ => rfl)) pe_non (nomark _)) (pw_and1 (pt_cmpR op_isN (pe_ix (ixt (K := K)) (pv 0) pe_int (fun _ _ => rfl)) pe_non (nomark _)))))
      (pss_one (ps_ret (pe_ifExp (pt_cmpR op_eq (pe_ix (ixt (K := K)) (pv 0) pe_int (fun _ _ => rfl)) pe_str (nomark _)) (pe_make T.mk_Ladder (ok_Ladder_init (K := K) T) (hr.mono (by decide)) rfl T.g_Ladder B1 B1v pass0 (pa_cons (pv 2) pa_nil)) (pe_makeK T.mk_Ladder (ok_Ladder_init (K := K) T) (hr.mono (by decide)) rfl T.g_Ladder B2 pass0 (pa_cons (pv 2) pa_nil) (pk_cons (pe_ix (ixt (K := K)) (pv 0) pe_int (fun _ _ => rfl)) pk_nil)))))
      pss_nil)
      (pss_one (ps_ret (pe_makeK T.mk_Ladder (ok_Ladder_init (K := K) T) (hr.mono (by decide)) rfl T.g_Ladder B3 pass0 (pa_cons (pv 2) pa_nil) (pk_cons (pe_call (ok_l_measure (K := K) T) (hr.mono (by decide)) rfl T.g_l_measure T.f_l_measure.kp B4 B4v pass0 (pa_cons (pe_ix (ixt (K := K)) (pv 0) pe_int (fun _ _ => rfl)) (pa_cons (pv 1) pa_nil))) (pk_cons (pe_ix (ixt (K := K)) (pv 0) pe_int (fun _ _ => rfl)) (pk_cons (pe_call (ok_l_measure (K := K) T) (hr.mono (by decide)) rfl T.g_l_measure T.f_l_measure.kp B4 B4v pass0 (pa_cons (pe_ix (ixt (K := K)) (pv 0) pe_int (fun _ _ => rfl)) (pa_cons (pv 1) pa_nil))) pk_nil)))))))), ?_⟩
    have cl_Measure := T.cl_Measure
    have na_Measure_top := T.na_Measure_top
    have na_Measure_bottom := T.na_Measure_bottom
    have cl_Ladder := T.cl_Ladder
    have na_Ladder_marks := T.na_Ladder_marks
    have na_Ladder_rule := T.na_Ladder_rule
    have na_Ladder_least := T.na_Ladder_least
    have na_Ladder_most := T.na_Ladder_most
    
    have hL0 := hL
    obtain ⟨hp, hl, mk, bl, bh, ru, sp⟩ := hL
    have l0 := mk.len0
    have l1 := mk.len1
    walk_at "w"
    intro D nD
    have lm : (ms.map V.int).length = ms.length := List.length_map ..
    have sz40 : ∀ z : Int, -5000 ≤ z → z ≤ 5000 → Sz 40 z := fun z h1 h2 => by
      show z.natAbs < 2 ^ 40
      omega
    have szd : Sz 40 d := by
      show d.natAbs < 2 ^ 40
      omega
    refine lcr (n := (ms.map V.int).length) walk_list (fun _ _ g s => s.seq g) (fun i H v => ∃ q m, v = .ref q ∧ ms[i]? = some m ∧ QAt (He.ga K "Measure") H q 40 (m, d)) (fun i H H' y ⟨q, m, e1, e2, e3⟩ n => ⟨q, m, e1, e2, e3.nl n⟩) (by rw [sizeLine_eq]; omega) (SqL.of hl) nD (fun i x H1 H2 N M hi s1 y hN => ?_) (fun H1 ys s1 hD ly hy => ?_)
    · obtain ⟨rfl, hx⟩ := y
      rw [List.getElem?_map] at hx
      obtain ⟨m, hm⟩ := geI (zs := ms) (n := i) (by omega)
      rw [hm] at hx
      cases hx
      have bm := mk.bnd m (List.mem_of_getElem? hm)
      refine ⟨rfl, yesT ?_⟩
      walk_at "w"
      exact q_made (k := 40) d0 (sz40 m bm.1 bm.2) szd (by decide) (by decide) fun q H3 s3 R => hN _ _ s3 ⟨q, m, rfl, hm, R⟩
    walk_at "w"
    intro T2 nT2
    have s2 : Same H (upd H1 T2 (.tup ys)) := s1.trans (same1 nT2)
    have hT2 : upd H1 T2 (.tup ys) T2 = some (.tup ys) := upd_same
    have my : Mks (He.ga K "Measure") (upd H1 T2 (.tup ys)) 40 ys (zq d ms) := ⟨by rw [zq_len]; omega, fun i v z h1 h2 => by
      obtain ⟨q, m, e1, e2, e3⟩ := hy i v h1
      obtain ⟨m', e4, rfl⟩ := zq_get h2
      rw [e2] at e4
      cases e4
      exact ⟨q, e1, e3.same (same1 nT2)⟩⟩
    generalize upd H1 T2 (.tup ys) = H2 at *
    have hp2 := s2 _ _ hp
    have sT := SqT.of (K := K) hp2
    have fin : ∀ (H3 : Hp) (vl vh : V), Same H2 H3 → QO (He.ga K "Measure") H3 40 vl (oq d lo) → QO (He.ga K "Measure") H3 40 vh (oq d hi) → ∀ x dx, H3 x = none → H3 dx = none → dx ≠ x → sp_linit K (He.ga K "Measure") (He.ga K "Ladder") [.ref x, .ref T2, .str r, vl, vh] (upd (upd H3 dx (.own x)) x (.ins (He.ga K "Ladder") dx [])) (fun v H2 => v = .non ∧ Q (.ref x) H2) E0 := fun H3 vl vh s3 ql qh =>
      lad_made (k := 40) (SqT.of (s3 _ _ hT2)) (zs := zq d ms) (my.same s3) (by decide) (by rw [zq_len]; exact l0) (by rw [zq_len]; exact l1) (mk.riseQ d0) ru ql qh (hL0.spanQ d0) fun q H5 _ s5 L5 _ => k q H5 ((s2.trans s3).trans s5) L5
    by_cases both : lo = none ∧ hi = none
    · obtain ⟨rfl, rfl⟩ := both
      refine ⟨_, rfl, p, _, _, _, rfl, rfl, sT, rfl, rfl, _, rfl, iteDT rfl ⟨_, rfl, p, _, _, _, rfl, rfl, sT, rfl, rfl, _, rfl, iteDT rfl ?_⟩⟩
      refine ⟨_, rfl, p, _, _, _, rfl, rfl, sT, rfl, rfl, _, rfl, ?_⟩
      refine ite2 (fun e => ?_) (fun e => ?_)
      · have er : r = "up" := V.str.inj (of_decide_eq_true e)
        subst er
        exact ⟨_, rfl, fin H2 .non .non (Same.refl _) rfl rfl⟩
      · exact ⟨_, rfl, _, rfl, p, _, _, _, rfl, rfl, sT, rfl, rfl, rfl, fin H2 .non .non (Same.refl _) rfl rfl⟩
    · cases lo with
      | none =>
        cases hi with
        | none => exact absurd ⟨rfl, rfl⟩ both
        | some b =>
          refine ⟨_, rfl, p, _, _, _, rfl, rfl, sT, rfl, rfl, _, rfl, iteDT rfl ⟨_, rfl, p, _, _, _, rfl, rfl, sT, rfl, rfl, _, rfl, iteDF (fun z => by cases z) ?_⟩⟩
          refine ⟨_, rfl, _, rfl, p, _, _, _, rfl, rfl, sT, rfl, _, rfl, some b, d, rfl, d0, d1, fun z hz => sz40 z (bh z hz).2.1 (bh z hz).2.2, fun vh H3 s3 qh => ?_⟩
          have sT3 := SqT.of (K := K) (s3 _ _ hp2)
          refine ⟨_, rfl, p, _, _, _, rfl, rfl, sT3, rfl, _, rfl, p, _, _, _, rfl, rfl, sT3, rfl, _, rfl, none, d, rfl, d0, d1, fun z hz => sz40 z (bl z hz).2.1 (bl z hz).2.2, fun vl H4 s4 ql => ?_⟩
          exact ⟨rfl, rfl, fin H4 vl vh (s3.trans s4) ql (qh.same s4)⟩
      | some a =>
        refine ⟨_, rfl, p, _, _, _, rfl, rfl, sT, rfl, rfl, _, rfl, iteDF (fun z => by cases z) (iteF ?_)⟩
        refine ⟨_, rfl, _, rfl, p, _, _, _, rfl, rfl, sT, rfl, _, rfl, hi, d, rfl, d0, d1, fun z hz => sz40 z (bh z hz).2.1 (bh z hz).2.2, fun vh H3 s3 qh => ?_⟩
        have sT3 := SqT.of (K := K) (s3 _ _ hp2)
        refine ⟨_, rfl, p, _, _, _, rfl, rfl, sT3, rfl, _, rfl, p, _, _, _, rfl, rfl, sT3, rfl, _, rfl, some a, d, rfl, d0, d1, fun z hz => sz40 z (bl z hz).2.1 (bl z hz).2.2, fun vl H4 s4 ql => ?_⟩
        exact ⟨rfl, rfl, fin H4 vl vh (s3.trans s4) ql (qh.same s4)⟩
theorem ok_l_size {P : Program} {w : World} {K : PySem.W.Frag} {mg : Str → Option Value} {base : Heap} {φ : Fds} (T : Txt K mg φ) : FnOk P w K mg base CX0 1 (He.fAd K ("_law_size", none)) φ.l_size p_l_size sp_lsize38 := by
  refine T.f_l_size.ok sc_l_size (fun vs H Q E h => ?_) (fun cdv A outer s H vs Q E hr h => ?_)
  · obtain ⟨p, l, ms, r, lo, hi, z, d, rfl, hL, d0, k⟩ := h; rfl
  · obtain ⟨p, l, ms, r, lo, hi, z, d, rfl, hL, d0, k⟩ := h
    refine ⟨_, PSs.nox (pss_cons (ps_asg (pv 0) (pg_tup rfl (pgs_cons (pg_name (i := 2) sc_l_size.nd rfl (Or.inr rfl)) (pgs_cons (pg_name (i := 3) sc_l_size.nd rfl (Or.inl rfl)) (pgs_cons (pg_name (i := 4) sc_l_size.nd rfl (Or.inl rfl)) (pgs_cons (pg_name (i := 5) sc_l_size.nd rfl (Or.inl rfl)) pgs_nil))))))
      (pss_cons (ps_cut (ps_if (PW.pt (pw_or (PW.pt (pw_and (pt_cmpR op_notN (pv 4) pe_non (nomark _)) (pw_and1 (pt_cmpR op_lt (pv 1) (pv 4) (nomark _))))) (pw_or1 (PW.pt (pw_and (pt_cmpR op_notN (pv 5) pe_non (nomark _)) (pw_and1 (pt_cmpR op_gt (pv 1) (pv 5) (nomark _))))))))
      (pss_one (ps_ret pe_non))
      pss_nil))
      (pss_cons (ps_if (pt_cmpR op_eq (pv 3) pe_str (nomark _))
      (pss_cons (ps_setLc (i := 6) (own := [("_law_k", 8), ("_law_mark", 9)]) (g := gTup K 2 (gCons (gName 8) (gCons (gName 9) (gNil)))) rfl sc_l_size.nd rfl rfl (sw_true rfl rfl rfl (by decide +kernel)) (pi_enum (by rfl) T.z_enumerate (pa_cons (pv 2) pa_nil)) (blkOk_by (own := [("_law_k", 8), ("_law_mark", 9)]) (N := N_l_size) (sc := (defScope s_l_size)) (by decide +kernel)) (fun _ _ _ _ _ => (pg_tup rfl (pgs_cons (pg_name (i := 8) sc_l_size.nd rfl (Or.inl rfl)) (pgs_cons (pg_name (i := 9) sc_l_size.nd rfl (Or.inl rfl)) pgs_nil)))) (fun _ _ _ _ _ => (pts_one (pt_cmpR op_ge (pv 9) (pv 1) (nomark _)))) (fun _ _ _ _ _ => (pv 8)))
      (pss_one (ps_ret (pe_ifExp (pt_cmpR (op_neL0 (Nat.lt_of_le_of_lt (Nat.le_add_right _ 64) hr.units)) (pv 6) (pe_lst pa_nil) (nomark _)) (pe_ix (ixl (K := K)) (pv 6) pe_int (fun _ _ => rfl)) pe_non))))
      pss_nil)
      (pss_cons (ps_if (pt_cmpR op_eq (pv 3) pe_str (nomark _))
      (pss_cons (ps_setLc (i := 7) (own := [("_law_k", 8), ("_law_mark", 9)]) (g := gTup K 2 (gCons (gName 8) (gCons (gName 9) (gNil)))) rfl sc_l_size.nd rfl rfl (sw_true rfl rfl rfl (by decide +kernel)) (pi_enum (by rfl) T.z_enumerate (pa_cons (pv 2) pa_nil)) (blkOk_by (own := [("_law_k", 8), ("_law_mark", 9)]) (N := N_l_size) (sc := (defScope s_l_size)) (by decide +kernel)) (fun _ _ _ _ _ => (pg_tup rfl (pgs_cons (pg_name (i := 8) sc_l_size.nd rfl (Or.inl rfl)) (pgs_cons (pg_name (i := 9) sc_l_size.nd rfl (Or.inl rfl)) pgs_nil)))) (fun _ _ _ _ _ => (pts_one (pt_cmpR op_le (pv 9) (pv 1) (nomark _)))) (fun _ _ _ _ _ => (pv 8)))
      (pss_one (ps_ret (pe_ifExp (pt_cmpR (op_neL0 (Nat.lt_of_le_of_lt (Nat.le_add_right _ 64) hr.units)) (pv 7) (pe_lst pa_nil) (nomark _)) (pe_ix (ixl (K := K)) (pv 7) (pe_un un_neg pe_int) (fun _ _ => rfl)) pe_non))))
      pss_nil)
      (pss_one (ps_ret (pe_callB (id := "len") (lenS (K := K)) (by rfl) T.z_len PySem.boot_len (pa_cons (pe_lc (own := [("_law_k", 8)]) (g := gName 8) rfl sc_l_size.nd (pi_range2 rfl T.z_range (pa_cons pe_int (pa_cons (pe_callB (id := "len") (lenS (K := K)) (by rfl) T.z_len PySem.boot_len (pa_cons (pv 2) pa_nil)) pa_nil))) (blkOk_by (own := [("_law_k", 8)]) (N := N_l_size) (sc := (defScope s_l_size)) (by decide +kernel)) (fun _ _ _ _ _ => (pg_name (i := 8) sc_l_size.nd rfl (Or.inl rfl))) (fun _ _ _ _ _ => (pts_one (pt_cmpR op_le (pe_op op_add (pe_ix (ixl (K := K)) (pv 2) (pe_op op_sub (pv 8) pe_int) (fun _ _ => rfl)) (pe_ix (ixl (K := K)) (pv 2) (pv 8) (fun _ _ => rfl))) (pe_op op_mulA pe_int (pv 1)) (nomark _)))) (fun _ _ _ _ _ => (pv 8))) pa_nil)))))))), ?_⟩
    obtain ⟨hp, hl, mk, bl, bh, ru, sp⟩ := hL
    have l0 := mk.len0
    have l1 := mk.len1
    have ri := mk.rise
    have hd := d0
    have lm : (ms.map V.int).length = ms.length := List.length_map ..
    have fin : ∀ o H', sizeQ (zq d ms) r (oq d lo) (oq d hi) (z, d) = o → Same H H' → Q (optI o) H' := fun o H' e s => by rw [← e]; exact k H' s
    walk_at "w"
    refine ⟨fun σ' H' => σ' = [some (.ref p), some (.int z), some (.ref l), some (.str r), some (optZ lo), some (optZ hi), none, none, none, none] ∧ H' = H ∧ inO (oq d lo) (oq d hi) (z, d) = true, ?_, ?_⟩
    · have hiT : (∀ a, lo = some a → a ≤ z) → ∀ (b : Int), hi = some b → z ≤ b → inO (oq d lo) (oq d hi) (z, d) = true := fun h b e hb => in_true hd h fun b' e' => by rw [e] at e'; cases e'; exact hb
      cases lo with
      | none =>
        cases hi with
        | none =>
          walk_at "w"
          exact in_true hd (fun a e => nomatch e) (fun a e => nomatch e)
        | some b =>
          walk_at "w"
          refine ite2 (fun e => ?_) (fun e => ?_)
          · exact fin none _ (sizeQ_out (out_hi hd (of_decide_eq_true e))).symm (Same.refl _)
          · exact ⟨rfl, rfl, hiT (fun a e => nomatch e) b rfl (by simpa using e)⟩
      | some a =>
        walk_at "w"
        refine ite2 (fun e => ?_) (fun e => ?_)
        · exact fin none _ (sizeQ_out (out_lo hd (of_decide_eq_true e))).symm (Same.refl _)
        have ha : ∀ a', some a = some a' → a' ≤ z := fun a' e' => by cases e'; simpa using e
        cases hi with
        | none =>
          walk_at "w"
          exact in_true hd ha (fun a e => nomatch e)
        | some b =>
          walk_at "w"
          refine ite2 (fun e => ?_) (fun e => ?_)
          · exact fin none _ (sizeQ_out (out_hi hd (of_decide_eq_true e))).symm (Same.refl _)
          · exact ⟨rfl, rfl, hiT ha b rfl (by simpa using e)⟩
    rintro σ' H' ⟨rfl, rfl, hin⟩
    refine ⟨_, rfl, rfl, _, rfl, ?_⟩
    refine ite2 (fun e => ?_) (fun e => ?_)
    · have er : r = "up" := V.str.inj (of_decide_eq_true e)
      subst er
      refine ⟨_, rfl, l, _, rfl, SqL.of hl, ?_⟩
      intro D nD
      refine lcz (n := (ms.map V.int).length) walk_enum (fun _ _ g s => s.seq g) (oIdx (ms.map V.int).length (upC ms z)) (oIdx_len _ _) (szs (by omega)) (SqL.of hl) nD (fun i x H1 H2 o N M hi ho s1 y hN hM => ?_) (fun H1 s1 hD => ?_)
      · obtain ⟨t, a0, b0, rfl, nt, rfl, ha0, hb0⟩ := y
        cases ha0
        obtain ⟨a, ha⟩ := geI (zs := ms) (n := i) (by omega)
        have eo := oIdx_get ho
        rw [upC_at ha] at eo
        replace hb0 : (ms.map V.int)[i]? = some b0 := hb0
        rw [mapI ha] at hb0
        cases hb0
        refine ⟨t, _, rfl, SqT.of upd_same, rfl, _, _, rfl, _, _, rfl, rfl, rfl, ?_⟩
        refine ⟨_, rfl, _, rfl, _, _, rfl, rfl, _, rfl, ?_⟩
        refine ite2 (fun e => ?_) (fun e => ?_)
        · exact ⟨_, rfl, hN _ _ (by rw [eo, if_pos e]) (same1 nt)⟩
        · exact hM _ (by rw [eo, if_neg e]) (same1 nt)
      rw [oIdx_fm] at hD
      refine ⟨_, rfl, szl (by show 0 ≤ 1000; omega), fun L nL => ⟨D, L, _, rfl, rfl, SqL.of (up1 nL hD), SqL.of upd_same, _, rfl, ?_⟩⟩
      by_cases ne : idx (ms.map V.int).length (upC ms z) = []
      · rw [ne]
        refine iteF ?_
        refine fin none _ (up_none d0 ri hin fun m hm => ?_) (s1.trans (same1 nL))
        obtain ⟨i, hi⟩ := List.mem_iff_getElem?.mp hm
        have li := (List.getElem?_eq_some_iff.mp hi).1
        have : ¬ ((i : Int) ∈ idx (ms.map V.int).length (upC ms z)) := by rw [ne]; simp
        rw [idx_mem] at this
        apply Int.lt_of_not_ge
        intro q
        exact this ⟨i, by omega, by rw [upC_at hi]; exact decide_eq_true q, rfl⟩
      · obtain ⟨i, hi0, li, ci, hall⟩ := idx_first ne
        rw [show (!((idx (ms.map V.int).length (upC ms z)).map V.int).isEmpty) = true by
          cases e : idx (ms.map V.int).length (upC ms z) with
          | nil => exact absurd e ne
          | cons _ _ => rfl]
        refine iteT ?_
        obtain ⟨a, ha⟩ := geI (zs := ms) (n := i) (by omega)
        rw [upC_at ha] at ci
        have hat : atI ((idx (ms.map V.int).length (upC ms z)).map V.int) 0 = some (.int (i : Int)) := atI_nat (j := 0) (mapI hi0)
        refine ⟨_, rfl, D, _, _, _, rfl, rfl, SqL.of (up1 nL hD), hat, ?_⟩
        refine fin (some i) _ (up_some d0 ri hin ha (of_decide_eq_true ci) fun j b hj hb => ?_) (s1.trans (same1 nL))
        have lj := (List.getElem?_eq_some_iff.mp hb).1
        apply Int.lt_of_not_ge
        intro q
        have := hall j (by omega) (by rw [upC_at hb]; exact decide_eq_true q)
        omega
    have er : ¬ r = "up" := fun q => e (decide_eq_true (congrArg V.str q))
    refine ⟨_, rfl, rfl, _, rfl, ?_⟩
    refine ite2 (fun e => ?_) (fun e => ?_)
    · have er2 : r = "down" := V.str.inj (of_decide_eq_true e)
      subst er2
      refine ⟨_, rfl, l, _, rfl, SqL.of hl, ?_⟩
      intro D nD
      refine lcz (n := (ms.map V.int).length) walk_enum (fun _ _ g s => s.seq g) (oIdx (ms.map V.int).length (dnC ms z)) (oIdx_len _ _) (szs (by omega)) (SqL.of hl) nD (fun i x H1 H2 o N M hi ho s1 y hN hM => ?_) (fun H1 s1 hD => ?_)
      · obtain ⟨t, a0, b0, rfl, nt, rfl, ha0, hb0⟩ := y
        cases ha0
        obtain ⟨a, ha⟩ := geI (zs := ms) (n := i) (by omega)
        have eo := oIdx_get ho
        rw [dnC_at ha] at eo
        replace hb0 : (ms.map V.int)[i]? = some b0 := hb0
        rw [mapI ha] at hb0
        cases hb0
        refine ⟨t, _, rfl, SqT.of upd_same, rfl, _, _, rfl, _, _, rfl, rfl, rfl, ?_⟩
        refine ⟨_, rfl, _, rfl, _, _, rfl, rfl, _, rfl, ?_⟩
        refine ite2 (fun e => ?_) (fun e => ?_)
        · exact ⟨_, rfl, hN _ _ (by rw [eo, if_pos e]) (same1 nt)⟩
        · exact hM _ (by rw [eo, if_neg e]) (same1 nt)
      rw [oIdx_fm] at hD
      refine ⟨_, rfl, szl (by show 0 ≤ 1000; omega), fun L nL => ⟨D, L, _, rfl, rfl, SqL.of (up1 nL hD), SqL.of upd_same, _, rfl, ?_⟩⟩
      by_cases ne : idx (ms.map V.int).length (dnC ms z) = []
      · rw [ne]
        refine iteF ?_
        refine fin none _ (dn_none d0 ri hin fun m hm => ?_) (s1.trans (same1 nL))
        obtain ⟨i, hi⟩ := List.mem_iff_getElem?.mp hm
        have li := (List.getElem?_eq_some_iff.mp hi).1
        have : ¬ ((i : Int) ∈ idx (ms.map V.int).length (dnC ms z)) := by rw [ne]; simp
        rw [idx_mem] at this
        apply Int.lt_of_not_ge
        intro q
        exact this ⟨i, by omega, by rw [dnC_at hi]; exact decide_eq_true q, rfl⟩
      · obtain ⟨i, hi0, li, ci, hall⟩ := idx_last ne
        rw [show (!((idx (ms.map V.int).length (dnC ms z)).map V.int).isEmpty) = true by
          cases e : idx (ms.map V.int).length (dnC ms z) with
          | nil => exact absurd e ne
          | cons _ _ => rfl]
        refine iteT ?_
        obtain ⟨a, ha⟩ := geI (zs := ms) (n := i) (by omega)
        rw [dnC_at ha] at ci
        have hat : atI ((idx (ms.map V.int).length (dnC ms z)).map V.int) (-1) = some (.int (i : Int)) := atI_end (n := (idx (ms.map V.int).length (dnC ms z)).length - 1) (by have h8 := List.length_pos_iff.mpr ne; have h9 : ((idx (ms.map V.int).length (dnC ms z)).map V.int).length = (idx (ms.map V.int).length (dnC ms z)).length := List.length_map ..; omega) (mapI hi0)
        refine ⟨_, rfl, _, rfl, D, _, _, _, rfl, rfl, SqL.of (up1 nL hD), hat, ?_⟩
        refine fin (some i) _ (dn_some d0 ri hin ha (of_decide_eq_true ci) fun j b hj hb => ?_) (s1.trans (same1 nL))
        have lj := (List.getElem?_eq_some_iff.mp hb).1
        apply Int.lt_of_not_ge
        intro q
        have := hall j (by omega) (by rw [dnC_at hb]; exact decide_eq_true q)
        omega
    have er2 : ¬ r = "down" := fun q => e (decide_eq_true (congrArg V.str q))
    obtain ⟨c, mc, hc, ec, hmc, c1, c2⟩ := near_at (z := z) ri l0
    refine ⟨_, rfl, l, _, rfl, .inl (SqL.of hl), 1, _, rfl, ⟨by decide, by decide, by omega, by omega⟩, ?_⟩
    intro D nD
    have em : ((((ms.map V.int).length : Nat) : Int) - 1).toNat = (pairS ms).length := by rw [lm, pairS_len]; omega
    have lp := pairS_len ms
    refine lcz (n := ((((ms.map V.int).length : Nat) : Int) - 1).toNat) walk_range (fun _ _ _ _ => trivial) ((List.range (pairS ms).length).map fun i => if dnC (pairS ms) (2 * z) i = true then some (V.int (1 + (i : Int))) else none) (by rw [List.length_map, List.length_range, em]) (szs (by omega)) trivial nD (fun i x H1 H2 o N M hi ho s1 y hN hM => ?_) (fun H1 s1 hD => ?_)
    · obtain ⟨rfl, rfl⟩ := y
      have hi2 : i < (pairS ms).length := by omega
      obtain ⟨a, ha⟩ := geI (zs := ms) (n := i) (by omega)
      obtain ⟨b, hb⟩ := geI (zs := ms) (n := i + 1) (by omega)
      rw [List.getElem?_map, List.getElem?_range hi2] at ho
      have ho : (if dnC (pairS ms) (2 * z) i = true then some (V.int (1 + (i : Int))) else none) = o := Option.some.inj ho
      rw [dnC_at (pairS_get ms i a b ha hb)] at ho
      have hl1 := s1 _ _ hl
      have hat1 : atI (ms.map V.int) (1 + (i : Int) - 1) = some (.int a) := by
        rw [show 1 + (i : Int) - 1 = (i : Int) by omega]
        exact atI_nat (mapI ha)
      have hat2 : atI (ms.map V.int) (1 + (i : Int)) = some (.int b) := by
        rw [show 1 + (i : Int) = ((i + 1 : Nat) : Int) by omega]
        exact atI_nat (mapI hb)
      refine ⟨rfl, _, rfl, _, rfl, _, _, rfl, rfl, l, _, _, _, rfl, rfl, SqL.of hl1, hat1, _, rfl, _, rfl, l, _, _, _, rfl, rfl, SqL.of hl1, hat2, _, _, rfl, rfl, _, rfl, _, _, rfl, rfl, .inl (.inl ⟨by decide, by decide⟩), _, _, rfl, rfl, _, rfl, ?_⟩
      refine ite2 (fun e => ?_) (fun e => ?_)
      · rw [if_pos e] at ho
        exact ⟨_, rfl, hN _ _ ho.symm (Same.refl _)⟩
      · rw [if_neg e] at ho
        exact hM _ ho.symm (Same.refl _)
    refine ⟨D, _, rfl, .inl (SqL.of hD), ?_⟩
    rw [fm_len, cnt_at, ec]
    exact fin (some c) _ (nr_some hd hin er er2 hc ec) s1
theorem ok_l_alike {P : Program} {w : World} {K : PySem.W.Frag} {mg : Str → Option Value} {base : Heap} {φ : Fds} (T : Txt K mg φ) : FnOk P w K mg base CX0 1 (He.fAd K ("_law_alike", none)) φ.l_alike p_l_alike sp_alike2 := by
  refine T.f_l_alike.ok sc_l_alike (fun vs H Q E h => ?_) (fun cdv A outer s H vs Q E hr h => ?_)
  · obtain ⟨a, b, sh, rfl, kk⟩ := h; rfl
  · obtain ⟨a, b, sh, rfl, kk⟩ := h
    refine ⟨_, PSs.nox (pss_cons (ps_if (PW.pt (pw_or (pt_cmpR op_isN (pv 0) pe_non (nomark _)) (pw_or1 (pt_cmpR op_isN (pv 1) pe_non (nomark _)))))
      (pss_one (ps_ret (pe_and (pe_cmpR op_isN (pv 0) pe_non (nomark _)) (pe_one (pe_cmpR op_isN (pv 1) pe_non (nomark _))))))
      pss_nil)
      (pss_one (ps_ret (pe_cmpR op_eq (pv 1) (pe_op op_add (pv 0) (pv 2)) (nomark _))))), ?_⟩
    cases a with
    | none =>
      cases b with
      | none =>
        have kk : Q (.bl true) H := kk
        walk_at "w"
        show Q (.bl (decide (optI none = V.non))) H
        rw [show decide (optI none = V.non) = true from decide_eq_true rfl]
        exact kk
      | some b =>
        have kk : Q (.bl false) H := kk
        walk_at "w"
        show Q (.bl (decide (optI (some b) = V.non))) H
        rw [show decide (optI (some b) = V.non) = false from decide_eq_false fun h => by cases h]
        exact kk
    | some a =>
      cases b with
      | none =>
        have kk : Q (.bl false) H := kk
        walk_at "w"
        exact kk
      | some b =>
        have kk : Q (.bl (decide ((b : Int) = (a : Int) + sh))) H := kk
        walk_at "w"
        show Q (.bl (decide (V.int (b : Int) = V.int ((a : Int) + sh)))) H
        rw [show decide (V.int (b : Int) = V.int ((a : Int) + sh)) = decide ((b : Int) = (a : Int) + sh) from decide_eq_decide.mpr ⟨fun h => by injection h, fun h => by rw [h]⟩]
        exact kk
theorem ok_l_points {P : Program} {w : World} {K : PySem.W.Frag} {mg : Str → Option Value} {base : Heap} {φ : Fds} (T : Txt K mg φ) : FnOk P w K mg base CX0 1 (He.fAd K ("_law_points", none)) φ.l_points p_l_points sp_points38 := by
  refine T.f_l_points.ok sc_l_points (fun vs H Q E h => ?_) (fun cdv A outer s H vs Q E hr h => ?_)
  · obtain ⟨p, l, B, ms, r, lo, hi, rfl, hL, k⟩ := h; rfl
  · obtain ⟨p, l, B, ms, r, lo, hi, rfl, hL, k⟩ := h
    refine ⟨_, PSs.nox (pss_cons (ps_asg (pv 0) (pg_tup rfl (pgs_cons (pg_name (i := 1) sc_l_points.nd rfl (Or.inl rfl)) (pgs_cons (pg_name (i := 2) sc_l_points.nd rfl (Or.inl rfl)) (pgs_cons (pg_name (i := 3) sc_l_points.nd rfl (Or.inl rfl)) (pgs_cons (pg_name (i := 4) sc_l_points.nd rfl (Or.inl rfl)) pgs_nil))))))
      (pss_cons (ps_set (i := 5) sc_l_points.nd rfl (Or.inl rfl) (pe_op op_cat (pe_lc (own := [("_law_a", 6), ("_law_b", 7)]) (g := gTup K 2 (gCons (gName 6) (gCons (gName 7) (gNil)))) rfl sc_l_points.nd (RZ.pi_zipA (by rfl) T.z_zip (pa_cons (pv 1) (pa_cons (pe_slice (slL (K := K)) (pv 1) (po_some pe_int) po_none) pa_nil))) (blkOk_by (own := [("_law_a", 6), ("_law_b", 7)]) (N := N_l_points) (sc := (defScope s_l_points)) (by decide +kernel)) (fun _ _ _ _ _ => (pg_tup rfl (pgs_cons (pg_name (i := 6) sc_l_points.nd rfl (Or.inl rfl)) (pgs_cons (pg_name (i := 7) sc_l_points.nd rfl (Or.inl rfl)) pgs_nil)))) (fun _ _ _ _ _ => pts_nil) (fun _ _ _ _ _ => (pe_op op_fd (pe_op op_add (pv 6) (pv 7)) pe_int))) (pv 1)))
      (pss_one (ps_ret (pe_op op_cat (pv 5) (pe_lc (own := [("_law_x", 8)]) (g := gName 8) rfl sc_l_points.nd (pi_tup (pe_tup (pa_cons (pv 3) (pa_cons (pv 4) pa_nil)))) (blkOk_by (own := [("_law_x", 8)]) (N := N_l_points) (sc := (defScope s_l_points)) (by decide +kernel)) (fun _ _ _ _ _ => (pg_name (i := 8) sc_l_points.nd rfl (Or.inl rfl))) (fun _ _ _ _ _ => (pts_one (pt_cmpR op_notN (pv 8) pe_non (nomark _)))) (fun _ _ _ _ _ => (pv 8)))))))), ?_⟩
    have hL0 := hL
    obtain ⟨hp, hl, mk, bl, bh, ru, sp⟩ := hL
    have l0 := mk.len0
    have l1 := mk.len1
    have lm : (ms.map V.int).length = ms.length := List.length_map ..
    walk_at "w"
    intro L1 nL1
    rw [cutV_tail]
    have s1 : Same H (upd H L1 (.lst ((ms.map V.int).drop 1))) := same1 nL1
    have hL1 : upd H L1 (.lst ((ms.map V.int).drop 1)) L1 = some (.lst ((ms.map V.int).drop 1)) := upd_same
    generalize upd H L1 (.lst ((ms.map V.int).drop 1)) = H1 at *
    have hl1 := s1 _ _ hl
    refine ⟨l, L1, _, _, rfl, .inl ⟨SqL.of hl1, SqL.of hL1, fun D nD => ?_⟩⟩
    have ld : ((ms.map V.int).drop 1).length = ms.length - 1 := by rw [List.length_drop, lm]
    have lp := pairS_len ms
    refine lcz (n := ms.length - 1) (walk_zip (xs := ms.map V.int) (ys := (ms.map V.int).drop 1) (by omega)) (fun _ _ g s => ⟨s.seq g.1, s.seq g.2⟩) ((pairS ms).map fun m => some (.int (m.fdiv 2))) (by rw [List.length_map, lp]) (szs (by omega)) ⟨SqL.of hl1, SqL.of hL1⟩ nD (fun i x H3 H4 o N M hi ho s3 y hN hM => ?_) (fun H3 s3 hD => ?_)
    · obtain ⟨t, a, b, rfl, nt, rfl, ha, hb⟩ := y
      obtain ⟨a', ha'⟩ := geI (zs := ms) (n := i) (by omega)
      obtain ⟨b', hb'⟩ := geI (zs := ms) (n := i + 1) (by omega)
      have ha : (ms.map V.int)[i]? = some a := ha
      rw [mapI ha'] at ha
      cases ha
      have hb : ((ms.map V.int).drop 1)[i]? = some b := hb
      rw [List.getElem?_drop, show 1 + i = i + 1 by omega, mapI hb'] at hb
      cases hb
      rw [List.getElem?_map, pairS_get ms i a' b' ha' hb'] at ho
      cases ho
      refine ⟨t, _, rfl, SqT.of upd_same, rfl, _, _, rfl, _, _, rfl, rfl, rfl, yesT ?_⟩
      walk_at "w"
      exact ⟨⟨by decide, by decide +kernel⟩, hN _ _ rfl (same1 nt)⟩
    have em := some_fm (fun m => m.fdiv 2) (pairS ms)
    rw [em] at hD
    have hl3 := s3 _ _ hl1
    have la : (((pairS ms).map fun m => m.fdiv 2).map V.int).length = ms.length - 1 := by rw [List.length_map, List.length_map, lp]
    refine ⟨_, rfl, D, l, _, _, rfl, rfl, hD, hl3, szl (by rw [la, lm]; omega), fun L2 nL2 => ?_⟩
    rw [← List.map_append]
    have lab : ((((pairS ms).map fun m => m.fdiv 2) ++ ms).map V.int).length ≤ 48 := by
      rw [List.length_map, List.length_append, List.length_map, lp]
      omega
    have s4 : Same H3 (upd H3 L2 (.lst ((((pairS ms).map fun m => m.fdiv 2) ++ ms).map V.int))) := same1 nL2
    have hL2 : upd H3 L2 (.lst ((((pairS ms).map fun m => m.fdiv 2) ++ ms).map V.int)) L2 = some (.lst ((((pairS ms).map fun m => m.fdiv 2) ++ ms).map V.int)) := upd_same
    generalize upd H3 L2 (.lst ((((pairS ms).map fun m => m.fdiv 2) ++ ms).map V.int)) = H4 at s4 hL2 ⊢
    have s04 := (s1.trans s3).trans s4
    refine ⟨_, rfl, _, rfl, _, rfl, szl (by show 2 ≤ 1000; omega), fun T5 nT5 => ⟨T5, rfl, ⟨_, SqT.of upd_same⟩, ?_⟩⟩
    have s5 : Same H4 (upd H4 T5 (.tup [optZ lo, optZ hi])) := same1 nT5
    intro D6 nD6
    refine lcz (n := 2) (walk_tup (xs := [optZ lo, optZ hi])) (fun _ _ g s => s.sqt g) [lo.map V.int, hi.map V.int] rfl (szs (by omega)) (SqT.of upd_same) nD6 (fun i x H5 H6 o N M hi' ho s6 y hN hM => ?_) (fun H6 s6 hD6 => ?_)
    · obtain ⟨rfl, hx⟩ := y
      obtain ⟨q, rfl, rfl⟩ : ∃ q : Option Int, x = optZ q ∧ o = q.map V.int := by
        rcases i with _ | _ | i
        · cases hx; cases ho; exact ⟨lo, rfl, rfl⟩
        · cases hx; cases ho; exact ⟨hi, rfl, rfl⟩
        · omega
      refine ⟨rfl, _, rfl, rfl, _, rfl, ?_⟩
      cases q with
      | none =>
        rw [show (!decide (optZ none = V.non)) = false from rfl]
        exact iteF (hM _ rfl (Same.refl _))
      | some a =>
        rw [show (!decide (optZ (some a) = V.non)) = true by rw [decide_eq_false (fun z => by cases z)]; rfl]
        exact iteT ⟨_, rfl, hN _ _ rfl (Same.refl _)⟩
    have e6 : [lo.map V.int, hi.map V.int].filterMap _root_.id = (lo.toList ++ hi.toList).map V.int := by cases lo <;> cases hi <;> rfl
    rw [e6] at hD6
    have hL6 := s6 _ _ (s5 _ _ hL2)
    have l6 : ((lo.toList ++ hi.toList).map V.int).length ≤ 2 := by cases lo <;> cases hi <;> simp
    have s06 := (s04.trans s5).trans s6
    refine ⟨L2, D6, _, _, rfl, rfl, hL6, hD6, szl (by omega), fun R nR => ?_⟩
    rw [← List.map_append]
    refine k R _ ?_ (s06.trans (same1 nR)) upd_same
    cases e : H R with
    | none => rfl
    | some o =>
      rw [s06 _ _ e] at nR
      cases nR
theorem ok_l_two_ladder {P : Program} {w : World} {K : PySem.W.Frag} {mg : Str → Option Value} {base : Heap} {φ : Fds} (T : Txt K mg φ) : FnOk P w K mg base CX0 5 (He.fAd K ("_law_two_ladder", none)) φ.l_two_ladder p_l_two_ladder sp_two38 := by
  obtain ⟨_, B0v, B0⟩ := b_l_take_2 T
  obtain ⟨_, B1v, B1⟩ := b_l_drawn_ladder_1 T
  obtain ⟨_, B2v, B2⟩ := b_l_pick_2 T
  refine T.f_l_two_ladder.ok sc_l_two_ladder (fun vs H Q E h => ?_) (fun cdv A outer s H vs Q E hr h => ?_)
  · obtain ⟨h, p, l, n, ms, r, lo, hi, rfl, hh, hn, nlh, hL, k⟩ := h; rfl
  · obtain ⟨h, p, l, n, ms, r, lo, hi, rfl, hh, hn, nlh, hL, k⟩ := h
    refine ⟨_, PSs.nox (pss_cons (ps_asg (pv 1) (pg_tup rfl (pgs_cons (pg_name (i := 2) sc_l_two_ladder.nd rfl (Or.inl rfl)) (pgs_cons (pg_name (i := 3) sc_l_two_ladder.nd rfl (Or.inl rfl)) (pgs_cons (pg_name (i := 4) sc_l_two_ladder.nd rfl (Or.inl rfl)) (pgs_cons (pg_name (i := 5) sc_l_two_ladder.nd rfl (Or.inl rfl)) pgs_nil))))))
      (pss_cons (ps_set (i := 6) sc_l_two_ladder.nd rfl (Or.inl rfl) (pe_call (ok_l_take (K := K) T) (hr.mono (by decide)) rfl T.g_l_take T.f_l_take.kp B0 B0v pass0 (pa_cons (pv 0) (pa_cons pe_int pa_nil))))
      (pss_cons (ps_if (pt_cmpR op_eq (pv 6) pe_int (nomark _))
      (pss_one (ps_ret (pe_call (ok_l_drawn_ladder (K := K) T) (hr.mono (by decide)) rfl T.g_l_drawn_ladder T.f_l_drawn_ladder.kp B1 B1v pass0 (pa_cons (pv 0) pa_nil))))
      pss_nil)
      (pss_cons (ps_if (pt_cmpR op_eq (pv 6) pe_int (nomark _))
      (pss_one (ps_ret (pe_tup (pa_cons (pv 2) (pa_cons (pe_call (ok_l_pick (K := K) T) (hr.mono (by decide)) rfl T.g_l_pick T.f_l_pick.kp B2 B2v pass0 (pa_cons (pv 0) (pa_cons (pe_lst (pa_cons pe_str (pa_cons pe_str (pa_cons pe_str pa_nil)))) pa_nil))) (pa_cons (pv 4) (pa_cons (pv 5) pa_nil)))))))
      pss_nil)
      (pss_cons (ps_cut (ps_if (PW.pt (pw_and (pt_cmpR op_eq (pv 6) pe_int (nomark _)) (pw_and1 (pt_cmpR op_lt (pe_callB (id := "len") (lenS (K := K)) (by rfl) T.z_len PySem.boot_len (pa_cons (pv 2) pa_nil)) pe_int (nomark _)))))
      (pss_one (ps_ret (pe_tup (pa_cons (pe_op op_cat (pe_lst (pa_cons (pe_op op_sub (pe_ix (ixl (K := K)) (pv 2) pe_int (fun _ _ => rfl)) (pe_op op_mulA pe_int (pe_op op_add pe_int (pe_call (ok_l_take (K := K) T) (hr.mono (by decide)) rfl T.g_l_take T.f_l_take.kp B0 B0v pass0 (pa_cons (pv 0) (pa_cons pe_int pa_nil)))))) pa_nil)) (pv 2)) (pa_cons (pv 3) (pa_cons (pv 4) (pa_cons (pv 5) pa_nil)))))))
      pss_nil))
      (pss_cons (ps_cut (ps_if (PW.pt (pw_and (pt_cmpR op_eq (pv 6) pe_int (nomark _)) (pw_and1 (pt_cmpR op_lt (pe_callB (id := "len") (lenS (K := K)) (by rfl) T.z_len PySem.boot_len (pa_cons (pv 2) pa_nil)) pe_int (nomark _)))))
      (pss_one (ps_ret (pe_tup (pa_cons (pe_op op_cat (pv 2) (pe_lst (pa_cons (pe_op op_add (pe_ix (ixl (K := K)) (pv 2) (pe_un un_neg pe_int) (fun _ _ => rfl)) (pe_op op_mulA pe_int (pe_op op_add pe_int (pe_call (ok_l_take (K := K) T) (hr.mono (by decide)) rfl T.g_l_take T.f_l_take.kp B0 B0v pass0 (pa_cons (pv 0) (pa_cons pe_int pa_nil)))))) pa_nil))) (pa_cons (pv 3) (pa_cons (pv 4) (pa_cons (pv 5) pa_nil)))))))
      pss_nil))
      (pss_cons (ps_cut (ps_if (PW.pt (pw_and (pt_cmpR op_eq (pv 6) pe_int (nomark _)) (pw_and1 (pt_cmpR op_gt (pe_callB (id := "len") (lenS (K := K)) (by rfl) T.z_len PySem.boot_len (pa_cons (pv 2) pa_nil)) pe_int (nomark _)))))
      (pss_cons (ps_set (i := 7) sc_l_two_ladder.nd rfl (Or.inl rfl) (pe_op op_add pe_int (pe_call (ok_l_take (K := K) T) (hr.mono (by decide)) rfl T.g_l_take T.f_l_take.kp B0 B0v pass0 (pa_cons (pv 0) (pa_cons (pe_op op_sub (pe_callB (id := "len") (lenS (K := K)) (by rfl) T.z_len PySem.boot_len (pa_cons (pv 2) pa_nil)) pe_int) pa_nil)))))
      (pss_one (ps_ret (pe_tup (pa_cons (pe_op op_cat (pe_slice (slL (K := K)) (pv 2) po_none (po_some (pv 7))) (pe_slice (slL (K := K)) (pv 2) (po_some (pe_op op_add (pv 7) pe_int)) po_none)) (pa_cons (pv 3) (pa_cons (pv 4) (pa_cons (pv 5) pa_nil))))))))
      pss_nil))
      (pss_cons (ps_if (pt_cmpR op_eq (pv 6) pe_int (nomark _))
      (pss_cons (ps_set (i := 8) sc_l_two_ladder.nd rfl (Or.inl rfl) (pe_op op_add (pe_ifExp (pt_cmpR op_isN (pv 5) pe_non (nomark _)) (pe_ix (ixl (K := K)) (pv 2) (pe_un un_neg pe_int) (fun _ _ => rfl)) (pv 5)) (pe_op op_mulA pe_int (pe_call (ok_l_take (K := K) T) (hr.mono (by decide)) rfl T.g_l_take T.f_l_take.kp B0 B0v pass0 (pa_cons (pv 0) (pa_cons pe_int pa_nil))))))
      (pss_one (ps_ret (pe_tup (pa_cons (pv 2) (pa_cons (pv 3) (pa_cons (pv 4) (pa_cons (pe_ifExp (pt_cmpR op_isN (pv 4) pe_non (nomark _)) (pv 8) (pe_callB (id := "max") (call_max2 rfl) (by rfl) T.z_max (by decide +kernel) (pa_cons (pv 4) (pa_cons (pv 8) pa_nil)))) pa_nil))))))))
      pss_nil)
      (pss_cons (ps_set (i := 7) sc_l_two_ladder.nd rfl (Or.inl rfl) (pe_call (ok_l_take (K := K) T) (hr.mono (by decide)) rfl T.g_l_take T.f_l_take.kp B0 B0v pass0 (pa_cons (pv 0) (pa_cons (pe_callB (id := "len") (lenS (K := K)) (by rfl) T.z_len PySem.boot_len (pa_cons (pv 2) pa_nil)) pa_nil))))
      (pss_cons (ps_set (i := 9) sc_l_two_ladder.nd rfl (Or.inl rfl) (pe_ifExp (pt_cmpR op_eq (pv 7) pe_int (nomark _)) pe_int (pe_op op_sub (pe_ix (ixl (K := K)) (pv 2) (pv 7) (fun _ _ => rfl)) (pe_ix (ixl (K := K)) (pv 2) (pe_op op_sub (pv 7) pe_int) (fun _ _ => rfl)))))
      (pss_one (ps_ret (pe_tup (pa_cons (pe_op op_cat (pe_op op_cat (pe_slice (slL (K := K)) (pv 2) po_none (po_some (pv 7))) (pe_lst (pa_cons (pe_op op_sub (pe_ix (ixl (K := K)) (pv 2) (pv 7) (fun _ _ => rfl)) (pe_op op_mulA pe_int (pe_call (ok_l_take (K := K) T) (hr.mono (by decide)) rfl T.g_l_take T.f_l_take.kp B0 B0v pass0 (pa_cons (pv 0) (pa_cons (pe_op op_fd (pv 9) pe_int) pa_nil))))) pa_nil))) (pe_slice (slL (K := K)) (pv 2) (po_some (pe_op op_add (pv 7) pe_int)) po_none)) (pa_cons (pv 3) (pa_cons (pv 4) (pa_cons (pv 5) pa_nil))))))))))))))))), ?_⟩
    have hL0 := hL
    obtain ⟨hp, hl, mk, bl, bh, ru, sp⟩ := hL
    have l0 := mk.len0
    have l1 := mk.len1
    have lm : (ms.map V.int).length = ms.length := List.length_map ..
    walk_at "w"
    intro kd H1 kd0 kd1 hh1 k1
    have hl1 := k1 _ _ hl nlh
    have bl' : ∀ z, lo = some z → z % 2 = 0 ∧ -1500 ≤ z ∧ z ≤ 1500 := fun z hz => by have := bl z hz; omega
    have bh' : ∀ z, hi = some z → z % 2 = 0 ∧ -1500 ≤ z ∧ z ≤ 1500 := fun z hz => by have := bh z hz; omega
    obtain ⟨m0, hm0, mm0, hm0'⟩ := mk.front
    obtain ⟨me, hme, mme, hme'⟩ := mk.end
    have b0 := mk.bnd m0 mm0
    have be := mk.bnd me mme
    have f0 := mk.four m0 mm0
    have fe := mk.four me mme
    have bk := mk.back hme'
    refine ⟨_, rfl, rfl, _, rfl, ?_⟩
    refine ite2 (fun e => ?_) (fun e => ?_)
    · exact ⟨_, rfl, h, _, rfl, hh1, by omega, fun p' l' ms' r' lo' hi' H' n' L' hh' k' => k p' l' ms' r' lo' hi' H' n' (L'.mono (by omega)) (hh'.mono (by omega)) (k1.trans k')⟩
    clear e
    refine ⟨_, rfl, rfl, _, rfl, ?_⟩
    refine ite2 (fun e => ?_) (fun e => ?_)
    · refine ⟨_, rfl, _, rfl, szl (by show 3 ≤ 1000; omega), fun p1 np1 => ?_⟩
      refine ⟨h, p1, _, _, rfl, hh1.up np1, by omega, SqL.of upd_same, hh1.ne np1, by show 0 < 3; omega, by show 3 ≤ 1000; omega, fun i1 x H2 hx hh2 k2 => ?_⟩
      obtain ⟨r2, rfl, hr⟩ : ∃ r : Str, x = .str r ∧ IsRule r := by
        have hm := List.mem_of_getElem? hx
        simp at hm
        rcases hm with rfl | rfl | rfl
        · exact ⟨_, rfl, .inl rfl⟩
        · exact ⟨_, rfl, .inr (.inl rfl)⟩
        · exact ⟨_, rfl, .inr (.inr rfl)⟩
      have k02 := (k1.up np1).trans k2
      have hl2 := k02 _ _ hl nlh
      exact ⟨_, rfl, _, rfl, szl (by show 4 ≤ 1000; omega), fun q nq => k q l ms r2 lo hi _ nlh ⟨upd_same, up1 nq hl2, mk.mono (by omega), bl', bh', hr, sp⟩ ((hh2.up nq).mono (by omega)) (k02.up nq)⟩
    clear e
    refine ⟨fun σ' H' => σ' = [some (.ref h), some (.ref p), some (.ref l), some (.str r), some (optZ lo), some (optZ hi), some (.int kd), none, none, none] ∧ H' = H1, ?_, ?_⟩
    · refine ⟨_, rfl, rfl, _, rfl, ?_⟩
      refine ite2 (fun e2 => ?_) (fun e2 => iteF ⟨rfl, rfl⟩)
      refine ⟨_, rfl, l, _, rfl, .inl (SqL.of hl1), _, _, rfl, rfl, _, rfl, ?_⟩
      refine ite2 (fun e3 => ?_) (fun e3 => ⟨rfl, rfl⟩)
      have l24 : ms.length < 24 := by
        have := of_decide_eq_true e3
        rw [lm] at this
        omega
      refine ⟨_, rfl, l, _, _, _, rfl, rfl, SqL.of hl1, hm0, _, rfl, h, _, 5, rfl, hh1, by omega, by decide, logS (by omega), fun t H2 t0 t1 hh2 k2 => ⟨_, _, rfl, rfl, _, _, rfl, rfl, .inl (.inl ⟨by decide, by decide⟩), _, _, rfl, rfl, szl (by show 1 ≤ 1000; omega), fun L1 nL1 => ?_⟩⟩
      have hl2 := k2 _ _ hl1 nlh
      refine ⟨_, rfl, L1, l, _, _, rfl, rfl, upd_same, up1 nL1 hl2, szl (by rw [lm]; show 1 + ms.length ≤ 1000; omega), fun L2 nL2 => ?_⟩
      exact ⟨_, rfl, _, rfl, _, rfl, szl (by show 4 ≤ 1000; omega), fun q nq => k q L2 ((m0 - 4 * (1 + t)) :: ms) r lo hi _ ((hh2.up nL1).ne nL2) ⟨upd_same, up1 nq upd_same, mk.cons l24 (fun e he => by rw [hm0'] at he; cases he; omega) (by omega) (by omega) (by omega) (by omega), bl', bh', ru, sp⟩ ((((hh2.up nL1).up nL2).up nq).mono (by omega)) ((((k1.trans k2).up nL1).up nL2).up nq)⟩
    rintro σ' H' ⟨rfl, rfl⟩
    refine ⟨fun σ' H'' => σ' = [some (.ref h), some (.ref p), some (.ref l), some (.str r), some (optZ lo), some (optZ hi), some (.int kd), none, none, none] ∧ H'' = H', ?_, ?_⟩
    · refine ⟨_, rfl, rfl, _, rfl, ?_⟩
      refine ite2 (fun e2 => ?_) (fun e2 => iteF ⟨rfl, rfl⟩)
      refine ⟨_, rfl, l, _, rfl, .inl (SqL.of hl1), _, _, rfl, rfl, _, rfl, ?_⟩
      refine ite2 (fun e3 => ?_) (fun e3 => ⟨rfl, rfl⟩)
      have l24 : ms.length < 24 := by
        have := of_decide_eq_true e3
        rw [lm] at this
        omega
      refine ⟨_, rfl, _, rfl, _, rfl, l, _, _, _, rfl, rfl, SqL.of hl1, hme, _, rfl, h, _, 5, rfl, hh1, by omega, by decide, logS (by omega), fun t H2 t0 t1 hh2 k2 => ⟨_, _, rfl, rfl, _, _, rfl, rfl, .inl (.inl ⟨by decide, by decide⟩), _, _, rfl, rfl, szl (by show 1 ≤ 1000; omega), fun L1 nL1 => ?_⟩⟩
      have hl2 := k2 _ _ hl1 nlh
      refine ⟨l, L1, _, _, rfl, rfl, up1 nL1 hl2, upd_same, szl (by rw [lm]; show ms.length + 1 ≤ 1000; omega), fun L2 nL2 => ?_⟩
      exact ⟨_, rfl, _, rfl, _, rfl, szl (by show 4 ≤ 1000; omega), fun q nq => k q L2 (ms ++ [me + 4 * (1 + t)]) r lo hi _ ((hh2.up nL1).ne nL2) ⟨upd_same, (up1 nq upd_same).trans (by rw [List.map_append]; rfl), mk.snoc l24 (fun e he => by have := bk e he; omega) (by omega) (by omega) (by omega) (by omega), bl', bh', ru, sp⟩ ((((hh2.up nL1).up nL2).up nq).mono (by omega)) ((((k1.trans k2).up nL1).up nL2).up nq)⟩
    rintro σ' H'' ⟨rfl, rfl⟩
    refine ⟨fun σ' H5 => σ' = [some (.ref h), some (.ref p), some (.ref l), some (.str r), some (optZ lo), some (optZ hi), some (.int kd), none, none, none] ∧ H5 = H'', ?_, ?_⟩
    · refine ⟨_, rfl, rfl, _, rfl, ?_⟩
      refine ite2 (fun e2 => ?_) (fun e2 => iteF ⟨rfl, rfl⟩)
      refine ⟨_, rfl, l, _, rfl, .inl (SqL.of hl1), _, _, rfl, rfl, _, rfl, ?_⟩
      refine ite2 (fun e3 => ?_) (fun e3 => ⟨rfl, rfl⟩)
      have l2 : 1 < ms.length := by
        have := of_decide_eq_true e3
        rw [lm] at this
        omega
      refine ⟨_, rfl, _, rfl, l, _, rfl, .inl (SqL.of hl1), _, _, rfl, rfl, h, _, _, rfl, hh1, by omega, by omega, logS (by omega), fun t H2 t0 t1 hh2 k2 => ⟨_, _, rfl, rfl, ?_⟩⟩
      obtain ⟨tn, rfl⟩ := Int.eq_ofNat_of_zero_le t0
      have hl2 := k2 _ _ hl1 nlh
      refine ⟨_, rfl, _, rfl, _, rfl, l, _, rfl, SqL.of hl2, fun L1 nL1 => ?_⟩
      rw [cutV_take _ (n := 1 + tn) (by omega)]
      refine ⟨_, rfl, _, rfl, _, _, rfl, rfl, _, rfl, l, _, rfl, SqL.of (up1 nL1 hl2), fun L2 nL2 => ?_⟩
      rw [cutV_drop _ (n := 1 + tn + 1) (by omega)]
      refine ⟨L1, L2, _, _, rfl, rfl, up1 nL2 upd_same, upd_same, szl (by rw [List.length_take, List.length_drop]; omega), fun L3 nL3 => ?_⟩
      have sb : (ms.take (1 + tn) ++ ms.drop (1 + tn + 1)).Sublist ms := (List.eraseIdx_eq_take_drop_succ ms (1 + tn)) ▸ List.eraseIdx_sublist ms (1 + tn)
      have ln : 0 < (ms.take (1 + tn) ++ ms.drop (1 + tn + 1)).length := by
        rw [List.length_append, List.length_take]
        omega
      exact ⟨_, rfl, _, rfl, _, rfl, szl (by show 4 ≤ 1000; omega), fun q nq => k q L3 (ms.take (1 + tn) ++ ms.drop (1 + tn + 1)) r lo hi _ (((hh2.up nL1).up nL2).ne nL3) ⟨upd_same, (up1 nq upd_same).trans (by rw [List.map_append, List.map_take, List.map_drop]), (mk.sub sb ln).mono (by omega), bl', bh', ru, sp⟩ (((((hh2.up nL1).up nL2).up nL3).up nq).mono (by omega)) (((((k1.trans k2).up nL1).up nL2).up nL3).up nq)⟩
    rintro σ' H5 ⟨rfl, rfl⟩
    refine ⟨_, rfl, rfl, _, rfl, ?_⟩
    refine ite2 (fun e => ?_) (fun e => ?_)
    · cases hi with
      | none =>
        refine ⟨_, rfl, rfl, _, rfl, iteDT rfl ⟨_, rfl, _, rfl, l, _, _, _, rfl, rfl, SqL.of hl1, hme, ?_⟩⟩
        refine ⟨_, rfl, h, _, 9, rfl, hh1, by omega, by decide, logS (by omega), fun t H2 t0 t1 hh2 k2 => ⟨_, _, rfl, rfl, .inl (.inl ⟨by decide, by decide⟩), _, _, rfl, rfl, ?_⟩⟩
        have hl2 := k2 _ _ hl1 nlh
        refine ⟨_, rfl, _, rfl, _, rfl, ?_⟩
        cases lo with
        | none => exact ⟨_, rfl, rfl, _, rfl, iteDT rfl ⟨_, rfl, szl (by show 4 ≤ 1000; omega), fun q nq => k q l ms r none (some (me + 2 * t)) _ nlh ⟨upd_same, up1 nq hl2, mk.mono (by omega), bl', (fun z hz => by cases hz; omega), ru, fun a b hz => by cases hz⟩ ((hh2.up nq).mono (by omega)) ((k1.trans k2).up nq)⟩⟩
        | some a =>
          have ha := bl a rfl
          exact ⟨_, rfl, rfl, _, rfl, iteDF (fun z => by cases z) ⟨_, rfl, _, rfl, _, _, rfl, szl (by show 4 ≤ 1000; omega), fun q nq => k q l ms r (some a) (some (if me + 2 * t > a then me + 2 * t else a)) _ nlh ⟨upd_same, up1 nq hl2, mk.mono (by omega), bl', (fun z hz => by cases hz; split <;> omega), ru, fun a' b hz hz' => by cases hz; cases hz'; split <;> omega⟩ ((hh2.up nq).mono (by omega)) ((k1.trans k2).up nq)⟩⟩
      | some b =>
        have hb := bh b rfl
        refine ⟨_, rfl, rfl, _, rfl, iteDF (fun z => by cases z) ⟨_, rfl, ?_⟩⟩
        refine ⟨_, rfl, h, _, 9, rfl, hh1, by omega, by decide, logS (by omega), fun t H2 t0 t1 hh2 k2 => ⟨_, _, rfl, rfl, .inl (.inl ⟨by decide, by decide⟩), _, _, rfl, rfl, ?_⟩⟩
        have hl2 := k2 _ _ hl1 nlh
        refine ⟨_, rfl, _, rfl, _, rfl, ?_⟩
        cases lo with
        | none => exact ⟨_, rfl, rfl, _, rfl, iteDT rfl ⟨_, rfl, szl (by show 4 ≤ 1000; omega), fun q nq => k q l ms r none (some (b + 2 * t)) _ nlh ⟨upd_same, up1 nq hl2, mk.mono (by omega), bl', (fun z hz => by cases hz; omega), ru, fun a b hz => by cases hz⟩ ((hh2.up nq).mono (by omega)) ((k1.trans k2).up nq)⟩⟩
        | some a =>
          have ha := bl a rfl
          exact ⟨_, rfl, rfl, _, rfl, iteDF (fun z => by cases z) ⟨_, rfl, _, rfl, _, _, rfl, szl (by show 4 ≤ 1000; omega), fun q nq => k q l ms r (some a) (some (if b + 2 * t > a then b + 2 * t else a)) _ nlh ⟨upd_same, up1 nq hl2, mk.mono (by omega), bl', (fun z hz => by cases hz; split <;> omega), ru, fun a' b hz hz' => by cases hz; cases hz'; split <;> omega⟩ ((hh2.up nq).mono (by omega)) ((k1.trans k2).up nq)⟩⟩
    clear e
    refine ⟨_, rfl, _, rfl, l, _, rfl, .inl (SqL.of hl1), h, _, _, rfl, hh1, by omega, by omega, logS (by omega), fun t H2 t0 t1 hh2 k2 => ?_⟩
    obtain ⟨tn, rfl⟩ := Int.eq_ofNat_of_zero_le t0
    have hl2 := k2 _ _ hl1 nlh
    have htn : tn < ms.length := by omega
    obtain ⟨mt, hmt⟩ := geI (zs := ms) (n := tn) htn
    have bt := mk.bnd mt (List.mem_of_getElem? hmt)
    have ft := mk.four mt (List.mem_of_getElem? hmt)
    have hat : atI (ms.map V.int) (tn : Int) = some (.int mt) := atI_nat (mapI hmt)
    by_cases z : tn = 0
    · refine ⟨_, rfl, rfl, _, rfl, iteDT (by rw [z]; rfl) ?_⟩
      have hg : ∀ a, 0 < tn → ms[tn - 1]? = some a → a + 4 ≤ mt := fun a h => by omega
      have hfd : Int.fdiv (4) 4 = (4) / 4 := Int.fdiv_eq_ediv_of_nonneg _ (by decide)
      refine ⟨_, rfl, _, rfl, _, rfl, l, _, rfl, SqL.of hl2, fun L1 nL1 => ?_⟩
      rw [cutV_take _ (n := tn) rfl]
      have hl3 := up1 (u := .lst ((ms.map V.int).take tn)) nL1 hl2
      have n1 : L1 ≠ h := hh2.ne nL1
      refine ⟨_, rfl, _, rfl, l, _, _, _, rfl, rfl, SqL.of hl3, hat, _, rfl, _, rfl, _, _, rfl, rfl, ⟨by decide, by decide +kernel⟩, h, _, _, rfl, hh2.up nL1, by omega, (by show 0 < Int.fdiv (4) 4; rw [hfd]; omega), (by show (Int.fdiv (4) 4).natAbs.log2 < 9000; rw [hfd]; exact logS (by omega)), fun u H4 u0 u1 hh4 k4 => ⟨_, _, rfl, rfl, .inl (.inl ⟨by decide, by decide⟩), _, _, rfl, rfl, szl (by show 1 ≤ 1000; omega), fun L2 nL2 => ?_⟩⟩
      have u1 : u < Int.fdiv (4) 4 := u1
      rw [hfd] at u1
      have hl4 := k4 _ _ hl3 nlh
      have hL1 : H4 L1 = some (.lst ((ms.map V.int).take tn)) := k4 _ _ upd_same n1
      have lt1 : ((ms.map V.int).take tn).length ≤ 24 := by rw [List.length_take]; omega
      have lt2 : ((ms.map V.int).drop (tn + 1)).length ≤ 24 := by rw [List.length_drop]; omega
      refine ⟨L1, L2, _, _, rfl, rfl, up1 nL2 hL1, upd_same, szl (by show _ + 1 ≤ 1000; omega), fun L3 nL3 => ?_⟩
      refine ⟨_, rfl, _, rfl, _, _, rfl, rfl, _, rfl, l, _, rfl, SqL.of (up1 nL3 (up1 nL2 hl4)), fun L4 nL4 => ?_⟩
      rw [cutV_drop _ (n := tn + 1) (by omega)]
      refine ⟨L3, L4, _, _, rfl, rfl, up1 nL4 upd_same, upd_same, szl (by rw [List.length_append]; show _ + 1 + _ ≤ 1000; omega), fun L5 nL5 => ?_⟩
      exact ⟨_, rfl, _, rfl, _, rfl, szl (by show 4 ≤ 1000; omega), fun q nq => k q L5 ((ms.take tn ++ [mt - 4 * u]) ++ ms.drop (tn + 1)) r lo hi _ ((((hh4.up nL2).up nL3).up nL4).ne nL5) ⟨upd_same, (up1 nq upd_same).trans (by rw [List.map_append, List.map_append, List.map_take, List.map_drop]; rfl), mk.put hmt (by omega) (fun a z e => by have := hg a z e; omega) (by omega) (by omega) (by omega) (by omega), bl', bh', ru, sp⟩ ((((((hh4.up nL2).up nL3).up nL4).up nL5).up nq).mono (by omega)) (((((((((k1.trans k2).up nL1).trans k4).up nL2).up nL3).up nL4).up nL5)).up nq)⟩
    · obtain ⟨mp, hmp⟩ := geI (zs := ms) (n := tn - 1) (by omega)
      have bp := mk.bnd mp (List.mem_of_getElem? hmp)
      have fp := mk.four mp (List.mem_of_getElem? hmp)
      have lt := mk.rise (tn - 1) mp mt hmp (by rw [show tn - 1 + 1 = tn by omega]; exact hmt)
      have hat' : atI (ms.map V.int) ((tn : Int) - 1) = some (.int mp) := by
        rw [show (tn : Int) - 1 = ((tn - 1 : Nat) : Int) by omega]
        exact atI_nat (mapI hmp)
      refine ⟨_, rfl, rfl, _, rfl, iteDF (fun e => z (by have := V.int.inj e; omega)) ⟨_, rfl, _, rfl, l, _, _, _, rfl, rfl, SqL.of hl2, hat, _, rfl, _, rfl, _, _, rfl, rfl, l, _, _, _, rfl, rfl, SqL.of hl2, hat', _, _, rfl, rfl, ?_⟩⟩
      have hg : ∀ a, 0 < tn → ms[tn - 1]? = some a → a + (mt - mp) ≤ mt := fun a _ h => by
        rw [hmp] at h
        cases h
        omega
      have hfd : Int.fdiv (mt - mp) 4 = (mt - mp) / 4 := Int.fdiv_eq_ediv_of_nonneg _ (by decide)
      refine ⟨_, rfl, _, rfl, _, rfl, l, _, rfl, SqL.of hl2, fun L1 nL1 => ?_⟩
      rw [cutV_take _ (n := tn) rfl]
      have hl3 := up1 (u := .lst ((ms.map V.int).take tn)) nL1 hl2
      have n1 : L1 ≠ h := hh2.ne nL1
      refine ⟨_, rfl, _, rfl, l, _, _, _, rfl, rfl, SqL.of hl3, hat, _, rfl, _, rfl, _, _, rfl, rfl, ⟨by decide, by decide +kernel⟩, h, _, _, rfl, hh2.up nL1, by omega, (by show 0 < Int.fdiv (mt - mp) 4; rw [hfd]; omega), (by show (Int.fdiv (mt - mp) 4).natAbs.log2 < 9000; rw [hfd]; exact logS (by omega)), fun u H4 u0 u1 hh4 k4 => ⟨_, _, rfl, rfl, .inl (.inl ⟨by decide, by decide⟩), _, _, rfl, rfl, szl (by show 1 ≤ 1000; omega), fun L2 nL2 => ?_⟩⟩
      have u1 : u < Int.fdiv (mt - mp) 4 := u1
      rw [hfd] at u1
      have hl4 := k4 _ _ hl3 nlh
      have hL1 : H4 L1 = some (.lst ((ms.map V.int).take tn)) := k4 _ _ upd_same n1
      have lt1 : ((ms.map V.int).take tn).length ≤ 24 := by rw [List.length_take]; omega
      have lt2 : ((ms.map V.int).drop (tn + 1)).length ≤ 24 := by rw [List.length_drop]; omega
      refine ⟨L1, L2, _, _, rfl, rfl, up1 nL2 hL1, upd_same, szl (by show _ + 1 ≤ 1000; omega), fun L3 nL3 => ?_⟩
      refine ⟨_, rfl, _, rfl, _, _, rfl, rfl, _, rfl, l, _, rfl, SqL.of (up1 nL3 (up1 nL2 hl4)), fun L4 nL4 => ?_⟩
      rw [cutV_drop _ (n := tn + 1) (by omega)]
      refine ⟨L3, L4, _, _, rfl, rfl, up1 nL4 upd_same, upd_same, szl (by rw [List.length_append]; show _ + 1 + _ ≤ 1000; omega), fun L5 nL5 => ?_⟩
      exact ⟨_, rfl, _, rfl, _, rfl, szl (by show 4 ≤ 1000; omega), fun q nq => k q L5 ((ms.take tn ++ [mt - 4 * u]) ++ ms.drop (tn + 1)) r lo hi _ ((((hh4.up nL2).up nL3).up nL4).ne nL5) ⟨upd_same, (up1 nq upd_same).trans (by rw [List.map_append, List.map_append, List.map_take, List.map_drop]; rfl), mk.put hmt (by omega) (fun a z e => by have := hg a z e; omega) (by omega) (by omega) (by omega) (by omega), bl', bh', ru, sp⟩ ((((((hh4.up nL2).up nL3).up nL4).up nL5).up nq).mono (by omega)) (((((((((k1.trans k2).up nL1).trans k4).up nL2).up nL3).up nL4).up nL5)).up nq)⟩
theorem ok_l_span {P : Program} {w : World} {K : PySem.W.Frag} {mg : Str → Option Value} {base : Heap} {φ : Fds} (T : Txt K mg φ) : FnOk P w K mg base CX0 3 (He.fAd K ("_law_span", none)) φ.l_span p_l_span sp_span37 := by
  obtain ⟨_, B0v, B0⟩ := b_l_points_1 T
  obtain ⟨_, B1v, B1⟩ := b_l_pick_2 T
  obtain ⟨_, B2v, B2⟩ := b_l_take_2 T
  refine T.f_l_span.ok sc_l_span (fun vs H Q E h => ?_) (fun cdv A outer s H vs Q E hr h => ?_)
  · obtain ⟨h, p, q, l, l', n, B, ms, ms', r, r', lo, hi, lo', hi', rfl, hh, hn, n1, n2, b5, hL, hL', k⟩ := h; rfl
  · obtain ⟨h, p, q, l, l', n, B, ms, ms', r, r', lo, hi, lo', hi', rfl, hh, hn, n1, n2, b5, hL, hL', k⟩ := h
    refine ⟨_, PSs.nox (pss_cons (ps_set (i := 3) sc_l_span.nd rfl (Or.inr rfl) (pe_op op_cat (pe_call (ok_l_points (K := K) T) (hr.mono (by decide)) rfl T.g_l_points T.f_l_points.kp B0 B0v pass0 (pa_cons (pv 1) pa_nil)) (pe_call (ok_l_points (K := K) T) (hr.mono (by decide)) rfl T.g_l_points T.f_l_points.kp B0 B0v pass0 (pa_cons (pv 2) pa_nil))))
      (pss_cons (ps_setLc (i := 4) (own := [("_law_turn", 5)]) (g := gName 5) rfl sc_l_span.nd rfl rfl (sw_true rfl rfl rfl (by decide +kernel)) (pi_range1 rfl T.z_range (pa_cons pe_int pa_nil)) (blkOk_by (own := [("_law_turn", 5)]) (N := N_l_span) (sc := (defScope s_l_span)) (by decide +kernel)) (fun _ _ _ _ _ => (pg_name (i := 5) sc_l_span.nd rfl (Or.inl rfl))) (fun _ _ _ _ _ => pts_nil) (fun _ _ _ _ _ => (pe_op op_add (pe_call (ok_l_pick (K := K) T) (hr.mono (by decide)) rfl T.g_l_pick T.f_l_pick.kp B1 B1v pass0 (pa_cons (pv 0) (pa_cons (pv 3) pa_nil))) (pe_op op_mulA pe_int (pe_op op_sub (pe_call (ok_l_take (K := K) T) (hr.mono (by decide)) rfl T.g_l_take T.f_l_take.kp B2 B2v pass0 (pa_cons (pv 0) (pa_cons pe_int pa_nil))) pe_int)))))
      (pss_cons (ps_if (pt_cmpR op_eq (pe_call (ok_l_take (K := K) T) (hr.mono (by decide)) rfl T.g_l_take T.f_l_take.kp B2 B2v pass0 (pa_cons (pv 0) (pa_cons pe_int pa_nil))) pe_int (nomark _))
      (pss_one (ps_set (i := 4) sc_l_span.nd rfl (Or.inl rfl) (pe_lst (pa_cons (pe_op op_sub (pe_callB (id := "min") (minL (K := K)) (by rfl) T.z_min (by decide +kernel) (pa_cons (pv 3) pa_nil)) (pe_op op_mulA pe_int (pe_call (ok_l_take (K := K) T) (hr.mono (by decide)) rfl T.g_l_take T.f_l_take.kp B2 B2v pass0 (pa_cons (pv 0) (pa_cons pe_int pa_nil))))) (pa_cons (pe_op op_add (pe_callB (id := "max") (maxL (K := K)) (by rfl) T.z_max (by decide +kernel) (pa_cons (pv 3) pa_nil)) (pe_op op_mulA pe_int (pe_call (ok_l_take (K := K) T) (hr.mono (by decide)) rfl T.g_l_take T.f_l_take.kp B2 B2v pass0 (pa_cons (pv 0) (pa_cons pe_int pa_nil))))) pa_nil)))))
      pss_nil)
      (pss_one (ps_ret (pe_tup (pa_cons (pe_callB (id := "min") (minL (K := K)) (by rfl) T.z_min (by decide +kernel) (pa_cons (pv 4) pa_nil)) (pa_cons (pe_callB (id := "max") (maxL (K := K)) (by rfl) T.z_max (by decide +kernel) (pa_cons (pv 4) pa_nil)) pa_nil)))))))), ?_⟩
    have o1 := ptsL_ok hL
    have o2 := ptsL_ok hL'
    have e1 := ptsL_len hL
    have e2 := ptsL_len hL'
    refine ⟨_, rfl, p, l, B, ms, r, lo, hi, rfl, hL, fun D1 H1 nD1 s1 hD1 => ?_⟩
    refine ⟨_, rfl, q, l', B, ms', r', lo', hi', rfl, hL'.same s1, fun D2 H2 nD2 s2 hD2 => ?_⟩
    refine ⟨D1, D2, _, _, rfl, rfl, s2 _ _ hD1, hD2, szl (by rw [List.length_map, List.length_map]; omega), fun D nD => ?_⟩
    rw [← List.map_append]
    have hh3 := (hh.same (s1.trans s2)).up (u := .lst ((ptsL ms lo hi ++ ptsL ms' lo' hi').map V.int)) nD
    have hDP : upd H2 D (.lst ((ptsL ms lo hi ++ ptsL ms' lo' hi').map V.int)) D = some (.lst ((ptsL ms lo hi ++ ptsL ms' lo' hi').map V.int)) := upd_same
    have k3 : Kp h H (upd H2 D (.lst ((ptsL ms lo hi ++ ptsL ms' lo' hi').map V.int))) := Kp.same ((s1.trans s2).up nD)
    have nDh : D ≠ h := (hh.same (s1.trans s2)).ne nD
    generalize upd H2 D (.lst ((ptsL ms lo hi ++ ptsL ms' lo' hi').map V.int)) = H3 at hh3 hDP k3 ⊢
    have oo : ∀ y ∈ ptsL ms lo hi ++ ptsL ms' lo' hi', y % 2 = 0 ∧ -B ≤ y ∧ y ≤ B := fun y hy => by
      rcases List.mem_append.mp hy with hy | hy
      · exact o1 y hy
      · exact o2 y hy
    have lp0 : 0 < (ptsL ms lo hi ++ ptsL ms' lo' hi').length := by rw [List.length_append]; omega
    have lp1 : (ptsL ms lo hi ++ ptsL ms' lo' hi').length ≤ 98 := by rw [List.length_append]; omega
    generalize ptsL ms lo hi ++ ptsL ms' lo' hi' = ps at hDP oo lp0 lp1 ⊢
    refine ⟨2, rfl, by decide, by decide, ?_⟩
    intro E nE
    refine lck (n := (2 : Int).toNat) (c := 2) walk_range (fun _ => trivial) (fun _ _ v => ∃ s : Int, v = .int s ∧ s % 2 = 0 ∧ -(B + 40) ≤ s ∧ s ≤ B + 40) (fun _ _ _ _ r _ => r) (szs (by decide)) hh3 nE (fun i x H4 H5 N M hi' k4 hh4 yy hN => ?_) (fun H4 ys k4 hh4 hE ly hy => ?_)
    · obtain ⟨rfl, rfl⟩ := yy
      have hi2 : i < 2 := hi'
      refine ⟨rfl, yesT ?_⟩
      have hD4 := k4 _ _ hDP nDh
      refine ⟨_, rfl, _, rfl, h, D, _, _, rfl, hh4, by omega, SqL.of hD4, nDh, by rw [List.length_map]; exact lp0, by rw [List.length_map]; omega, fun j v H6 hv hh6 k6 => ?_⟩
      obtain ⟨b, hb, rfl⟩ : ∃ b, b ∈ ps ∧ v = .int b := by
        rw [List.getElem?_map] at hv
        obtain ⟨b, e1, e2⟩ := Option.map_eq_some_iff.mp hv
        exact ⟨b, List.mem_of_getElem? e1, e2.symm⟩
      have ob := oo b hb
      refine ⟨_, rfl, h, _, 5, rfl, hh6, by omega, by decide, logS (by omega), fun t H7 t0 t1 hh7 k7 => ⟨_, _, rfl, rfl, _, _, rfl, rfl, .inl (.inl ⟨by decide, by decide⟩), _, _, rfl, rfl, ?_⟩⟩
      exact hN _ _ (k6.trans k7) (hh7.mono (by omega)) ⟨_, rfl, by omega, by omega, by omega⟩
    
    have ly : ys.length = 2 := ly
    obtain ⟨v1, v2, rfl⟩ : ∃ a b, ys = [a, b] := by
      match ys, ly with
      | [a, b], _ => exact ⟨a, b, rfl⟩
    obtain ⟨a, rfl, a0, a1, a2⟩ := hy 0 v1 rfl
    obtain ⟨b, rfl, b0, b1, b2⟩ := hy 1 v2 rfl
    have hh4 : HandAt H4 h (n + 4) := hh4
    have nEh : E ≠ h := hh3.ne nE
    have nEH : H E = none := k3.fresh nE nEh
    refine ⟨_, rfl, h, _, 3, rfl, hh4, by omega, by decide, logS (by omega), fun t H5 t0 t1 hh5 k5 => ⟨rfl, _, rfl, ?_⟩⟩
    have hE5 := k5 _ _ hE nEh
    have k05 := (k3.trans k4).trans k5
    have hD5 : H5 D = some (.lst (ps.map V.int)) := k5 _ _ (k4 _ _ hDP nDh) nDh
    refine ite2 (fun e => ?_) (fun e => ?_)
    · refine ⟨_, rfl, D, ps, rfl, SqL.of hD5, lp0, fun mn hmn hmin => ?_⟩
      refine ⟨_, rfl, h, _, 20, rfl, hh5, by omega, by decide, logS (by omega), fun u H6 u0 u1 hh6 k6 => ?_⟩
      refine ⟨_, _, rfl, rfl, .inl (.inl ⟨by decide, by decide⟩), _, _, rfl, rfl, ?_⟩
      have hD6 := k6 _ _ hD5 nDh
      refine ⟨_, rfl, D, ps, rfl, SqL.of hD6, lp0, fun mx hmx hmax => ?_⟩
      refine ⟨_, rfl, h, _, 20, rfl, hh6, by omega, by decide, logS (by omega), fun v H7 v0 v1 hh7 k7 => ?_⟩
      refine ⟨_, _, rfl, rfl, .inl (.inl ⟨by decide, by decide⟩), _, _, rfl, rfl, szl (Nat.le_of_ble_eq_true rfl), fun S nS => ?_⟩
      have on := oo mn hmn
      have ox := oo mx hmx
      have hh8 := hh7.up (u := .lst [.int (mn - 2 * u), .int (mx + 2 * v)]) nS
      have k08 := ((k05.trans k6).trans k7).up (u := .lst [.int (mn - 2 * u), .int (mx + 2 * v)]) nS
      have hS : upd H7 S (.lst [.int (mn - 2 * u), .int (mx + 2 * v)]) S = some (.lst ([mn - 2 * u, mx + 2 * v].map V.int)) := upd_same
      refine ⟨_, rfl, S, [mn - 2 * u, mx + 2 * v], rfl, SqL.of hS, by show 0 < 2; omega, fun m1 hm1 hmin2 => ?_⟩
      refine ⟨_, rfl, S, [mn - 2 * u, mx + 2 * v], rfl, SqL.of hS, by show 0 < 2; omega, fun m2 hm2 hmax2 => ?_⟩
      have q1 := hmin2 (mn - 2 * u) (by simp)
      have q2 := hmin2 (mx + 2 * v) (by simp)
      have q3 := hmax2 (mn - 2 * u) (by simp)
      have q4 := hmax2 (mx + 2 * v) (by simp)
      have w1 : m1 = mn - 2 * u ∨ m1 = mx + 2 * v := by simpa using hm1
      have w2 : m2 = mn - 2 * u ∨ m2 = mx + 2 * v := by simpa using hm2
      exact ⟨szl (by show 2 ≤ 1000; omega), fun T nT => k T m1 m2 _ (by omega) (by rcases w1 with e | e <;> omega) (by rcases w2 with e | e <;> omega) (by rcases w1 with e | e <;> omega) (by rcases w2 with e | e <;> omega) upd_same ((hh8.up nT).mono (by omega)) (k08.up nT)⟩
    · have hE6 : H5 E = some (.lst ([a, b].map V.int)) := hE5
      refine ⟨_, rfl, E, [a, b], rfl, SqL.of hE6, by show 0 < 2; omega, fun m1 hm1 hmin => ?_⟩
      refine ⟨_, rfl, E, [a, b], rfl, SqL.of hE6, by show 0 < 2; omega, fun m2 hm2 hmax => ?_⟩
      have q1 := hmin a (by simp)
      have q2 := hmin b (by simp)
      have q3 := hmax a (by simp)
      have q4 := hmax b (by simp)
      have w1 : m1 = a ∨ m1 = b := by simpa using hm1
      have w2 : m2 = a ∨ m2 = b := by simpa using hm2
      exact ⟨szl (by show 2 ≤ 1000; omega), fun T nT => k T m1 m2 _ (by omega) (by rcases w1 with rfl | rfl <;> omega) (by rcases w2 with rfl | rfl <;> omega) (by rcases w1 with rfl | rfl <;> omega) (by rcases w2 with rfl | rfl <;> omega) upd_same ((hh5.up nT).mono (by omega)) (k05.up nT)⟩
theorem ok_l_parting {P : Program} {w : World} {K : PySem.W.Frag} {mg : Str → Option Value} {base : Heap} {φ : Fds} (T : Txt K mg φ) : FnOk P w K mg base CX0 2 (He.fAd K ("_law_parting", none)) φ.l_parting p_l_parting sp_lparting38 := by
  obtain ⟨_, B0v, B0⟩ := b_l_points_1 T
  obtain ⟨_, B1v, B1⟩ := b_l_size_2 T
  obtain ⟨_, B2v, B2⟩ := b_l_alike_3 T
  refine T.f_l_parting.ok sc_l_parting (fun vs H Q E h => ?_) (fun cdv A outer s H vs Q E hr h => ?_)
  · obtain ⟨p, q, l, l', s, g, sh, d, ms, ms', r, r', lo, hi, lo', hi', rfl, hL, hL', le, es, d0, kk⟩ := h; rfl
  · obtain ⟨p, q, l, l', s, g, sh, d, ms, ms', r, r', lo, hi, lo', hi', rfl, hL, hL', le, es, d0, kk⟩ := h
    refine ⟨_, PSs.nox (pss_cons (ps_set (i := 5) sc_l_parting.nd rfl (Or.inl rfl) (pe_callB (id := "sorted") (cr_sortedSetN rfl) (by rfl) T.z_sorted (by decide +kernel) (pa_cons (pe_callTy (T := "set") (call_setL (K := K)) (by rfl) T.z_set (by decide +kernel) (pa_cons (pe_op op_cat (pe_lst (pa_cons (pv 2) pa_nil)) (pe_lc (own := [("_law_x", 6)]) (g := gName 6) rfl sc_l_parting.nd (pi_list (pe_op op_cat (pe_call (ok_l_points (K := K) T) (hr.mono (by decide)) rfl T.g_l_points T.f_l_points.kp B0 B0v pass0 (pa_cons (pv 0) pa_nil)) (pe_call (ok_l_points (K := K) T) (hr.mono (by decide)) rfl T.g_l_points T.f_l_points.kp B0 B0v pass0 (pa_cons (pv 1) pa_nil)))) (blkOk_by (own := [("_law_x", 6)]) (N := N_l_parting) (sc := (defScope s_l_parting)) (by decide +kernel)) (fun _ _ _ _ _ => (pg_name (i := 6) sc_l_parting.nd rfl (Or.inl rfl))) (fun _ _ _ _ _ => (pts_one (pt_chain op_lt op_le (pv 2) (pv 6) (pv 3)))) (fun _ _ _ _ _ => (pv 6)))) pa_nil)) pa_nil)))
      (pss_cons (ps_for PassesOwn.never rfl (pi_list (pv 5)) (pg_name (i := 6) sc_l_parting.nd rfl (Or.inl rfl))
      (pss_cons (ps_par (i := 7) (j := 8) rfl sc_l_parting.nd rfl rfl (by decide) rfl rfl (pa_cons (pe_call (ok_l_size (K := K) T) (hr.mono (by decide)) rfl T.g_l_size T.f_l_size.kp B1 B1v pass0 (pa_cons (pv 0) (pa_cons (pv 6) pa_nil))) (pa_cons (pe_call (ok_l_size (K := K) T) (hr.mono (by decide)) rfl T.g_l_size T.f_l_size.kp B1 B1v pass0 (pa_cons (pv 1) (pa_cons (pv 6) pa_nil))) pa_nil)) (by rfl))
      (pss_cons (ps_if (pt_not (pt_val (pe_call (ok_l_alike (K := K) T) (hr.mono (by decide)) rfl T.g_l_alike T.f_l_alike.kp B2 B2v pass0 (pa_cons (pv 7) (pa_cons (pv 8) (pa_cons (pv 4) pa_nil))))))
      (pss_one (ps_ret (pe_tup (pa_cons pe_str (pa_cons (pv 6) (pa_cons pe_str (pa_cons (pv 7) (pa_cons (pv 8) pa_nil))))))))
      pss_nil)
      (pss_cons (ps_par (i := 7) (j := 8) rfl sc_l_parting.nd rfl rfl (by decide) rfl rfl (pa_cons (pe_call (ok_l_size (K := K) T) (hr.mono (by decide)) rfl T.g_l_size T.f_l_size.kp B1 B1v pass0 (pa_cons (pv 0) (pa_cons (pe_op op_add (pv 6) pe_int) pa_nil))) (pa_cons (pe_call (ok_l_size (K := K) T) (hr.mono (by decide)) rfl T.g_l_size T.f_l_size.kp B1 B1v pass0 (pa_cons (pv 1) (pa_cons (pe_op op_add (pv 6) pe_int) pa_nil))) pa_nil)) (by rfl))
      (pss_one (ps_if (PW.pt (pw_and (pt_cmpR op_lt (pv 6) (pv 3) (nomark _)) (pw_and1 (pt_not (pt_val (pe_call (ok_l_alike (K := K) T) (hr.mono (by decide)) rfl T.g_l_alike T.f_l_alike.kp B2 B2v pass0 (pa_cons (pv 7) (pa_cons (pv 8) (pa_cons (pv 4) pa_nil)))))))))
      (pss_one (ps_ret (pe_tup (pa_cons pe_str (pa_cons (pv 6) (pa_cons pe_str (pa_cons (pv 7) (pa_cons (pv 8) pa_nil))))))))
      pss_nil))))))
      (pss_one (ps_ret (pe_tup (pa_cons pe_str pa_nil)))))), ?_⟩
    walk_at "w"
    intro L0 nL0
    have s0 : Same H (upd H L0 (.lst [.int s])) := same1 nL0
    have hL0 : upd H L0 (.lst [.int s]) L0 = some (.lst [.int s]) := upd_same
    generalize upd H L0 (.lst [.int s]) = H0 at s0 hL0 ⊢
    refine ⟨_, rfl, p, l, 5000, ms, r, lo, hi, rfl, hL.same s0, fun D1 H1 nD1 s1 hD1 => ?_⟩
    refine ⟨_, rfl, q, l', 5000, ms', r', lo', hi', rfl, hL'.same (s0.trans s1), fun D2 H2 nD2 s2 hD2 => ?_⟩
    have e1 := ptsL_len hL
    have e2 := ptsL_len hL'
    refine ⟨D1, D2, _, _, rfl, rfl, s2 _ _ hD1, hD2, szl (by rw [List.length_map, List.length_map]; omega), fun D nD => ?_⟩
    rw [← List.map_append]
    have s3 : Same H0 (upd H2 D (.lst ((ptsL ms lo hi ++ ptsL ms' lo' hi').map V.int))) := (s1.trans s2).up nD
    have hD : upd H2 D (.lst ((ptsL ms lo hi ++ ptsL ms' lo' hi').map V.int)) D = some (.lst ((ptsL ms lo hi ++ ptsL ms' lo' hi').map V.int)) := upd_same
    generalize upd H2 D (.lst ((ptsL ms lo hi ++ ptsL ms' lo' hi').map V.int)) = H3 at s3 hD ⊢
    have lp : (ptsL ms lo hi ++ ptsL ms' lo' hi').length ≤ 98 := by rw [List.length_append]; omega
    have ev : ∀ z ∈ ptsL ms lo hi ++ ptsL ms' lo' hi', z % 2 = 0 := fun z hz => by
      rcases List.mem_append.mp hz with hz | hz
      · exact (ptsL_ok hL z hz).1
      · exact (ptsL_ok hL' z hz).1
    have W : GapZ (sizF (zq d ms) r (oq d lo) (oq d hi)) (sizF (zq d ms') r' (oq d lo') (oq d hi')) (ptsL ms lo hi ++ ptsL ms' lo' hi') d := fun a b h x y x1 x2 y1 y2 =>
      ⟨gapZ hL d0 (fun z hz => h z (List.mem_append.mpr (.inl hz))) x1 x2 y1 y2, gapZ hL' d0 (fun z hz => h z (List.mem_append.mpr (.inr hz))) x1 x2 y1 y2⟩
    generalize ptsL ms lo hi ++ ptsL ms' lo' hi' = ps at hD lp ev W ⊢
    refine ⟨D, rfl, ⟨_, SqL.of hD⟩, fun D4 nD4 => ?_⟩
    refine lcz (n := (ps.map V.int).length) walk_list (fun _ _ g s => s.seq g) (ps.map fun z => if filC s g z = true then some (V.int z) else none) (by rw [List.length_map, List.length_map]) (szs (by rw [List.length_map]; omega)) (SqL.of hD) nD4 (fun i x H5 H6 o N M hi' ho s5 y hN hM => ?_) (fun H5 s5 hD5 => ?_)
    · obtain ⟨rfl, hx⟩ := y
      obtain ⟨z, hz⟩ := geI (zs := ps) (n := i) (by rw [List.length_map] at hi'; exact hi')
      rw [mapI hz] at hx
      cases hx
      rw [List.getElem?_map, hz] at ho
      have ho : (if filC s g z = true then some (V.int z) else none) = o := Option.some.inj ho
      unfold filC at ho
      refine ⟨rfl, ?_⟩
      refine ⟨_, rfl, _, rfl, _, _, rfl, rfl, _, rfl, ?_⟩
      refine ite2 (fun e => ?_) (fun e => ?_)
      · refine ⟨_, rfl, _, _, rfl, rfl, _, rfl, ?_⟩
        refine ite2 (fun e2 => ?_) (fun e2 => ?_)
        · exact ⟨_, rfl, hN _ _ (by rw [← ho, e, e2]; rfl) (Same.refl _)⟩
        · exact hM _ (by rw [← ho, e, Bool.true_and, if_neg e2]) (Same.refl _)
      · exact ⟨_, rfl, iteF (hM _ (by rw [← ho, Bool.eq_false_iff.mpr e]; rfl) (Same.refl _))⟩
    rw [fil_fm] at hD5
    refine ⟨L0, D4, _, _, rfl, rfl, s5 _ _ (s3 _ _ hL0), hD5, szl (by have := List.length_filter_le (filC s g) ps; rw [List.length_map]; show 1 + _ ≤ 1000; omega), fun D6 nD6 => ?_⟩
    have lf := List.length_filter_le (filC s g) ps
    have s6 : Same H5 (upd H5 D6 (.lst ((s :: ps.filter (filC s g)).map V.int))) := same1 nD6
    refine ⟨D6, s :: ps.filter (filC s g), rfl, SqL.of upd_same, by rw [List.length_cons]; omega, fun D7 n7 nD7 hn7 => ?_⟩
    rw [List.length_cons] at hn7
    refine ⟨D7, _, n7, rfl, upd_same, by omega, fun ns D8 pw hm hln nD8 => ?_⟩
    generalize hH : upd (upd (upd H5 D6 _) D7 _) D8 (.lst (ns.map V.int)) = H9
    have s9 : Same H0 H9 := by rw [← hH]; exact (((s3.trans s5).up nD6).up nD7).up nD8
    have hL9 : H9 D8 = some (.lst (ns.map V.int)) := by rw [← hH]; exact upd_same
    clear hH
    have Z : PtsZ ps s g ns := ⟨fun k => by
      rw [hm k, decide_eq_true_iff, List.mem_cons, List.mem_filter]
      unfold filC
      rw [Bool.and_eq_true, decide_eq_true_iff, decide_eq_true_iff], ev, es, le⟩
    have ln : ns.length ≤ 99 := by omega
    refine ⟨_, rfl, D8, rfl, ⟨_, SqL.of hL9⟩, ?_⟩
    refine for_list (K := K) (a := D8) (xs := ns.map V.int) (fun i σ H' => (∃ v6 v7 v8 : Option V, σ = [some (.ref p), some (.ref q), some (.int s), some (.int g), some (.int sh), some (.ref D8), v6, v7, v8]) ∧ Same H9 H' ∧ ∀ j c, j < i → ns[j]? = some c → alkB (sizF (zq d ms) r (oq d lo) (oq d hi) (toR (c, d))) (sizF (zq d ms') r' (oq d lo') (oq d hi') (toR (c, d))) sh = true ∧ (c < g → alkB (sizF (zq d ms) r (oq d lo) (oq d hi) (toR (c + 1, d))) (sizF (zq d ms') r' (oq d lo') (oq d hi') (toR (c + 1, d))) sh = true)) ⟨⟨_, _, _, rfl⟩, Same.refl _, fun j c h => by omega⟩ (fun i σ H' _ q => q.2.1.seq (SqL.of hL9)) ?_ ?_
    · rintro i v σ H' hv ⟨⟨v6, v7, v8, rfl⟩, s10, hall⟩
      rw [List.getElem?_map] at hv
      obtain ⟨c, hc, rfl⟩ := Option.map_eq_some_iff.mp hv
      have cm := List.mem_of_getElem? hc
      have cb := Z.bnd cm
      have before : ∀ c' ∈ ns, c' < c → alkB (sizF (zq d ms) r (oq d lo) (oq d hi) (toR (c', d))) (sizF (zq d ms') r' (oq d lo') (oq d hi') (toR (c', d))) sh = true ∧ (c' < g → alkB (sizF (zq d ms) r (oq d lo) (oq d hi) (toR (c' + 1, d))) (sizF (zq d ms') r' (oq d lo') (oq d hi') (toR (c' + 1, d))) sh = true) := fun c' hc' lt => by
        obtain ⟨j, hj⟩ := List.mem_iff_getElem?.mp hc'
        refine hall j c' (Nat.lt_of_not_le fun q => ?_) hj
        by_cases e : i = j
        · subst e
          rw [hc] at hj
          cases hj
          omega
        · have lj := (List.getElem?_eq_some_iff.mp hj)
          have li := (List.getElem?_eq_some_iff.mp hc)
          have := List.pairwise_iff_getElem.mp pw i j li.1 lj.1 (by omega)
          rw [li.2, lj.2] at this
          omega
      have LL := ladq_d hL d0
      have LR := ladq_d hL' d0
      have s09 := (s0.trans s9).trans s10
      refine ⟨_, rfl, _, rfl, p, l, ms, r, lo, hi, c, d, rfl, hL.same s09, d0, fun H11 s11 => ?_⟩
      refine ⟨_, rfl, _, rfl, q, l', ms', r', lo', hi', c, d, rfl, hL'.same (s09.trans s11), d0, fun H12 s12 => ?_⟩
      rw [sizF_eq (x := (c, d)) LL d0, sizF_eq (x := (c, d)) LR d0]
      refine ⟨_, _, rfl, _, rfl, _, rfl, _, rfl, _, _, sh, rfl, _, rfl, ?_⟩
      have s012 := (s09.trans s11).trans s12
      have bad : ∀ b : Bool, b = false → (!b) = true := fun b h => by rw [h]; rfl
      have good : ∀ b : Bool, b = true → (!b) = false := fun b h => by rw [h]; rfl
      cases eA : alkB (sizF (zq d ms) r (oq d lo) (oq d hi) (toR (c, d))) (sizF (zq d ms') r' (oq d lo') (oq d hi') (toR (c, d))) sh with
      | false =>
        refine iteT ?_
        refine ⟨_, rfl, _, rfl, _, rfl, szl (by show 5 ≤ 1000; omega), fun R nR => ?_⟩
        exact kk R (some (c, false, _, _)) _ (s012.up nR) upd_same (fun _ _ _ _ h => by cases h; exact cb) (Z.stop W d0 cm before eA)
      | true =>
        refine iteF ?_
        refine ⟨_, rfl, _, rfl, _, _, rfl, rfl, p, l, ms, r, lo, hi, c + 1, d, rfl, hL.same s012, d0, fun H13 s13 => ?_⟩
        refine ⟨_, rfl, _, rfl, _, _, rfl, rfl, q, l', ms', r', lo', hi', c + 1, d, rfl, hL'.same (s012.trans s13), d0, fun H14 s14 => ?_⟩
        rw [sizF_eq (x := (c + 1, d)) LL d0, sizF_eq (x := (c + 1, d)) LR d0]
        refine ⟨_, _, rfl, _, rfl, _, rfl, _, _, rfl, rfl, _, rfl, ?_⟩
        refine ite2 (fun e => ?_) (fun e => ?_)
        · have cg : c < g := of_decide_eq_true e
          refine ⟨_, rfl, _, rfl, _, rfl, _, _, sh, rfl, _, rfl, ?_⟩
          cases eB : alkB (sizF (zq d ms) r (oq d lo) (oq d hi) (toR (c + 1, d))) (sizF (zq d ms') r' (oq d lo') (oq d hi') (toR (c + 1, d))) sh with
          | false =>
            refine iteT ?_
            refine ⟨_, rfl, _, rfl, _, rfl, szl (by show 5 ≤ 1000; omega), fun R nR => ?_⟩
            exact kk R (some (c, true, _, _)) _ (((s012.trans s13).trans s14).up nR) upd_same (fun _ _ _ _ h => by cases h; exact cb) (Z.behind W d0 cm cg before eA eB)
          | true =>
            refine iteF ?_
            refine ⟨⟨_, _, _, rfl⟩, ((s10.trans s11).trans s12).trans (s13.trans s14), fun j c' hj hc' => ?_⟩
            by_cases ej : j = i
            · subst ej
              rw [hc] at hc'
              cases hc'
              exact ⟨eA, fun z => eB⟩
            · exact hall j c' (by omega) hc'
        · refine iteF ?_
          refine ⟨⟨_, _, _, rfl⟩, ((s10.trans s11).trans s12).trans (s13.trans s14), fun j c' hj hc' => ?_⟩
          by_cases ej : j = i
          · subst ej
            rw [hc] at hc'
            cases hc'
            exact ⟨eA, fun z => absurd (decide_eq_true z) e⟩
          · exact hall j c' (by omega) hc'
    · rintro σ H' ⟨⟨v6, v7, v8, rfl⟩, s10, hall⟩
      refine ⟨szl (by show 1 ≤ 1000; omega), fun R nR => ?_⟩
      refine kk R none _ (((s0.trans s9).trans s10).up nR) upd_same (fun _ _ _ _ h => by cases h) (Z.none W d0 fun c hc => ?_)
      obtain ⟨j, hj⟩ := List.mem_iff_getElem?.mp hc
      exact hall j c (by rw [List.length_map]; exact (List.getElem?_eq_some_iff.mp hj).1) hj
theorem ok_l_any {P : Program} {w : World} {K : PySem.W.Frag} {mg : Str → Option Value} {base : Heap} {φ : Fds} (T : Txt K mg φ) : FnOk P w K mg base CX0 5 (He.fAd K ("_law_any", none)) φ.l_any p_l_any (sp_any40 (He.ga K "Measure") (He.ga K "Stretch") (He.ga K "Ladder")) := by
  obtain ⟨_, B0v, B0⟩ := b_l_pick_2 T
  obtain ⟨_, B1v, B1⟩ := b_l_take_2 T
  obtain ⟨_, B2v, B2⟩ := b_Ladder_init_2 T
  obtain ⟨_, B3v, B3⟩ := b_Measure_init_2 T
  obtain ⟨_, B4v, B4⟩ := b_Stretch_init_3 T
  obtain ⟨_, B5v, B5⟩ := b_Measure_init_3 T
  refine T.f_l_any.ok sc_l_any (fun vs H Q E h => ?_) (fun cdv A outer s H vs Q E hr h => ?_)
  · obtain ⟨h, n, rfl, hh, hn, kk⟩ := h; rfl
  · obtain ⟨h, n, rfl, hh, hn, kk⟩ := h
    refine ⟨_, PSs.nox (pss_cons (ps_set (i := 1) sc_l_any.nd rfl (Or.inl rfl) (pe_lst (pa_cons pe_non (pa_cons pe_bl (pa_cons pe_bl (pa_cons pe_int (pa_cons pe_int (pa_cons (pe_un un_neg pe_int) (pa_cons (pe_op op_pow pe_int pe_int) (pa_cons pe_str (pa_cons pe_str (pa_cons pe_str (pa_cons (pe_tup pa_nil) (pa_cons (pe_lst pa_nil) (pa_cons pe_dnewK (pa_cons (pe_tup (pa_cons pe_str pa_nil)) (pa_cons (pe_lst (pa_cons pe_str pa_nil)) pa_nil)))))))))))))))))
      (pss_cons (ps_cut (ps_set (i := 2) sc_l_any.nd rfl (Or.inl rfl) (pe_call (ok_l_pick (K := K) T) (hr.mono (by decide)) rfl T.g_l_pick T.f_l_pick.kp B0 B0v pass0 (pa_cons (pv 0) (pa_cons (pv 1) pa_nil)))))
      (pss_cons (ps_if (pt_cmpR op_eq (pe_call (ok_l_take (K := K) T) (hr.mono (by decide)) rfl T.g_l_take T.f_l_take.kp B1 B1v pass0 (pa_cons (pv 0) (pa_cons pe_int pa_nil))) pe_int (nomark _))
      (pss_one (ps_ret (pe_call (ok_l_pick (K := K) T) (hr.mono (by decide)) rfl T.g_l_pick T.f_l_pick.kp B0 B0v pass0 (pa_cons (pv 0) (pa_cons (pe_lst (pa_cons (pe_make T.mk_Measure (ok_Measure_init (K := K) T) (hr.mono (by decide)) rfl T.g_Measure B5 B5v pass0 (pa_cons pe_int (pa_cons pe_int pa_nil))) (pa_cons (pe_make T.mk_Stretch (ok_Stretch_init (K := K) T) (hr.mono (by decide)) rfl T.g_Stretch B4 B4v pass0 (pa_cons pe_non (pa_cons pe_non pa_nil))) (pa_cons (pe_make T.mk_Ladder (ok_Ladder_init (K := K) T) (hr.mono (by decide)) rfl T.g_Ladder B2 B2v pass0 (pa_cons (pe_tup (pa_cons (pe_make T.mk_Measure (ok_Measure_init (K := K) T) (hr.mono (by decide)) rfl T.g_Measure B3 B3v pass0 (pa_cons pe_int pa_nil)) pa_nil)) pa_nil)) pa_nil)))) pa_nil)))))
      pss_nil)
      (pss_cons (ps_for PassesOwn.never rfl (pi_range1 rfl T.z_range (pa_cons (pe_call (ok_l_pick (K := K) T) (hr.mono (by decide)) rfl T.g_l_pick T.f_l_pick.kp B0 B0v pass0 (pa_cons (pv 0) (pa_cons (pe_lst (pa_cons pe_int (pa_cons pe_int (pa_cons pe_int (pa_cons pe_int (pa_cons pe_int pa_nil)))))) pa_nil))) pa_nil)) (pg_name (i := 3) sc_l_any.nd rfl (Or.inl rfl))
      (pss_one (ps_set (i := 2) sc_l_any.nd rfl (Or.inl rfl) (pe_call (ok_l_pick (K := K) T) (hr.mono (by decide)) rfl T.g_l_pick T.f_l_pick.kp B0 B0v pass0 (pa_cons (pv 0) (pa_cons (pe_lst (pa_cons (pe_tup (pa_cons (pv 2) pa_nil)) (pa_cons (pe_lst (pa_cons (pv 2) pa_nil)) (pa_cons (pe_tup (pa_cons (pv 2) (pa_cons pe_str pa_nil))) (pa_cons (pe_disp (pps_cons pe_str (pv 2) pps_nil) (by rfl) (by rfl) (fun z => by cases z) (by decide)) pa_nil))))) pa_nil))))))
      (pss_one (ps_ret (pv 2))))))), ?_⟩
    have cl_Measure := T.cl_Measure
    have na_Measure_top := T.na_Measure_top
    have na_Measure_bottom := T.na_Measure_bottom
    have cl_Ladder := T.cl_Ladder
    have na_Ladder_marks := T.na_Ladder_marks
    have na_Ladder_rule := T.na_Ladder_rule
    have na_Ladder_least := T.na_Ladder_least
    have na_Ladder_most := T.na_Ladder_most
    have cl_Stretch := T.cl_Stretch
    have na_Stretch_low := T.na_Stretch_low
    have na_Stretch_high := T.na_Stretch_high
    have na_Stretch_low_in := T.na_Stretch_low_in
    have na_Stretch_high_in := T.na_Stretch_high_in
    
    have kits := kitsT T
    walk_at "w"
    refine ⟨⟨by decide, by decide, by decide⟩, ?_⟩
    refine ⟨szl (Nat.le_of_ble_eq_true rfl), fun p1 np1 => ?_⟩
    refine ⟨szl (Nat.le_of_ble_eq_true rfl), fun p2 np2 => ?_⟩
    refine fun p3 np3 => ?_
    refine ⟨szl (Nat.le_of_ble_eq_true rfl), fun p4 np4 => ?_⟩
    refine ⟨szl (Nat.le_of_ble_eq_true rfl), fun p5 np5 => ?_⟩
    refine ⟨szl (Nat.le_of_ble_eq_true rfl), fun L nL => ?_⟩
    have a1 : upd H p1 (.tup []) p1 = some (.tup []) := upd_same
    have a2 : upd (upd H p1 (.tup [])) p2 (.lst []) p2 = some (.lst []) := upd_same
    have a3 : upd (upd (upd H p1 (.tup [])) p2 (.lst [])) p3 (.dK []) p3 = some (.dK []) := upd_same
    have a4 : upd (upd (upd (upd H p1 (.tup [])) p2 (.lst [])) p3 (.dK [])) p4 (.tup [.str "alike"]) p4 = some (.tup [.str "alike"]) := upd_same
    have a5 : upd (upd (upd (upd (upd H p1 (.tup [])) p2 (.lst [])) p3 (.dK [])) p4 (.tup [.str "alike"])) p5 (.lst [.str "alike"]) p5 = some (.lst [.str "alike"]) := upd_same
    generalize hX : upd (upd (upd (upd (upd (upd H p1 (.tup [])) p2 (.lst [])) p3 (.dK [])) p4 (.tup [.str "alike"])) p5 (.lst [.str "alike"])) L _ = H6
    have s6 : Same H H6 := by rw [← hX]; exact (((((same1 np1 : Same H _).up np2).up np3).up np4).up np5).up nL
    have hL : H6 L = some (.lst [.non, .bl true, .bl false, .int 0, .int 1, .int (-1), .int (10 ^ 30), .str "", .str "at", .str "alike", .ref p1, .ref p2, .ref p3, .ref p4, .ref p5]) := by rw [← hX]; exact upd_same
    have h1 : H6 p1 = some (.tup []) := by rw [← hX]; exact up1 nL (up1 np5 (up1 np4 (up1 np3 (up1 np2 a1))))
    have h2 : H6 p2 = some (.lst []) := by rw [← hX]; exact up1 nL (up1 np5 (up1 np4 (up1 np3 a2)))
    have h3 : H6 p3 = some (.dK []) := by rw [← hX]; exact up1 nL (up1 np5 (up1 np4 a3))
    have h4 : H6 p4 = some (.tup [.str "alike"]) := by rw [← hX]; exact up1 nL (up1 np5 a4)
    have h5 : H6 p5 = some (.lst [.str "alike"]) := by rw [← hX]; exact up1 nL a5
    have n2 : p2 ≠ h := (hh.up np1).ne np2
    have n5 : p5 ≠ h := ((((hh.up np1).up np2).up np3).up np4).ne np5
    have nL' : L ≠ h := (((((hh.up np1).up np2).up np3).up np4).up np5).ne nL
    clear hX a1 a2 a3 a4 a5 np1 np2 np3 np4 np5 nL
    have hh6 := hh.same s6
    refine ⟨fun σ' H' => ∃ v, σ' = [some (.ref h), some (.ref L), some v, none] ∧ TopAt (He.ga K "Measure") (He.ga K "Stretch") (He.ga K "Ladder") h H' v ∧ HandAt H' h (n + 1) ∧ Kp h H H', ?_, ?_⟩
    · refine ⟨_, rfl, _, rfl, h, L, n, _, rfl, hh6, by omega, SqL.of hL, nL', Nat.lt_of_lt_of_le (by decide) (Nat.le_of_ble_eq_true rfl : 15 ≤ 15), Nat.le_of_ble_eq_true rfl, fun i x H7 hx hh7 k7 => ?_⟩
      have k07 := (Kp.same s6).trans k7
      refine ⟨x, rfl, ?_, hh7, k07⟩
      have hm := List.mem_of_getElem? hx
      simp only [List.mem_cons, List.not_mem_nil, or_false] at hm
      rcases hm with rfl | rfl | rfl | rfl | rfl | rfl | rfl | rfl | rfl | rfl | rfl | rfl | rfl | rfl | rfl
      · exact .inr (.inl rfl)
      · exact .inr (.inr (.inl ⟨_, rfl⟩))
      · exact .inr (.inr (.inl ⟨_, rfl⟩))
      · exact .inr (.inr (.inr (.inl ⟨_, rfl⟩)))
      · exact .inr (.inr (.inr (.inl ⟨_, rfl⟩)))
      · exact .inr (.inr (.inr (.inl ⟨_, rfl⟩)))
      · exact .inr (.inr (.inr (.inl ⟨_, rfl⟩)))
      · exact .inr (.inr (.inr (.inr (.inl ⟨_, rfl⟩))))
      · exact .inr (.inr (.inr (.inr (.inl ⟨_, rfl⟩))))
      · exact .inr (.inr (.inr (.inr (.inl ⟨_, rfl⟩))))
      · exact .inl ⟨p1, [], rfl, k7.get hh6 h1 rfl, Nat.zero_le _, fun x hx => by cases hx⟩
      · exact .inr (.inr (.inr (.inr (.inr (.inl ⟨p2, [], rfl, n2, k7 _ _ h2 n2⟩)))))
      · exact .inr (.inr (.inr (.inr (.inr (.inr (.inl ⟨p3, [], rfl, k7.get hh6 h3 rfl⟩))))))
      · exact .inl ⟨p4, _, rfl, k7.get hh6 h4 rfl, by decide, fun x hx => by rw [List.mem_singleton.mp hx]; exact .inl (.inr (.inr (.inr (.inl ⟨_, rfl⟩))))⟩
      · exact .inr (.inr (.inr (.inr (.inr (.inl ⟨p5, _, rfl, n5, k7 _ _ h5 n5⟩)))))
    rintro σ' H7 ⟨v, rfl, tv, hh7, k7⟩
    clear hh6 hL h1 h2 h3 h4 h5 s6
    refine ⟨_, rfl, h, _, 6, rfl, hh7, by omega, by decide, logS (by omega), fun t H8 t0 t1 hh8 k8 => ⟨rfl, _, rfl, ?_⟩⟩
    have k08 := k7.trans k8
    refine ite2 (fun e => ?_) (fun e => ?_)
    · refine ⟨_, rfl, ?_⟩
      refine q_made (k := 3) (by decide) (by decide) (by decide) (by decide) (by decide) fun q1 H9 s9 R1 => ?_
      change ∀ (x dx : Addr), _
      refine stq_made (k := 3) (j := 3) (a := none) (b := none) rfl rfl (by decide) (by decide) rfl fun q2 HA sA st => ?_
      refine q_made (k := 3) (by decide) (by decide) (by decide) (by decide) (by decide) fun q3 HB sB R3 => ?_
      refine ⟨szl (Nat.le_of_ble_eq_true rfl), fun t3 nt3 => ?_⟩
      generalize hC : upd HB t3 _ = HC
      have sC : Same HB HC := by rw [← hC]; exact same1 nt3
      have ht3 : HC t3 = some (.tup [.ref q3]) := by rw [← hC]; exact upd_same
      clear hC
      change ∀ (x dx : Addr), _
      refine lad_made (k := 3) (lo := none) (hi := none) (SqT.of ht3) (zs := [(1, 1)]) ⟨rfl, fun i v z e1 e2 => ?_⟩ (by decide) (by decide) (by decide) (fun i a b _ e2 => by simp at e2) (.inl rfl) rfl rfl rfl fun q4 HD _ sD L4 hob => ?_
      · rcases i with _ | i
        · cases e1; cases e2; exact ⟨q3, rfl, R3.same sC⟩
        · simp at e1
      refine ⟨szl (Nat.le_of_ble_eq_true rfl), fun L3 nL3 => ?_⟩
      have s8D := (((s9.trans sA).trans sB).trans sC).trans sD
      have hhD := hh8.same s8D
      refine ⟨h, L3, n + 2, _, rfl, hhD.up nL3, by omega, SqL.of upd_same, hhD.ne nL3, Nat.lt_of_lt_of_le (by decide) (Nat.le_of_ble_eq_true rfl : 3 ≤ 3), Nat.le_of_ble_eq_true rfl, fun i x HE hx hhE kE => ?_⟩
      have kDE := ((Kp.refl h HD).up (u := .lst [.ref q1, .ref q2, .ref q4]) nL3).trans kE
      refine kk x HE ?_ (hhE.mono (by omega)) ((k08.trans (Kp.same s8D)).trans kDE)
      have hm := List.mem_of_getElem? hx
      simp only [List.mem_cons, List.not_mem_nil, or_false] at hm
      rcases hm with rfl | rfl | rfl
      · exact .inr (.inr (.inr (.inr (.inr (.inr (.inr (.inl ⟨q1, 3, (1, 2), rfl, ((((R1.same sA).same sB).same sC).same sD).kp hhD kDE, by decide⟩)))))))
      · obtain ⟨lo', hi', ⟨⟨dq, vl, vh, hq, ml, mh⟩, _⟩, _⟩ := st
        exact .inr (.inr (.inr (.inr (.inr (.inr (.inr (.inr ⟨q2, _, dq, _, rfl, kDE.get hhD (sD _ _ (sC _ _ (sB _ _ hq))) rfl, .inl rfl⟩)))))))
      · obtain ⟨dx, ho⟩ := hob
        exact .inr (.inr (.inr (.inr (.inr (.inr (.inr (.inr ⟨q4, _, dx, _, rfl, kDE.get hhD ho rfl, .inr rfl⟩)))))))
    · have tv8 := tv.kp hh7 k8
      refine ⟨_, rfl, szl (Nat.le_of_ble_eq_true rfl), fun S nS => ?_⟩
      have hhS := hh8.up (u := .lst [.int 0, .int 0, .int 0, .int 1, .int 28]) nS
      refine ⟨h, S, n + 2, _, rfl, hhS, by omega, SqL.of upd_same, hh8.ne nS, Nat.lt_of_lt_of_le (by decide) (Nat.le_of_ble_eq_true rfl : 5 ≤ 5), Nat.le_of_ble_eq_true rfl, fun i x H9 hx hh9 k9 => ?_⟩
      obtain ⟨m, rfl, m0, m1⟩ : ∃ m : Int, x = .int m ∧ 0 ≤ m ∧ m ≤ 28 := by
        have hm := List.mem_of_getElem? hx
        simp at hm
        rcases hm with rfl | rfl | rfl <;> exact ⟨_, rfl, by decide, by decide⟩
      have tv9 := (tv8.same hh8 (same1 nS)).kp hhS k9
      refine ⟨m, rfl, by omega, by omega, for_range (fun i σ H' => ∃ (w : V) (v3 : Option V), σ = [some (.ref h), some (.ref L), some w, v3] ∧ TopAt (He.ga K "Measure") (He.ga K "Stretch") (He.ga K "Ladder") h H' w ∧ HandAt H' h (n + 3 + i) ∧ Kp h H H') ⟨v, none, rfl, tv9, hh9, (k08.up nS).trans k9⟩ ?_ ?_⟩
      · rintro i σ HA hi ⟨w, v3, rfl, tw, hhA, kA⟩
        have hi2 : i < 28 := by omega
        refine ⟨_, rfl, _, rfl, szl (Nat.le_of_ble_eq_true rfl), fun b1 nb1 => ?_⟩
        refine ⟨_, rfl, szl (Nat.le_of_ble_eq_true rfl), fun b2 nb2 => ?_⟩
        refine ⟨_, rfl, szl (Nat.le_of_ble_eq_true rfl), fun b3 nb3 => ?_⟩
        refine fun b4 nb4 => ?_
        refine ⟨_, rfl, upd_same, [((.inr "part" : Key), w)], rfl, Nat.le_of_ble_eq_true rfl, szl (Nat.le_of_ble_eq_true rfl), fun S2 nS2 => ?_⟩
        have tw0 := tw.thg
        have e1 : upd HA b1 (.tup [w]) b1 = some (.tup [w]) := upd_same
        have e2 : upd (upd HA b1 (.tup [w])) b2 (.lst [w]) b2 = some (.lst [w]) := upd_same
        have e3 : upd (upd (upd HA b1 (.tup [w])) b2 (.lst [w])) b3 (.tup [w, .str "at"]) b3 = some (.tup [w, .str "at"]) := upd_same
        have m2 : b2 ≠ h := (hhA.up nb1).ne nb2
        have f1 := up1 (u := .tup [w, .str "at"]) nb3 (up1 (u := .lst [w]) nb2 e1)
        have f2 := up1 (u := .tup [w, .str "at"]) nb3 e2
        have s3 : Same HA (upd (upd (upd HA b1 (.tup [w])) b2 (.lst [w])) b3 (.tup [w, .str "at"])) := ((same1 nb1 : Same HA _).up nb2).up nb3
        generalize upd (upd (upd HA b1 (.tup [w])) b2 (.lst [w])) b3 (.tup [w, .str "at"]) = HB at nb4 nS2 e3 f1 f2 s3 ⊢
        have s4 : Same HB (upd (upd HB b4 (.dK [])) b4 (.dK (mergeK [] [((.inr "part" : Key), w)]))) := fun c o e => by
          rw [upd_ne (ne_of_none e nb4), upd_ne (ne_of_none e nb4)]
          exact e
        have e4 : upd (upd HB b4 (.dK [])) b4 (.dK (mergeK [] [((.inr "part" : Key), w)])) b4 = some (.dK (mergeK [] [((.inr "part" : Key), w)])) := upd_same
        generalize upd (upd HB b4 (.dK [])) b4 (.dK (mergeK [] [((.inr "part" : Key), w)])) = HC at nS2 s4 e4 ⊢
        have sAC := s3.trans s4
        have hhC := hhA.same sAC
        refine ⟨h, S2, n + 3 + i, _, rfl, hhC.up nS2, by omega, SqL.of upd_same, hhC.ne nS2, Nat.lt_of_lt_of_le (by decide) (Nat.le_of_ble_eq_true rfl : 4 ≤ 4), Nat.le_of_ble_eq_true rfl, fun i1 x HE hx hhE kE => ?_⟩
        have kCE := ((Kp.refl h HC).up (u := .lst [.ref b1, .ref b2, .ref b3, .ref b4]) nS2).trans kE
        have twE := (tw0.same sAC).kp hhC kCE
        refine ⟨x, _, rfl, ?_, hhE, (kA.trans (Kp.same sAC)).trans kCE⟩
        have hm := List.mem_of_getElem? hx
        simp only [List.mem_cons, List.not_mem_nil, or_false] at hm
        rcases hm with rfl | rfl | rfl | rfl
        · exact .inl ⟨b1, _, rfl, kCE.get hhC (s4 _ _ f1) rfl, Nat.le_of_ble_eq_true rfl, fun x hx => by rw [List.mem_singleton.mp hx]; exact twE⟩
        · exact .inr (.inr (.inr (.inr (.inr (.inl ⟨b2, _, rfl, m2, kCE _ _ (s4 _ _ f2) m2⟩)))))
        · exact .inl ⟨b3, _, rfl, kCE.get hhC (s4 _ _ e3) rfl, Nat.le_of_ble_eq_true rfl, fun x hx => by
            rcases List.mem_cons.mp hx with rfl | hx
            · exact twE
            · rw [List.mem_singleton.mp hx]
              exact .inl (.inr (.inr (.inr (.inl ⟨_, rfl⟩))))⟩
        · exact .inr (.inr (.inr (.inr (.inr (.inr (.inl ⟨b4, _, rfl, kCE.get hhC e4 rfl⟩))))))
      · rintro σ HA ⟨w, v3, rfl, tw, hhA, kA⟩
        refine ⟨_, rfl, kk w HA tw (hhA.mono (by omega)) kA⟩
theorem ok_written {P : Program} {w : World} {K : PySem.W.Frag} {mg : Str → Option Value} {base : Heap} {φ : Fds} (T : Txt K mg φ) : FnOk P w K mg base CX0 1 (He.fAd K ("written", none)) φ.written p_written sp_written := by
  refine T.f_written.ok sc_written (fun vs H Q E h => ?_) (fun cdv A outer s H vs Q E hr h => ?_)
  · obtain ⟨a, u, rfl, h0, hu, sa, su, k⟩ := h; rfl
  · obtain ⟨a, u, rfl, h0, hu, sa, su, k⟩ := h
    refine ⟨_, PSs.nox (pss_cons (ps_asg (pe_callB (id := "divmod") call_dm (by rfl) T.z_divmod (by decide +kernel) (pa_cons (pv 0) (pa_cons (pv 1) pa_nil))) (pg_tup rfl (pgs_cons (pg_name (i := 2) sc_written.nd rfl (Or.inl rfl)) (pgs_cons (pg_name (i := 3) sc_written.nd rfl (Or.inl rfl)) pgs_nil))))
      (pss_cons (ps_if (pt_cmpR op_eq (pv 3) pe_int (nomark _))
      (pss_one (ps_ret (pe_joined1 (pe_fmt (pv 2)))))
      pss_nil)
      (pss_cons (ps_if (pt_cmpR op_eq (pv 2) pe_int (nomark _))
      (pss_one (ps_ret (pe_joined (PJ.cons (pe_fmt (pv 3)) (PJ.cons pe_str (PJ.cons (pe_fmt (pv 1)) PJ.nil))))))
      pss_nil)
      (pss_one (ps_ret (pe_joined (PJ.cons (pe_fmt (pv 2)) (PJ.cons pe_str (PJ.cons (pe_fmt (pv 3)) (PJ.cons pe_str (PJ.cons (pe_fmt (pv 1)) PJ.nil))))))))))), ?_⟩
    refine ⟨_, rfl, _, rfl, a, u, rfl, hu, su.log (by decide) (by decide), fun p np => ?_⟩
    refine ⟨p, _, rfl, SqT.of upd_same, rfl, _, _, rfl, _, _, rfl, rfl, ?_⟩
    have sd := sa.ediv h0 hu
    have sm := su.emod (a := a) hu
    have l1 := iT_len sd
    have l2 := iT_len sm
    have l3 := iT_len su
    have l1' : (Str.ofString (toString (a / u))).length ≤ 1921 := l1
    have l2' : (Str.ofString (toString (a % u))).length ≤ 1921 := l2
    have l3' : (Str.ofString (toString u)).length ≤ 1921 := l3
    have e0 : Str.empty.length = 0 := rfl
    have e1 : (Str.ofString "/").length = 1 := rfl
    have e2 : (Str.ofString " ").length = 1 := rfl
    have k := k _ (same1 (u := .tup [.int (a / u), .int (a % u)]) np)
    unfold wTxt at k
    refine ⟨_, rfl, rfl, _, rfl, ?_⟩
    rw [dI]
    refine ite2 (fun e => ?_) (fun e => ?_)
    · rw [if_pos (of_decide_eq_true e)] at k
      exact ⟨_, rfl, .inr ⟨_, rfl, sd.log' (by decide) (by decide), k⟩⟩
    · rw [if_neg (fun z => e (decide_eq_true z))] at k
      refine ⟨_, rfl, rfl, _, rfl, ?_⟩
      rw [dI]
      refine ite2 (fun e => ?_) (fun e => ?_)
      · rw [if_pos (of_decide_eq_true e)] at k
        refine ⟨_, rfl, .inr ⟨_, rfl, sm.log' (by decide) (by decide), _, rfl, ?_, _, rfl, ?_, _, rfl, .inr ⟨_, rfl, su.log' (by decide) (by decide), _, rfl, ?_, k⟩⟩⟩
        all_goals (rw [sizeLine_eq]; simp only [Str.length_append]; omega)
      · rw [if_neg (fun z => e (decide_eq_true z))] at k
        refine ⟨_, rfl, .inr ⟨_, rfl, sd.log' (by decide) (by decide), _, rfl, ?_, _, rfl, ?_, _, rfl, .inr ⟨_, rfl, sm.log' (by decide) (by decide), _, rfl, ?_, _, rfl, ?_, _, rfl, .inr ⟨_, rfl, su.log' (by decide) (by decide), _, rfl, ?_, k⟩⟩⟩⟩
        all_goals (rw [sizeLine_eq]; simp only [Str.length_append]; omega)
theorem ok_Measure_str {P : Program} {w : World} {K : PySem.W.Frag} {mg : Str → Option Value} {base : Heap} {φ : Fds} (T : Txt K mg φ) : FnOk P w K mg base CX0 2 (He.fAd K ("Measure", some "__str__")) φ.Measure_str p_Measure_str (sp_mstr (He.ga K "Measure")) := by
  obtain ⟨_, B0v, B0⟩ := b_written_2 T
  refine T.f_Measure_str.ok sc_Measure_str (fun vs H Q E h => ?_) (fun cdv A outer s H vs Q E hr h => ?_)
  · obtain ⟨p, t, u, rfl, ⟨dx, hp⟩, hu, st, su, k⟩ := h; rfl
  · obtain ⟨p, t, u, rfl, ⟨dx, hp⟩, hu, st, su, k⟩ := h
    refine ⟨_, PSs.nox (pss_cons (ps_if (pt_cmpR op_lt (fldK (K := K) (pv 0) rfl) pe_int (nomark _))
      (pss_one (ps_ret (pe_joined (PJ.cons pe_str (PJ.cons (pe_fmt (pe_call (ok_written (K := K) T) (hr.mono (by decide)) rfl T.g_written T.f_written.kp B0 B0v pass0 (pa_cons (pe_un un_neg (fldK (K := K) (pv 0) rfl)) (pa_cons (fldK (K := K) (pv 0) rfl) pa_nil)))) PJ.nil)))))
      pss_nil)
      (pss_one (ps_ret (pe_joined1 (pe_fmt (pe_call (ok_written (K := K) T) (hr.mono (by decide)) rfl T.g_written T.f_written.kp B0 B0v pass0 (pa_cons (fldK (K := K) (pv 0) rfl) (pa_cons (fldK (K := K) (pv 0) rfl) pa_nil)))))))), ?_⟩
    refine ⟨_, rfl, _, _, _, _, _, rfl, hp, T.cl_Measure, T.na_Measure_top, mf_top _ _, _, _, rfl, rfl, _, rfl, ?_⟩
    have e1 : (Str.ofString "-").length = 1 := rfl
    have e0 : Str.empty.length = 0 := rfl
    refine ite2 (fun e => ?_) (fun e => ?_)
    · have e : t < 0 := of_decide_eq_true e
      have wl := wTxt_len st.neg su (by omega) hu
      refine ⟨_, rfl, ?_, _, rfl, _, _, _, _, _, rfl, hp, T.cl_Measure, T.na_Measure_top, mf_top _ _, _, rfl, _, rfl, _, _, _, _, _, rfl, hp, T.cl_Measure, T.na_Measure_bottom, mf_bottom _ _, _, _, rfl, by omega, hu, st.neg, su, fun H' s => .inl ⟨_, rfl, ?_, _, rfl, ?_, ?_⟩⟩
      · rw [sizeLine_eq]; simp only [Str.length_append]; omega
      · rw [sizeLine_eq]; omega
      · rw [sizeLine_eq]; simp only [Str.length_append]; omega
      · have k := k H' s
        unfold mTxt at k
        rw [if_pos e] at k
        exact k
    · have e : ¬ t < 0 := fun z => e (decide_eq_true z)
      have wl := wTxt_len st su (by omega) hu
      refine ⟨_, rfl, _, _, _, _, _, rfl, hp, T.cl_Measure, T.na_Measure_top, mf_top _ _, _, rfl, _, _, _, _, _, rfl, hp, T.cl_Measure, T.na_Measure_bottom, mf_bottom _ _, _, _, rfl, by omega, hu, st, su, fun H' s => .inl ⟨_, rfl, ?_, ?_⟩⟩
      · rw [sizeLine_eq]; omega
      · have k := k H' s
        unfold mTxt at k
        rw [if_neg e] at k
        exact k
theorem ok_l_part_bent {P : Program} {w : World} {K : PySem.W.Frag} {mg : Str → Option Value} {base : Heap} {φ : Fds} (T : Txt K mg φ) : FnOk P w K mg base CX0 6 (He.fAd K ("_law_part_bent", none)) φ.l_part_bent p_l_part_bent (sp_pbent K (He.ga K "Measure") (He.ga K "Stretch") (He.ga K "Ladder")) := by
  obtain ⟨_, B0v, B0⟩ := b_Measure_init_3 T
  obtain ⟨_, B1v, B1⟩ := b_l_pick_2 T
  obtain ⟨_, B2v, B2⟩ := b_Measure_str_1 T
  refine T.f_l_part_bent.ok sc_l_part_bent (fun vs H Q E h => ?_) (fun cdv A outer s H vs Q E hr h => ?_)
  · obtain ⟨h, n, v, k, d, rfl, hh, hn, sm, d0, d1, kk⟩ := h; rfl
  · obtain ⟨h, n, v, k, d, rfl, hh, hn, sm, d0, d1, kk⟩ := h
    refine ⟨_, PSs.nox (pss_cons (ps_if (pt_val (pe_callB (id := "isinstance") (isi (K := K)) (by rfl) T.z_isinstance (by decide +kernel) (pa_cons (pv 1) (pa_cons (pe_glob (v := .ref (He.ga K "Measure")) rfl T.g_Measure rfl) pa_nil))))
      (pss_cons (ps_set (i := 3) sc_l_part_bent.nd rfl (Or.inl rfl) (pe_make T.mk_Measure (ok_Measure_init (K := K) T) (hr.mono (by decide)) rfl T.g_Measure B0 B0v pass0 (pa_cons (pe_op op_add (pe_op op_mulA (fldK (K := K) (pv 1) rfl) (pv 2)) (pe_op op_mulA (pe_call (ok_l_pick (K := K) T) (hr.mono (by decide)) rfl T.g_l_pick T.f_l_pick.kp B1 B1v pass0 (pa_cons (pv 0) (pa_cons (pe_lst (pa_cons pe_int (pa_cons (pe_un un_neg pe_int) pa_nil))) pa_nil))) (fldK (K := K) (pv 1) rfl))) (pa_cons (pe_op op_mulA (fldK (K := K) (pv 1) rfl) (pv 2)) pa_nil))))
      (pss_one (ps_ret (pe_call (ok_l_pick (K := K) T) (hr.mono (by decide)) rfl T.g_l_pick T.f_l_pick.kp B1 B1v pass0 (pa_cons (pv 0) (pa_cons (pe_lst (pa_cons (pv 3) (pa_cons (pv 3) (pa_cons (pe_tup (pa_cons (fldK (K := K) (pv 1) rfl) (pa_cons (fldK (K := K) (pv 1) rfl) pa_nil))) (pa_cons (pe_callTy (T := "str") (call_strO (ok_Measure_str (K := K) T) T.me_Measure_str (bnil B2v B2) pass0 (hr.mono (by decide))) (by rfl) T.z_str (by decide +kernel) (pa_cons (pv 1) pa_nil)) (pa_cons (fldK (K := K) (pv 1) rfl) (pa_cons pe_non pa_nil))))))) pa_nil))))))
      pss_nil)
      (pss_cons (ps_if (pt_val (pe_callB (id := "isinstance") (isi (K := K)) (by rfl) T.z_isinstance (by decide +kernel) (pa_cons (pv 1) (pa_cons (pe_bltn (v := .ty "str") rfl T.z_str (by decide +kernel) rfl) pa_nil))))
      (pss_one (ps_ret (pe_call (ok_l_pick (K := K) T) (hr.mono (by decide)) rfl T.g_l_pick T.f_l_pick.kp B1 B1v pass0 (pa_cons (pv 0) (pa_cons (pe_lst (pa_cons pe_str (pa_cons pe_str (pa_cons pe_str (pa_cons pe_str (pa_cons (pe_op op_add_str (pv 1) pe_str) (pa_cons (pe_slice sl_str (pv 1) (po_some pe_int) po_none) (pa_cons (pe_tup (pa_cons (pv 1) pa_nil)) (pa_cons pe_non pa_nil))))))))) pa_nil)))))
      pss_nil)
      (pss_cons (ps_if (pt_cmpR op_isN (pv 1) pe_non (nomark _))
      (pss_one (ps_ret (pe_call (ok_l_pick (K := K) T) (hr.mono (by decide)) rfl T.g_l_pick T.f_l_pick.kp B1 B1v pass0 (pa_cons (pv 0) (pa_cons (pe_lst (pa_cons pe_int (pa_cons pe_bl (pa_cons pe_str (pa_cons (pe_tup pa_nil) (pa_cons (pe_un un_neg pe_int) pa_nil)))))) pa_nil)))))
      pss_nil)
      (pss_one (ps_ret (pe_call (ok_l_pick (K := K) T) (hr.mono (by decide)) rfl T.g_l_pick T.f_l_pick.kp B1 B1v pass0 (pa_cons (pv 0) (pa_cons (pe_lst (pa_cons (pe_op op_add (pv 1) pe_int) (pa_cons (pe_op op_sub (pv 1) pe_int) (pa_cons pe_non (pa_cons (pe_cmpR op_eq (pv 1) pe_int (nomark _)) (pa_cons (pe_callTy (T := "str") call_str_int (by rfl) T.z_str (by decide +kernel) (pa_cons (pv 1) pa_nil)) (pa_cons (pe_tup (pa_cons (pv 1) pa_nil)) pa_nil))))))) pa_nil)))))))), ?_⟩
    have cl_Measure := T.cl_Measure
    have na_Measure_top := T.na_Measure_top
    have na_Measure_bottom := T.na_Measure_bottom
    have cl_Ladder := T.cl_Ladder
    have na_Ladder_marks := T.na_Ladder_marks
    have na_Ladder_rule := T.na_Ladder_rule
    have na_Ladder_least := T.na_Ladder_least
    have na_Ladder_most := T.na_Ladder_most
    have cl_Stretch := T.cl_Stretch
    have na_Stretch_low := T.na_Stretch_low
    have na_Stretch_high := T.na_Stretch_high
    have na_Stretch_low_in := T.na_Stretch_low_in
    have na_Stretch_high_in := T.na_Stretch_high_in
    
    have hk := small_pk (kitsT T) sm
    obtain ⟨t1, y1, i1⟩ := hk.mea
    obtain ⟨t2, y2, i2⟩ := hk.str
    have a0 := hk.at_
    cases k with
    | meas z =>
      obtain ⟨p, rfl, qz⟩ := sm
      refine ⟨_, rfl, _, _, t1, _, true, rfl, .own _, y1, i1, _, rfl, iteT ?_⟩
      obtain ⟨t, u, ⟨dx, hM⟩, fr⟩ := id qz.ob
      have st : Sz 40 t := qz.s1.le fr.lt
      have su : Sz 40 u := qz.s2.le fr.lu
      have sd : Sz 40 d := (show d.natAbs < 2 ^ 40 by omega)
      refine ⟨_, rfl, p, _, dx, _, _, rfl, hM, cl_Measure, na_Measure_top, rfl, ?_⟩
      refine ⟨_, rfl, _, _, rfl, rfl, st.cmul sd (by decide) (by decide) (by decide), ?_⟩
      refine ⟨_, rfl, _, rfl, szl (Nat.le_of_ble_eq_true rfl), fun S nS => ?_⟩
      have hh1 := hh.up (u := .lst [.int 1, .int (-1)]) nS
      refine ⟨h, S, n, _, rfl, hh1, by omega, SqL.of upd_same, hh.ne nS, Nat.lt_of_lt_of_le (by decide) (Nat.le_of_ble_eq_true rfl : 2 ≤ 2), Nat.le_of_ble_eq_true rfl, fun i x H2 hx hh2 k2 => ?_⟩
      have k02 := ((Kp.refl h H).up (u := .lst [.int 1, .int (-1)]) nS).trans k2
      obtain ⟨g, rfl, hg⟩ : ∃ g : Int, x = .int g ∧ (g = 1 ∨ g = -1) := by
        have hm := List.mem_of_getElem? hx
        simp at hm
        rcases hm with rfl | rfl
        · exact ⟨_, rfl, .inl rfl⟩
        · exact ⟨_, rfl, .inr rfl⟩
      have sg : Sz 1 g := by rcases hg with rfl | rfl <;> decide
      have hM2 := k02.get hh hM rfl
      have qz2 := qz.kp hh k02
      have c1 : (0 : Int) < u * d := Int.mul_pos fr.pos d0
      refine ⟨_, rfl, p, _, dx, _, _, rfl, hM2, cl_Measure, na_Measure_bottom, rfl, _, _, rfl, rfl, sg.cmul su (by decide) (by decide) (by decide), _, _, rfl, rfl, ?_⟩
      refine ⟨_, rfl, p, _, dx, _, _, rfl, hM2, cl_Measure, na_Measure_bottom, rfl, _, rfl, _, _, rfl, rfl, su.cmul sd (by decide) (by decide) (by decide), ?_⟩
      refine q_made (k := 81) c1 (Sz.add (st.mul sd) ((sg.mul su).mono (by decide))) ((su.mul sd).mono (by decide)) (by decide) (by decide) fun q3 H3 s3 R3 => ?_
      have hM3 := s3 _ _ hM2
      have hh3 := hh2.same s3
      refine ⟨_, rfl, _, rfl, _, rfl, ?_⟩
      refine ⟨_, rfl, p, _, dx, _, _, rfl, hM3, cl_Measure, na_Measure_top, rfl, _, rfl, p, _, dx, _, _, rfl, hM3, cl_Measure, na_Measure_bottom, rfl, szl (Nat.le_of_ble_eq_true rfl), fun b1 nb1 => ?_⟩
      have s4 : Same H3 (upd H3 b1 (.tup [.int t, .int u])) := same1 nb1
      have e4 : upd H3 b1 (.tup [.int t, .int u]) b1 = some (.tup [.int t, .int u]) := upd_same
      generalize upd H3 b1 (.tup [.int t, .int u]) = H4 at s4 e4 ⊢
      have hM4 := s4 _ _ hM3
      refine ⟨_, rfl, _, rfl, p, dx, _, rfl, hM4, p, t, u, rfl, ⟨dx, hM4⟩, fr.pos, st.mono (by decide), su.mono (by decide), fun H5 s5 => ?_⟩
      have hM5 := s5 _ _ hM4
      refine ⟨_, rfl, _, rfl, p, _, dx, _, _, rfl, hM5, cl_Measure, na_Measure_top, rfl, szl (Nat.le_of_ble_eq_true rfl), fun S2 nS2 => ?_⟩
      have hh5 := hh3.same (s4.trans s5)
      refine ⟨h, S2, n + 1, _, rfl, hh5.up nS2, by omega, SqL.of upd_same, hh5.ne nS2, Nat.lt_of_lt_of_le (by decide) (Nat.le_of_ble_eq_true rfl : 6 ≤ 6), Nat.le_of_ble_eq_true rfl, fun i x HE hx hhE kE => ?_⟩
      have k5E := ((Kp.refl h H5).up nS2).trans kE
      refine kk x HE ?_ (hhE.mono (by omega)) ((k02.trans (Kp.same (s3.trans (s4.trans s5)))).trans k5E)
      have hm := List.mem_of_getElem? hx
      simp only [List.mem_cons, List.not_mem_nil, or_false] at hm
      have near : ThgAt (He.ga K "Measure") (He.ga K "Stretch") (He.ga K "Ladder") h HE (.ref q3) := .inr (.inl ⟨q3, 81, _, rfl, (R3.same (s4.trans s5)).kp hh5 k5E, by decide⟩)
      rcases hm with rfl | rfl | rfl | rfl | rfl | rfl
      · exact near
      · exact near
      · exact .inl (Thing.of_tup (k5E.get hh5 (s5 _ _ e4) rfl))
      · exact .inl (.inr (.inr (.inr (.inl ⟨_, rfl⟩))))
      · exact .inl (.inr (.inr (.inl ⟨_, rfl⟩)))
      · exact .inl (.inl rfl)
    | str s =>
      cases (show v = V.str s from a0)
      refine ⟨_, rfl, _, _, t1, _, false, rfl, .own _, y1, i1, _, rfl, iteF ?_⟩
      refine ⟨_, rfl, _, _, t2, _, true, rfl, .ty _, y2, i2, _, rfl, iteT ?_⟩
      have ls : s.length ≤ 10 := by rcases sm.2 with rfl | rfl | rfl | rfl <;> decide
      refine ⟨_, rfl, _, rfl, _, _, rfl, rfl, szl (by show s.length + 1 ≤ 1000; omega), ?_⟩
      refine ⟨_, rfl, _, rfl, s, rfl, szl (by omega), _, rfl, szl (Nat.le_of_ble_eq_true rfl), fun b1 nb1 => ?_⟩
      have s1 : Same H (upd H b1 (.tup [.str s])) := same1 nb1
      have e1 : upd H b1 (.tup [.str s]) b1 = some (.tup [.str s]) := upd_same
      have hh1 := hh.same s1
      generalize upd H b1 (.tup [.str s]) = H1 at s1 e1 hh1 ⊢
      refine ⟨szl (Nat.le_of_ble_eq_true rfl), fun S nS => ?_⟩
      refine ⟨h, S, n, _, rfl, hh1.up nS, by omega, SqL.of upd_same, hh1.ne nS, Nat.lt_of_lt_of_le (by decide) (Nat.le_of_ble_eq_true rfl : 8 ≤ 8), Nat.le_of_ble_eq_true rfl, fun i x HE hx hhE kE => ?_⟩
      have k1E := ((Kp.refl h H1).up nS).trans kE
      refine kk x HE ?_ (hhE.mono (by omega)) ((Kp.same s1).trans k1E)
      have hm := List.mem_of_getElem? hx
      simp only [List.mem_cons, List.not_mem_nil, or_false] at hm
      rcases hm with rfl | rfl | rfl | rfl | rfl | rfl | rfl | rfl
      · exact .inl (.inr (.inr (.inr (.inl ⟨_, rfl⟩))))
      · exact .inl (.inr (.inr (.inr (.inl ⟨_, rfl⟩))))
      · exact .inl (.inr (.inr (.inr (.inl ⟨_, rfl⟩))))
      · exact .inl (.inr (.inr (.inr (.inl ⟨_, rfl⟩))))
      · exact .inl (.inr (.inr (.inr (.inl ⟨_, rfl⟩))))
      · exact .inl (.inr (.inr (.inr (.inl ⟨_, rfl⟩))))
      · exact .inl (Thing.of_tup (k1E.get hh1 e1 rfl))
      · exact .inl (.inl rfl)
    | non =>
      cases (show v = V.non from a0)
      refine ⟨_, rfl, _, _, t1, _, false, rfl, .own _, y1, i1, _, rfl, iteF ?_⟩
      refine ⟨_, rfl, _, _, t2, _, false, rfl, .ty _, y2, i2, _, rfl, iteF ?_⟩
      refine ⟨_, rfl, rfl, _, rfl, iteDT rfl ?_⟩
      refine ⟨_, rfl, szl (Nat.le_of_ble_eq_true rfl), fun b1 nb1 => ?_⟩
      have s1 : Same H (upd H b1 (.tup [])) := same1 nb1
      have e1 : upd H b1 (.tup []) b1 = some (.tup []) := upd_same
      have hh1 := hh.same s1
      generalize upd H b1 (.tup []) = H1 at s1 e1 hh1 ⊢
      refine ⟨_, rfl, szl (Nat.le_of_ble_eq_true rfl), fun S nS => ?_⟩
      refine ⟨h, S, n, _, rfl, hh1.up nS, by omega, SqL.of upd_same, hh1.ne nS, Nat.lt_of_lt_of_le (by decide) (Nat.le_of_ble_eq_true rfl : 5 ≤ 5), Nat.le_of_ble_eq_true rfl, fun i x HE hx hhE kE => ?_⟩
      have k1E := ((Kp.refl h H1).up (u := .lst [.int 0, .bl false, .str "None", .ref b1, .int (-1)]) nS).trans kE
      refine kk x HE ?_ (hhE.mono (by omega)) ((Kp.same s1).trans k1E)
      have hm := List.mem_of_getElem? hx
      simp only [List.mem_cons, List.not_mem_nil, or_false] at hm
      rcases hm with rfl | rfl | rfl | rfl | rfl
      · exact .inl (.inr (.inr (.inl ⟨_, rfl⟩)))
      · exact .inl (.inr (.inl ⟨_, rfl⟩))
      · exact .inl (.inr (.inr (.inr (.inl ⟨_, rfl⟩))))
      · exact .inl (Thing.of_tup (k1E.get hh1 e1 rfl))
      · exact .inl (.inr (.inr (.inl ⟨_, rfl⟩)))
    | int z =>
      cases (show v = V.int z from a0)
      refine ⟨_, rfl, _, _, t1, _, false, rfl, .own _, y1, i1, _, rfl, iteF ?_⟩
      refine ⟨_, rfl, _, _, t2, _, false, rfl, .ty _, y2, i2, _, rfl, iteF ?_⟩
      refine ⟨_, rfl, rfl, _, rfl, iteDF (fun e => by cases e) ?_⟩
      refine ⟨_, rfl, _, rfl, _, _, rfl, rfl, _, rfl, _, _, rfl, rfl, _, rfl, rfl, _, rfl, z, rfl, ?_, _, rfl, szl (Nat.le_of_ble_eq_true rfl), fun b1 nb1 => ?_⟩
      · exact logN (by have := sm.2.1; have := sm.2.2; omega)
      have s1 : Same H (upd H b1 (.tup [.int z])) := same1 nb1
      have e1 : upd H b1 (.tup [.int z]) b1 = some (.tup [.int z]) := upd_same
      have hh1 := hh.same s1
      generalize upd H b1 (.tup [.int z]) = H1 at s1 e1 hh1 ⊢
      refine ⟨szl (Nat.le_of_ble_eq_true rfl), fun S nS => ?_⟩
      refine ⟨h, S, n, _, rfl, hh1.up nS, by omega, SqL.of upd_same, hh1.ne nS, Nat.lt_of_lt_of_le (by decide) (Nat.le_of_ble_eq_true rfl : 6 ≤ 6), Nat.le_of_ble_eq_true rfl, fun i x HE hx hhE kE => ?_⟩
      have k1E := ((Kp.refl h H1).up nS).trans kE
      refine kk x HE ?_ (hhE.mono (by omega)) ((Kp.same s1).trans k1E)
      have hm := List.mem_of_getElem? hx
      simp only [List.mem_cons, List.not_mem_nil, or_false] at hm
      rcases hm with rfl | rfl | rfl | rfl | rfl | rfl
      · exact .inl (.inr (.inr (.inl ⟨_, rfl⟩)))
      · exact .inl (.inr (.inr (.inl ⟨_, rfl⟩)))
      · exact .inl (.inl rfl)
      · exact .inl (.inr (.inl ⟨_, rfl⟩))
      · exact .inl (.inr (.inr (.inr (.inl ⟨_, rfl⟩))))
      · exact .inl (Thing.of_tup (k1E.get hh1 e1 rfl))
    | _ => exact sm.elim
theorem ok_l_bent {P : Program} {w : World} {K : PySem.W.Frag} {mg : Str → Option Value} {base : Heap} {φ : Fds} (T : Txt K mg φ) : FnOk P w K mg base CX0 7 (He.fAd K ("_law_bent", none)) φ.l_bent p_l_bent (sp_bent40 K (He.ga K "Measure") (He.ga K "Stretch") (He.ga K "Ladder")) := by
  obtain ⟨_, B0v, B0⟩ := b_l_take_2 T
  obtain ⟨_, B1v, B1⟩ := b_l_part_bent_3 T
  obtain ⟨_, B2v, B2⟩ := b_l_any_1 T
  refine T.f_l_bent.ok sc_l_bent (fun vs H Q E h => ?_) (fun cdv A outer s H vs Q E hr h => ?_)
  · obtain ⟨h, n, T1, ys, ds, d, rfl, hh, hn, hT, l0, l5, ld, sm, d0, d1, kk⟩ := h; rfl
  · obtain ⟨h, n, T1, ys, ds, d, rfl, hh, hn, hT, l0, l5, ld, sm, d0, d1, kk⟩ := h
    refine ⟨_, PSs.nox (pss_cons (ps_par (i := 3) (j := 4) rfl sc_l_bent.nd rfl rfl (by decide) rfl rfl (pa_cons (pe_call (ok_l_take (K := K) T) (hr.mono (by decide)) rfl T.g_l_take T.f_l_take.kp B0 B0v pass0 (pa_cons (pv 0) (pa_cons (pe_callB (id := "len") (lenS (K := K)) (by rfl) T.z_len PySem.boot_len (pa_cons (pv 1) pa_nil)) pa_nil))) (pa_cons (pe_call (ok_l_take (K := K) T) (hr.mono (by decide)) rfl T.g_l_take T.f_l_take.kp B0 B0v pass0 (pa_cons (pv 0) (pa_cons pe_int pa_nil))) pa_nil)) (by rfl))
      (pss_cons (ps_if (pt_cmpR op_lt (pv 4) pe_int (nomark _))
      (pss_one (ps_ret (pe_op catH (pe_op catH (pe_slice slH (pv 1) po_none (po_some (pv 3))) (pe_tup (pa_cons (pe_call (ok_l_part_bent (K := K) T) (hr.mono (by decide)) rfl T.g_l_part_bent T.f_l_part_bent.kp B1 B1v pass0 (pa_cons (pv 0) (pa_cons (pe_ix (ixt (K := K)) (pv 1) (pv 3) (fun _ _ => rfl)) (pa_cons (pv 2) pa_nil)))) pa_nil))) (pe_slice slH (pv 1) (po_some (pe_op op_add (pv 3) pe_int)) po_none))))
      pss_nil)
      (pss_cons (ps_cut (ps_set (i := 5) sc_l_bent.nd rfl (Or.inl rfl) (pe_lst (pa_cons (pe_op catH (pe_slice slH (pv 1) po_none (po_some (pv 3))) (pe_slice slH (pv 1) (po_some (pe_op op_add (pv 3) pe_int)) po_none)) (pa_cons (pe_op catH (pe_slice slH (pv 1) po_none (po_some (pe_op op_add (pv 3) pe_int))) (pe_slice slH (pv 1) (po_some (pv 3)) po_none)) (pa_cons (pe_op catH (pe_op catH (pe_slice slH (pv 1) po_none (po_some (pv 3))) (pe_tup (pa_cons (pe_call (ok_l_any (K := K) T) (hr.mono (by decide)) rfl T.g_l_any T.f_l_any.kp B2 B2v pass0 (pa_cons (pv 0) pa_nil)) pa_nil))) (pe_slice slH (pv 1) (po_some (pv 3)) po_none)) pa_nil))))))
      (pss_cons (ps_cut (ps_set (i := 5) sc_l_bent.nd rfl (Or.inl rfl) (pe_op op_cat (pv 5) (pe_lst (pa_cons (pe_callTy (T := "list") (listOf (K := K)) (by rfl) T.z_list (by decide +kernel) (pa_cons (pv 1) pa_nil)) (pa_cons (pe_op catH (pe_op catH (pe_slice slH (pv 1) po_none (po_some (pv 3))) (pe_revT (K := K) (pe_slice slH (pv 1) (po_some (pv 3)) (po_some (pe_op op_add (pv 3) pe_int))))) (pe_slice slH (pv 1) (po_some (pe_op op_add (pv 3) pe_int)) po_none)) pa_nil))))))
      (pss_one (ps_ret (pe_ix (ixl (K := K)) (pv 5) (pe_op op_sub (pv 4) pe_int) (fun _ _ => rfl)))))))), ?_⟩
    have cl_Measure := T.cl_Measure
    have na_Measure_top := T.na_Measure_top
    have na_Measure_bottom := T.na_Measure_bottom
    have cl_Ladder := T.cl_Ladder
    have na_Ladder_marks := T.na_Ladder_marks
    have na_Ladder_rule := T.na_Ladder_rule
    have na_Ladder_least := T.na_Ladder_least
    have na_Ladder_most := T.na_Ladder_most
    have cl_Stretch := T.cl_Stretch
    have na_Stretch_low := T.na_Stretch_low
    have na_Stretch_high := T.na_Stretch_high
    have na_Stretch_low_in := T.na_Stretch_low_in
    have na_Stretch_high_in := T.na_Stretch_high_in
    
    walk_at "w"
    intro at_ H1 at0 at1 hh1 k1
    obtain ⟨an, rfl⟩ := Int.eq_ofNat_of_zero_le at0
    refine ⟨_, rfl, h, _, 9, rfl, hh1, by omega, by decide, logS (by omega), fun kd H2 kd0 kd1 hh2 k2 => ?_⟩
    refine ⟨_, _, rfl, ?_⟩
    have k02 := k1.trans k2
    have hT2 := k02.get hh hT rfl
    have sm2 : ∀ (i : Nat) (y : V) (k : PK), ys[i]? = some y → ds[i]? = some k → Small (He.ga K "Measure") H2 y k := fun i y k a b => (sm i y k a b).kp hh k02
    have an5 : an < ys.length := by omega
    have hy : ys[an]? = some ys[an] := List.getElem?_eq_getElem an5
    have hk : ds[an]? = some ds[an] := List.getElem?_eq_getElem (by omega)
    have hat : atI ys (an : Int) = some ys[an] := atI_nat hy
    have tY : ∀ y ∈ ys, ThgAt (He.ga K "Measure") (He.ga K "Stretch") (He.ga K "Ladder") h H2 y := fun y m => by
      obtain ⟨i, hi⟩ := List.mem_iff_getElem?.mp m
      have li := (List.getElem?_eq_some_iff.mp hi).1
      exact small_thg (sm2 i y ds[i] hi (List.getElem?_eq_getElem (by omega)))
    have cl : ∀ lo hi, (cutV ys lo hi).length ≤ 5 := fun lo hi => Nat.le_trans (cutV_length ys lo hi) l5
    clear hT sm hh hh1 k1 k2
    refine ⟨_, rfl, _, _, rfl, rfl, _, rfl, ?_⟩
    refine ite2 (fun e => ?_) (fun e => ?_)
    · refine ⟨_, rfl, _, rfl, _, rfl, T1, ys, rfl, hT2, fun p1 H3 s3 h3 => ?_⟩
      refine ⟨_, rfl, _, rfl, _, rfl, T1, _, _, _, rfl, rfl, SqT.of (s3 _ _ hT2), hat, _, rfl, h, _, _, _, d, rfl, hh2.same s3, by omega, (sm2 an _ _ hy hk).same s3, d0, d1, fun w H4 tw hh4 k4 => ?_⟩
      have h34 := k4.get (hh2.same s3) h3 rfl
      refine ⟨szl (Nat.le_of_ble_eq_true rfl), fun p2 np2 => ?_⟩
      have s4 : Same H4 (upd H4 p2 (.tup [w])) := same1 np2
      have e4 : upd H4 p2 (.tup [w]) p2 = some (.tup [w]) := upd_same
      generalize upd H4 p2 (.tup [w]) = H5 at s4 e4 ⊢
      refine ⟨p1, p2, _, _, rfl, rfl, s4 _ _ h34, e4, szl (by have := cutV_length ys none (some (an : Int)); show _ + 1 ≤ 1000; omega), fun p3 H6 s6 h6 => ?_⟩
      have k26 : Kp h H2 H6 := ((Kp.same s3).trans k4).trans (Kp.same (s4.trans s6))
      have hT6 := k26.get hh2 hT2 rfl
      refine ⟨_, rfl, _, rfl, _, _, rfl, rfl, _, rfl, T1, ys, rfl, hT6, fun p4 H7 s7 h7 => ?_⟩
      have c1 := cutV_length ys none (some (an : Int))
      have c2 := cutV_length ys (some ((an : Int) + 1)) none
      refine ⟨p3, p4, _, _, rfl, rfl, s7 _ _ h6, h7, szl (by rw [List.length_append]; show _ + 1 + _ ≤ 1000; omega), fun p5 H8 s8 h8 => ?_⟩
      have s48 := (s4.trans s6).trans (s7.trans s8)
      have k28 := k26.trans (Kp.same (s7.trans s8))
      refine kk (.ref p5) H8 (.inl ⟨p5, _, rfl, h8, by rw [List.length_append, List.length_append]; show _ + 1 + _ ≤ 900; omega, fun x hx => ?_⟩) ((hh4.same s48).mono (by omega)) (k02.trans k28)
      rcases List.mem_append.mp hx with hx | hx
      · rcases List.mem_append.mp hx with hx | hx
        · exact (tY x (cutV_mem hx)).kp hh2 k28
        · rw [List.mem_singleton.mp hx]
          exact tw.same s48
      · exact (tY x (cutV_mem hx)).kp hh2 k28
    have kd4 : 4 ≤ kd := Int.le_of_not_gt fun g => e (decide_eq_true g)
    refine ⟨fun σ' H' => ∃ (S q1 q2 q3 : Addr) (z1 z2 z3 : List V), σ' = [some (.ref h), some (.ref T1), some (.int d), some (.int (an : Int)), some (.int kd), some (.ref S)] ∧ HandAt H' h (n + 50) ∧ Kp h H2 H' ∧ H' S = some (.lst [.ref q1, .ref q2, .ref q3]) ∧ H' q1 = some (.tup z1) ∧ H' q2 = some (.tup z2) ∧ H' q3 = some (.tup z3) ∧ z1.length ≤ 20 ∧ z2.length ≤ 20 ∧ z3.length ≤ 20 ∧ (∀ x ∈ z1, ThgAt (He.ga K "Measure") (He.ga K "Stretch") (He.ga K "Ladder") h H' x) ∧ (∀ x ∈ z2, ThgAt (He.ga K "Measure") (He.ga K "Stretch") (He.ga K "Ladder") h H' x) ∧ ∀ x ∈ z3, ThgAt (He.ga K "Measure") (He.ga K "Stretch") (He.ga K "Ladder") h H' x, ?_, ?_⟩
    · refine ⟨_, rfl, _, rfl, _, rfl, T1, ys, rfl, hT2, fun p1 H3 s3 h3 => ?_⟩
      refine ⟨_, rfl, _, rfl, _, _, rfl, rfl, _, rfl, T1, ys, rfl, s3 _ _ hT2, fun p2 H4 s4 h4 => ?_⟩
      have c1 := cl none (some (an : Int))
      have c2 := cl (some ((an : Int) + 1)) none
      have c3 := cl none (some ((an : Int) + 1))
      have c4 := cl (some (an : Int)) none
      refine ⟨p1, p2, _, _, rfl, rfl, s4 _ _ h3, h4, szl (by omega), fun q1 H5 s5 h5 => ?_⟩
      have s25 := (s3.trans s4).trans s5
      refine ⟨_, rfl, _, rfl, _, _, rfl, rfl, _, rfl, T1, ys, rfl, s25 _ _ hT2, fun p3 H6 s6 h6 => ?_⟩
      refine ⟨_, rfl, _, rfl, _, rfl, T1, ys, rfl, (s25.trans s6) _ _ hT2, fun p4 H7 s7 h7 => ?_⟩
      refine ⟨p3, p4, _, _, rfl, rfl, s7 _ _ h6, h7, szl (by omega), fun q2 H8 s8 h8 => ?_⟩
      have s28 := ((s25.trans s6).trans s7).trans s8
      refine ⟨_, rfl, _, rfl, _, rfl, T1, ys, rfl, s28 _ _ hT2, fun p5 H9 s9 h9 => ?_⟩
      have s29 := s28.trans s9
      refine ⟨_, rfl, h, _, rfl, hh2.same s29, by omega, fun w HA tw hhA kA => ?_⟩
      refine ⟨szl (Nat.le_of_ble_eq_true rfl), fun p6 np6 => ?_⟩
      have sB : Same HA (upd HA p6 (.tup [w])) := same1 np6
      have eB : upd HA p6 (.tup [w]) p6 = some (.tup [w]) := upd_same
      generalize upd HA p6 (.tup [w]) = HB at sB eB ⊢
      have hh9 := hh2.same s29
      refine ⟨p5, p6, _, _, rfl, rfl, sB _ _ (kA.get hh9 h9 rfl), eB, szl (by show _ + 1 ≤ 1000; omega), fun p7 HC sC hC => ?_⟩
      have k2C : Kp h H2 HC := ((Kp.same s29).trans kA).trans (Kp.same (sB.trans sC))
      refine ⟨_, rfl, _, rfl, _, rfl, T1, ys, rfl, k2C.get hh2 hT2 rfl, fun p8 HD sD hD => ?_⟩
      refine ⟨p7, p8, _, _, rfl, rfl, sD _ _ hC, hD, szl (by rw [List.length_append]; show _ + 1 + _ ≤ 1000; omega), fun q3 HE sE hE => ?_⟩
      refine ⟨szl (Nat.le_of_ble_eq_true rfl), fun S nS => ?_⟩
      have sAE := (sB.trans sC).trans ((sD.trans sE).up (u := .lst [.ref q1, .ref q2, .ref q3]) nS)
      have k9E : Kp h H9 _ := kA.trans (Kp.same sAE)
      have k2E : Kp h H2 _ := (Kp.same s29).trans k9E
      have tE : ∀ y ∈ ys, ThgAt (He.ga K "Measure") (He.ga K "Stretch") (He.ga K "Ladder") h _ y := fun y m => (tY y m).kp hh2 k2E
      refine ⟨S, q1, q2, q3, _, _, _, rfl, (hhA.same sAE).mono (by omega), k2E, upd_same, k9E.get hh9 ((s6.trans (s7.trans (s8.trans s9))) _ _ h5) rfl, k9E.get hh9 (s9 _ _ h8) rfl, up1 nS hE, ?_, ?_, ?_, fun x hx => ?_, fun x hx => ?_, fun x hx => ?_⟩
      · rw [List.length_append]; omega
      · rw [List.length_append]; omega
      · rw [List.length_append, List.length_append]; show _ + 1 + _ ≤ 20; omega
      · rcases List.mem_append.mp hx with hx | hx <;> exact tE x (cutV_mem hx)
      · rcases List.mem_append.mp hx with hx | hx <;> exact tE x (cutV_mem hx)
      · rcases List.mem_append.mp hx with hx | hx
        · rcases List.mem_append.mp hx with hx | hx
          · exact tE x (cutV_mem hx)
          · rw [List.mem_singleton.mp hx]
            exact tw.thg.same sAE
        · exact tE x (cutV_mem hx)
    rintro σ' H3 ⟨S, q1, q2, q3, z1, z2, z3, rfl, hh3, k3, hS, h1, h2, h3, l1, l2, l3, t1, t2, t3⟩
    refine ⟨fun σ' H' => ∃ (S q4 q5 : Addr) (ws z5 : List V), σ' = [some (.ref h), some (.ref T1), some (.int d), some (.int (an : Int)), some (.int kd), some (.ref S)] ∧ Same H3 H' ∧ H' S = some (.lst [.ref q1, .ref q2, .ref q3, .ref q4, .ref q5]) ∧ H' q4 = some (.lst ws) ∧ q4 ≠ h ∧ H' q5 = some (.tup z5) ∧ z5.length ≤ 20 ∧ ∀ x ∈ z5, ThgAt (He.ga K "Measure") (He.ga K "Stretch") (He.ga K "Ladder") h H' x, ?_, ?_⟩
    · have hT3 := k3.get hh2 hT2 rfl
      refine ⟨_, rfl, _, rfl, T1, ys, rfl, .inr (SqT.of hT3), fun q4 nq4 => ?_⟩
      have n4 : q4 ≠ h := hh3.ne nq4
      have s4 : Same H3 (upd H3 q4 (.lst ys)) := same1 nq4
      have e4 : upd H3 q4 (.lst ys) q4 = some (.lst ys) := upd_same
      generalize upd H3 q4 (.lst ys) = H4 at s4 e4 ⊢
      have c1 := cl none (some (an : Int))
      have c2 := cl (some (an : Int)) (some ((an : Int) + 2))
      have c3 := cl (some ((an : Int) + 2)) none
      refine ⟨_, rfl, _, rfl, _, rfl, T1, ys, rfl, s4 _ _ hT3, fun p1 H5 s5 h5 => ?_⟩
      refine ⟨_, rfl, _, rfl, _, rfl, _, rfl, _, _, rfl, rfl, _, rfl, T1, ys, rfl, (s4.trans s5) _ _ hT3, fun p2 H6 s6 h6 => ?_⟩
      refine ⟨p2, _, rfl, SqT.of h6, fun p3 np3 => ?_⟩
      have s7 : Same H6 (upd H6 p3 (.tup (cutV ys (some (an : Int)) (some ((an : Int) + 2))).reverse)) := same1 np3
      have e7 : upd H6 p3 (.tup (cutV ys (some (an : Int)) (some ((an : Int) + 2))).reverse) p3 = some (.tup (cutV ys (some (an : Int)) (some ((an : Int) + 2))).reverse) := upd_same
      generalize upd H6 p3 (.tup (cutV ys (some (an : Int)) (some ((an : Int) + 2))).reverse) = H7 at s7 e7 ⊢
      refine ⟨p1, p3, _, _, rfl, rfl, s7 _ _ (s6 _ _ h5), e7, szl (by rw [List.length_reverse]; omega), fun p4 H8 s8 h8 => ?_⟩
      have s38 := (((s4.trans s5).trans s6).trans s7).trans s8
      refine ⟨_, rfl, _, rfl, _, _, rfl, rfl, _, rfl, T1, ys, rfl, s38 _ _ hT3, fun p5 H9 s9 h9 => ?_⟩
      refine ⟨p4, p5, _, _, rfl, rfl, s9 _ _ h8, h9, szl (by rw [List.length_append, List.length_reverse]; omega), fun q5 HA sA hA => ?_⟩
      refine ⟨szl (Nat.le_of_ble_eq_true rfl), fun L nL => ?_⟩
      have s3A := (s38.trans s9).trans sA
      refine ⟨S, L, _, _, rfl, rfl, up1 nL (s3A _ _ hS), upd_same, szl (Nat.le_of_ble_eq_true rfl), fun S2 nS2 => ?_⟩
      have s3E := (s3A.up (u := .lst [.ref q4, .ref q5]) nL).up (u := .lst ([.ref q1, .ref q2, .ref q3] ++ [.ref q4, .ref q5])) nS2
      have tE : ∀ y ∈ ys, ThgAt (He.ga K "Measure") (He.ga K "Stretch") (He.ga K "Ladder") h _ y := fun y m => ((tY y m).kp hh2 k3).same s3E
      refine ⟨S2, q4, q5, ys, _, rfl, s3E, upd_same, up1 nS2 (up1 nL ((((((s5.trans s6).trans s7).trans s8).trans s9).trans sA) _ _ e4)), n4, up1 nS2 (up1 nL hA), ?_, fun x hx => ?_⟩
      · rw [List.length_append, List.length_append, List.length_reverse]; omega
      · rcases List.mem_append.mp hx with hx | hx
        · rcases List.mem_append.mp hx with hx | hx
          · exact tE x (cutV_mem hx)
          · exact tE x (cutV_mem (List.mem_reverse.mp hx))
        · exact tE x (cutV_mem hx)
    rintro σ' H4 ⟨S2, q4, q5, ws, z5, rfl, s4, hS2, h4, n4, h5, l5', t5⟩
    have kE : Kp h H2 H4 := k3.trans (Kp.same s4)
    have fin : ∀ v, TopAt (He.ga K "Measure") (He.ga K "Stretch") (He.ga K "Ladder") h H4 v → Q v H4 := fun v t => kk v H4 t ((hh3.same s4).mono (by omega)) (k02.trans kE)
    obtain ⟨v, hv, tv⟩ : ∃ v, atI [V.ref q1, V.ref q2, V.ref q3, V.ref q4, V.ref q5] (kd - 4) = some v ∧ TopAt (He.ga K "Measure") (He.ga K "Stretch") (He.ga K "Ladder") h H4 v := by
      have : kd = 4 ∨ kd = 5 ∨ kd = 6 ∨ kd = 7 ∨ kd = 8 := by omega
      rcases this with rfl | rfl | rfl | rfl | rfl
      · exact ⟨_, rfl, .inl ⟨q1, z1, rfl, s4 _ _ h1, by omega, fun x hx => (t1 x hx).same s4⟩⟩
      · exact ⟨_, rfl, .inl ⟨q2, z2, rfl, s4 _ _ h2, by omega, fun x hx => (t2 x hx).same s4⟩⟩
      · exact ⟨_, rfl, .inl ⟨q3, z3, rfl, s4 _ _ h3, by omega, fun x hx => (t3 x hx).same s4⟩⟩
      · exact ⟨_, rfl, .inr (.inr (.inr (.inr (.inr (.inl ⟨q4, ws, rfl, n4, h4⟩)))))⟩
      · exact ⟨_, rfl, .inl ⟨q5, z5, rfl, h5, by omega, t5⟩⟩
    refine ⟨_, rfl, _, rfl, _, _, rfl, rfl, S2, _, _, _, rfl, rfl, SqL.of hS2, hv, fin v tv⟩
theorem ok_l_right {P : Program} {w : World} {K : PySem.W.Frag} {mg : Str → Option Value} {base : Heap} {φ : Fds} (T : Txt K mg φ) : FnOk P w K mg base CX0 11 (He.fAd K ("_law_right", none)) φ.l_right p_l_right (sp_right40 K (He.ga K "Measure") (He.ga K "Ladder")) := by
  obtain ⟨_, B0v, B0⟩ := b_shows_parting_6 T
  obtain ⟨_, B1v, B1⟩ := b_l_bent_3 T
  obtain ⟨_, B2v, B2⟩ := b_l_any_1 T
  obtain ⟨_, B3v, B3⟩ := b_l_same_2 T
  refine T.f_l_right.ok sc_l_right (fun vs H Q E h => ?_) (fun cdv A outer s H vs Q E hr h => ?_)
  · obtain ⟨h, p, q, T1, a, b, U, n, sh, d, zs, zt, r, rt, lo, hi, lt, ht, x, y, u, ys, ds, rfl, hh, hn, hp, hq, hT, qa, qb, du, ps, d0, d1, kk⟩ := h; rfl
  · obtain ⟨h, p, q, T1, a, b, U, n, sh, d, zs, zt, r, rt, lo, hi, lt, ht, x, y, u, ys, ds, rfl, hh, hn, hp, hq, hT, qa, qb, du, ps, d0, d1, kk⟩ := h
    refine ⟨_, PSs.nox (pss_cons (ps_if (pt_cmpR op_notBl (pe_call (ok_shows_parting (K := K) T) (hr.mono (by decide)) rfl T.g_shows_parting T.f_shows_parting.kp B0 B0v pass0 (pa_cons (pv 1) (pa_cons (pv 2) (pa_cons (pe_ix (ixt (K := K)) (pv 3) pe_int (fun _ _ => rfl)) (pa_cons (pe_ix (ixt (K := K)) (pv 3) pe_int (fun _ _ => rfl)) (pa_cons (pv 4) (pa_cons (pv 5) pa_nil))))))) pe_bl (nomark _))
      (pss_one (ps_ret pe_bl))
      pss_nil)
      (pss_cons (ps_for PassesOwn.never rfl (pi_range1 rfl T.z_range (pa_cons pe_int pa_nil)) (pg_name (i := 7) sc_l_right.nd rfl (Or.inl rfl))
      (pss_cons (ps_cut (ps_set (i := 8) sc_l_right.nd rfl (Or.inl rfl) (pe_call (ok_l_bent (K := K) T) (hr.mono (by decide)) rfl T.g_l_bent T.f_l_bent.kp B1 B1v pass0 (pa_cons (pv 0) (pa_cons (pv 5) (pa_cons (pv 6) pa_nil))))))
      (pss_cons (ps_cut (ps_if (pt_cmpR op_gt (pv 7) pe_int (nomark _))
      (pss_one (ps_set (i := 8) sc_l_right.nd rfl (Or.inl rfl) (pe_call (ok_l_any (K := K) T) (hr.mono (by decide)) rfl T.g_l_any T.f_l_any.kp B2 B2v pass0 (pa_cons (pv 0) pa_nil))))
      pss_nil))
      (pss_cons (ps_cut (ps_if (pt_cmpR op_eq (pv 7) pe_int (nomark _))
      (pss_one (ps_set (i := 8) sc_l_right.nd rfl (Or.inl rfl) (pe_ifExp (pt_cmpR op_eq (pe_callB (id := "len") (lenS (K := K)) (by rfl) T.z_len PySem.boot_len (pa_cons (pv 5) pa_nil)) pe_int (nomark _)) (pe_tup (pa_cons pe_str (pa_cons (pe_ix (ixt (K := K)) (pv 3) pe_int (fun _ _ => rfl)) (pa_cons pe_str (pa_cons pe_non (pa_cons pe_non pa_nil)))))) (pe_tup (pa_cons pe_str pa_nil)))))
      pss_nil))
      (pss_cons (ps_cut (ps_set (i := 9) sc_l_right.nd rfl (Or.inl rfl) (pe_call (ok_shows_parting (K := K) T) (hr.mono (by decide)) rfl T.g_shows_parting T.f_shows_parting.kp B0 B0v pass0 (pa_cons (pv 1) (pa_cons (pv 2) (pa_cons (pe_ix (ixt (K := K)) (pv 3) pe_int (fun _ _ => rfl)) (pa_cons (pe_ix (ixt (K := K)) (pv 3) pe_int (fun _ _ => rfl)) (pa_cons (pv 4) (pa_cons (pv 8) pa_nil)))))))))
      (pss_one (ps_if (PW.pt (pw_or (pt_not (pt_val (pe_callB (id := "isinstance") (isi (K := K)) (by rfl) T.z_isinstance (by decide +kernel) (pa_cons (pv 9) (pa_cons (pe_bltn (v := .ty "bool") rfl T.z_bool (by decide +kernel) rfl) pa_nil))))) (pw_or1 (pt_cmpR op_ne (pv 9) (pe_call (ok_l_same (K := K) T) (hr.mono (by decide)) rfl T.g_l_same T.f_l_same.kp B3 B3v pass0 (pa_cons (pv 8) (pa_cons (pv 5) pa_nil))) (nomark _)))))
      (pss_one (ps_ret pe_bl))
      pss_nil)))))))
      (pss_one (ps_ret (pe_cmpR op_isBl (pe_call (ok_shows_parting (K := K) T) (hr.mono (by decide)) rfl T.g_shows_parting T.f_shows_parting.kp B0 B0v pass0 (pa_cons (pv 1) (pa_cons (pv 2) (pa_cons (pe_ix (ixt (K := K)) (pv 3) pe_int (fun _ _ => rfl)) (pa_cons (pe_ix (ixt (K := K)) (pv 3) pe_int (fun _ _ => rfl)) (pa_cons (pv 4) (pa_cons (pv 5) pa_nil))))))) pe_bl (nomark _)))))), ?_⟩
    have cl_Measure := T.cl_Measure
    have na_Measure_top := T.na_Measure_top
    have na_Measure_bottom := T.na_Measure_bottom
    have cl_Ladder := T.cl_Ladder
    have na_Ladder_marks := T.na_Ladder_marks
    have na_Ladder_rule := T.na_Ladder_rule
    have na_Ladder_least := T.na_Ladder_least
    have na_Ladder_most := T.na_Ladder_most
    have cl_Stretch := T.cl_Stretch
    have na_Stretch_low := T.na_Stretch_low
    have na_Stretch_high := T.na_Stretch_high
    have na_Stretch_low_in := T.na_Stretch_low_in
    have na_Stretch_high_in := T.na_Stretch_high_in
    
    have kits := kitsT T
    have sT := SqT.of (K := K) hT
    obtain ⟨kd, fd⟩ := du.fnd kits
    refine ⟨_, rfl, _, rfl, _, rfl, T1, _, _, _, rfl, rfl, sT, rfl, _, rfl, T1, _, _, _, rfl, rfl, sT, rfl, _, rfl, _, rfl, p, q, a, b, .ref U, some ds, sh, 40, zs, zt, r, rt, lo, hi, lt, ht, x, y, u, rfl, hp, hq, qa, qb, by decide, by decide, fd, ps, fun H1 s1 => ?_⟩
    rw [du.self]
    refine ⟨_, _, rfl, rfl, _, rfl, iteF ?_⟩
    walk_at "w"
    refine for_range (fun t σ H' => (∃ v7 v8 v9 : Option V, σ = [some (.ref h), some (.ref p), some (.ref q), some (.ref T1), some (.int sh), some (.ref U), some (.int d), v7, v8, v9]) ∧ HandAt H' h (n + 100 * t) ∧ Kp h H H') ⟨⟨_, _, _, rfl⟩, (hh.same s1), Kp.same s1⟩ ?_ ?_
    · rintro t σ H2 hti ⟨⟨v7, v8, v9, rfl⟩, hh2, k2⟩
      have ht16 : t < 16 := by omega
      have du2 := du.kp hh k2
      obtain ⟨J1, eJ1⟩ : ∃ J : L2.St → Hp → Prop, J = fun σ' H' => ∃ v, σ' = [some (.ref h), some (.ref p), some (.ref q), some (.ref T1), some (.int sh), some (.ref U), some (.int d), some (.int (0 + (t : Int))), some v, v9] ∧ TopAt (He.ga K "Measure") (He.ga K "Stretch") (He.ga K "Ladder") h H' v ∧ HandAt H' h (n + 100 * t + 60) ∧ Kp h H H' := ⟨_, rfl⟩
      refine ⟨J1, ?_, ?_⟩
      · refine ⟨_, rfl, _, rfl, _, rfl, h, _, U, ys, ds, d, rfl, hh2, by omega, du2.ob, du2.l0, du2.l5, du2.len, du2.sm, d0, d1, fun v H3 tv hh3 k3 => ?_⟩
        subst eJ1
        exact ⟨v, rfl, tv, hh3, k2.trans k3⟩
      rintro σ1 H3 hJ1
      subst eJ1
      obtain ⟨v, rfl, tv, hh3, k3⟩ := hJ1
      clear hh2 k2 du2
      obtain ⟨J2, eJ2⟩ : ∃ J : L2.St → Hp → Prop, J = fun σ' H' => ∃ v, σ' = [some (.ref h), some (.ref p), some (.ref q), some (.ref T1), some (.int sh), some (.ref U), some (.int d), some (.int (0 + (t : Int))), some v, v9] ∧ TopAt (He.ga K "Measure") (He.ga K "Stretch") (He.ga K "Ladder") h H' v ∧ HandAt H' h (n + 100 * t + 100) ∧ Kp h H H' := ⟨_, rfl⟩
      refine ⟨J2, ?_, ?_⟩
      · refine ⟨_, rfl, _, _, rfl, rfl, _, rfl, ?_⟩
        refine ite2 (fun e => ?_) (fun e => ?_)
        · refine ⟨_, rfl, h, _, rfl, hh3, by omega, fun v2 H4 tv2 hh4 k4 => ?_⟩
          subst eJ2
          exact ⟨v2, rfl, tv2, hh4, k3.trans k4⟩
        · subst eJ2
          exact ⟨v, rfl, tv, hh3.mono (by omega), k3⟩
      rintro σ2 H4 hJ2
      subst eJ2
      obtain ⟨v, rfl, tv, hh4, k4⟩ := hJ2
      clear hh3 k3
      obtain ⟨J3, eJ3⟩ : ∃ J : L2.St → Hp → Prop, J = fun σ' H' => ∃ v, σ' = [some (.ref h), some (.ref p), some (.ref q), some (.ref T1), some (.int sh), some (.ref U), some (.int d), some (.int (0 + (t : Int))), some v, v9] ∧ TopAt (He.ga K "Measure") (He.ga K "Stretch") (He.ga K "Ladder") h H' v ∧ HandAt H' h (n + 100 * t + 100) ∧ Kp h H H' := ⟨_, rfl⟩
      refine ⟨J3, ?_, ?_⟩
      · refine ⟨_, rfl, rfl, _, rfl, ?_⟩
        refine ite2 (fun e => ?_) (fun e => ?_)
        · have du4 := du.kp hh k4
          have sT4 := SqT.of (K := K) (k4.get hh hT rfl)
          refine ⟨_, rfl, U, _, rfl, .inr (SqT.of du4.ob), rfl, _, rfl, ?_⟩
          refine ite2 (fun e => ?_) (fun e => ?_)
          · refine ⟨_, rfl, T1, _, _, _, rfl, rfl, sT4, rfl, szl (Nat.le_of_ble_eq_true rfl), fun t9 nt9 => ?_⟩
            have qa4 := (qa.kp hh k4).same (same1 (u := .tup [.str "part", .ref a, .str "at", .non, .non]) nt9)
            subst eJ3
            refine ⟨.ref t9, rfl, .inl ⟨t9, _, rfl, upd_same, Nat.le_of_ble_eq_true rfl, fun x hx => ?_⟩, hh4.up nt9, k4.up nt9⟩
            simp only [List.mem_cons, List.not_mem_nil, or_false] at hx
            rcases hx with rfl | rfl | rfl | rfl | rfl
            · exact .inl (.inr (.inr (.inr (.inl ⟨_, rfl⟩))))
            · exact .inr (.inl ⟨a, 40, x, rfl, qa4, by decide⟩)
            · exact .inl (.inr (.inr (.inr (.inl ⟨_, rfl⟩))))
            · exact .inl (.inl rfl)
            · exact .inl (.inl rfl)
          · refine ⟨szl (Nat.le_of_ble_eq_true rfl), fun t9 nt9 => ?_⟩
            subst eJ3
            refine ⟨.ref t9, rfl, .inl ⟨t9, _, rfl, upd_same, Nat.le_of_ble_eq_true rfl, fun x hx => ?_⟩, hh4.up nt9, k4.up nt9⟩
            rw [List.mem_singleton.mp hx]
            exact .inl (.inr (.inr (.inr (.inl ⟨_, rfl⟩))))
        · subst eJ3
          exact ⟨v, rfl, tv, hh4, k4⟩
      rintro σ3 H5 hJ3
      subst eJ3
      obtain ⟨v, rfl, tv, hh5, k5⟩ := hJ3
      clear hh4 k4
      have hp5 := hp.kp hh k5
      have hq5 := hq.kp hh k5
      have qa5 := qa.kp hh k5
      have qb5 := qb.kp hh k5
      have du5 := du.kp hh k5
      have sT5 := SqT.of (K := K) (k5.get hh hT rfl)
      obtain ⟨o, fo⟩ := top_pk kits tv
      obtain ⟨J4, eJ4⟩ : ∃ J : L2.St → Hp → Prop, J = fun σ' H' => σ' = [some (.ref h), some (.ref p), some (.ref q), some (.ref T1), some (.int sh), some (.ref U), some (.int d), some (.int (0 + (t : Int))), some v, some (.bl (topB o (dueK u)))] ∧ Same H5 H' := ⟨_, rfl⟩
      refine ⟨J4, ?_, ?_⟩
      · refine ⟨_, rfl, _, rfl, _, rfl, T1, _, _, _, rfl, rfl, sT5, rfl, _, rfl, T1, _, _, _, rfl, rfl, sT5, rfl, _, rfl, _, rfl, p, q, a, b, v, o, sh, 40, zs, zt, r, rt, lo, hi, lt, ht, x, y, u, rfl, hp5, hq5, qa5, qb5, by decide, by decide, fo, ps, fun H6 s6 => ?_⟩
        subst eJ4
        exact ⟨rfl, s6⟩
      rintro σ4 H6 hJ4
      subst eJ4
      obtain ⟨rfl, s6⟩ := hJ4
      obtain ⟨kd5, fd5⟩ := du5.fnd kits
      refine ⟨_, rfl, _, _, _, _, true, rfl, .ty _, .base (.bl _), kit_ty (r := true) (by decide +kernel), _, rfl, iteF ?_⟩
      refine ⟨_, rfl, _, rfl, _, rfl, v, U, ys, o, ds, rfl, fo.same s6, SqT.of (s6 _ _ du5.ob), by have := du5.l5; omega, kd5.same s6, du5.ok, fun H7 s7 => ?_⟩
      rw [du5.top o]
      refine ⟨rfl, _, rfl, ?_⟩
      rw [decide_eq_true rfl]
      refine iteF ?_
      exact ⟨⟨_, _, _, rfl⟩, (hh5.same (s6.trans s7)).mono (by omega), k5.trans (Kp.same (s6.trans s7))⟩
    · rintro σ H2 ⟨⟨v7, v8, v9, rfl⟩, hh2, k2⟩
      have hp5 := hp.kp hh k2
      have hq5 := hq.kp hh k2
      have qa5 := qa.kp hh k2
      have qb5 := qb.kp hh k2
      have du5 := du.kp hh k2
      have sT5 := SqT.of (K := K) (k2.get hh hT rfl)
      obtain ⟨kd5, fd5⟩ := du5.fnd kits
      refine ⟨_, rfl, _, rfl, _, rfl, T1, _, _, _, rfl, rfl, sT5, rfl, _, rfl, T1, _, _, _, rfl, rfl, sT5, rfl, _, rfl, _, rfl, p, q, a, b, .ref U, some ds, sh, 40, zs, zt, r, rt, lo, hi, lt, ht, x, y, u, rfl, hp5, hq5, qa5, qb5, by decide, by decide, fd5, ps, fun H3 s3 => ?_⟩
      rw [du.self]
      exact ⟨_, _, rfl, rfl, kk H3 ((hh2.same s3).mono (by omega)) (k2.trans (Kp.same s3))⟩
theorem ok_law {P : Program} {w : World} {K : PySem.W.Frag} {mg : Str → Option Value} {base : Heap} {φ : Fds} (T : Txt K mg φ) : FnOk P w K mg base CX0 12 (He.fAd K ("law", none)) φ.law p_law (sp_law K) := by
  obtain ⟨_, B0v, B0⟩ := b_l_hand_at_2 T
  obtain ⟨_, B1v, B1⟩ := b_l_drawn_ladder_1 T
  obtain ⟨_, B2v, B2⟩ := b_l_grain_1 T
  obtain ⟨_, B3v, B3⟩ := b_l_pick_2 T
  obtain ⟨_, B4v, B4⟩ := b_l_two_ladder_2 T
  obtain ⟨_, B5v, B5⟩ := b_l_span_3 T
  obtain ⟨_, B6v, B6⟩ := b_Measure_init_3 T
  obtain ⟨_, B7v, B7⟩ := b_l_parting_5 T
  obtain ⟨_, B8v, B8⟩ := b_l_right_7 T
  obtain ⟨_, B9v, B9⟩ := b_l_made_2 T
  refine T.f_law.ok sc_law (fun vs H Q E h => ?_) (fun cdv A outer s H vs Q E hr h => ?_)
  · obtain ⟨a, ns, rfl, hS, hlen, kk⟩ := h; rfl
  · obtain ⟨a, ns, rfl, hS, hlen, kk⟩ := h
    refine ⟨_, PSs.nox (pss_cons (ps_for PassesOwn.never rfl (pi_range1 rfl T.z_range (pa_cons (pe_op op_add pe_int (pe_callB (id := "min") (call_min2 rfl) (by rfl) T.z_min (by decide +kernel) (pa_cons pe_int (pa_cons (pe_callB (id := "len") (lenS (K := K)) (by rfl) T.z_len PySem.boot_len (pa_cons (pv 0) pa_nil)) pa_nil)))) pa_nil)) (pg_name (i := 1) sc_law.nd rfl (Or.inl rfl))
      (pss_cons (ps_cut (ps_set (i := 2) sc_law.nd rfl (Or.inl rfl) (pe_call (ok_l_hand_at (K := K) T) (hr.mono (by decide)) rfl T.g_l_hand_at T.f_l_hand_at.kp B0 B0v pass0 (pa_cons (pv 0) (pa_cons (pv 1) pa_nil)))))
      (pss_cons (ps_cut (ps_par (i := 3) (j := 4) rfl sc_law.nd rfl rfl (by decide) rfl rfl (pa_cons (pe_call (ok_l_grain (K := K) T) (hr.mono (by decide)) rfl T.g_l_grain T.f_l_grain.kp B2 B2v pass0 (pa_cons (pv 2) pa_nil)) (pa_cons (pe_call (ok_l_drawn_ladder (K := K) T) (hr.mono (by decide)) rfl T.g_l_drawn_ladder T.f_l_drawn_ladder.kp B1 B1v pass0 (pa_cons (pv 2) pa_nil)) pa_nil)) (by rfl)))
      (pss_cons (ps_cut (ps_par (i := 5) (j := 6) rfl sc_law.nd rfl rfl (by decide) rfl rfl (pa_cons (pe_call (ok_l_two_ladder (K := K) T) (hr.mono (by decide)) rfl T.g_l_two_ladder T.f_l_two_ladder.kp B4 B4v pass0 (pa_cons (pv 2) (pa_cons (pv 4) pa_nil))) (pa_cons (pe_call (ok_l_pick (K := K) T) (hr.mono (by decide)) rfl T.g_l_pick T.f_l_pick.kp B3 B3v pass0 (pa_cons (pv 2) (pa_cons (pe_lst (pa_cons pe_int (pa_cons pe_int (pa_cons pe_int (pa_cons (pe_un un_neg pe_int) pa_nil))))) pa_nil))) pa_nil)) (by rfl)))
      (pss_cons (ps_cut (ps_set (i := 7) sc_law.nd rfl (Or.inl rfl) (pe_call (ok_l_span (K := K) T) (hr.mono (by decide)) rfl T.g_l_span T.f_l_span.kp B5 B5v pass0 (pa_cons (pv 2) (pa_cons (pv 4) (pa_cons (pv 5) pa_nil))))))
      (pss_cons (ps_cut (ps_set (i := 8) sc_law.nd rfl (Or.inl rfl) (pe_tup (pa_cons (pe_make T.mk_Measure (ok_Measure_init (K := K) T) (hr.mono (by decide)) rfl T.g_Measure B6 B6v pass0 (pa_cons (pe_ix (ixt (K := K)) (pv 7) pe_int (fun _ _ => rfl)) (pa_cons (pv 3) pa_nil))) (pa_cons (pe_make T.mk_Measure (ok_Measure_init (K := K) T) (hr.mono (by decide)) rfl T.g_Measure B6 B6v pass0 (pa_cons (pe_ix (ixt (K := K)) (pv 7) pe_int (fun _ _ => rfl)) (pa_cons (pv 3) pa_nil))) pa_nil)))))
      (pss_cons (ps_cut (ps_set (i := 9) sc_law.nd rfl (Or.inl rfl) (pe_call (ok_l_parting (K := K) T) (hr.mono (by decide)) rfl T.g_l_parting T.f_l_parting.kp B7 B7v pass0 (pa_cons (pv 4) (pa_cons (pv 5) (pa_cons (pe_ix (ixt (K := K)) (pv 7) pe_int (fun _ _ => rfl)) (pa_cons (pe_ix (ixt (K := K)) (pv 7) pe_int (fun _ _ => rfl)) (pa_cons (pv 6) pa_nil))))))))
      (pss_cons (ps_cut (ps_if (pt_cmpR op_gt (pe_callB (id := "len") (lenS (K := K)) (by rfl) T.z_len PySem.boot_len (pa_cons (pv 9) pa_nil)) pe_int (nomark _))
      (pss_one (ps_set (i := 9) sc_law.nd rfl (Or.inl rfl) (pe_op (catT (K := K)) (pe_op (catT (K := K)) (pe_slice (slT (K := K)) (pv 9) po_none (po_some pe_int)) (pe_tup (pa_cons (pe_make T.mk_Measure (ok_Measure_init (K := K) T) (hr.mono (by decide)) rfl T.g_Measure B6 B6v pass0 (pa_cons (pe_ix (ixt (K := K)) (pv 9) pe_int (fun _ _ => rfl)) (pa_cons (pv 3) pa_nil))) pa_nil))) (pe_slice (slT (K := K)) (pv 9) (po_some pe_int) po_none))))
      pss_nil))
      (pss_one (ps_if (pt_not (pt_val (pe_call (ok_l_right (K := K) T) (hr.mono (by decide)) rfl T.g_l_right T.f_l_right.kp B8 B8v pass0 (pa_cons (pv 2) (pa_cons (pe_call (ok_l_made (K := K) T) (hr.mono (by decide)) rfl T.g_l_made T.f_l_made.kp B9 B9v pass0 (pa_cons (pv 4) (pa_cons (pv 3) pa_nil))) (pa_cons (pe_call (ok_l_made (K := K) T) (hr.mono (by decide)) rfl T.g_l_made T.f_l_made.kp B9 B9v pass0 (pa_cons (pv 5) (pa_cons (pv 3) pa_nil))) (pa_cons (pv 8) (pa_cons (pv 6) (pa_cons (pv 9) (pa_cons (pv 3) pa_nil))))))))))
      (pss_one (ps_ret pe_bl))
      pss_nil))))))))))
      (pss_one (ps_ret pe_bl))), ?_⟩
    have cl_Ladder := T.cl_Ladder
    have na_Ladder_marks := T.na_Ladder_marks
    have na_Ladder_rule := T.na_Ladder_rule
    have na_Ladder_least := T.na_Ladder_least
    have na_Ladder_most := T.na_Ladder_most
    
    walk_at "w"
    refine for_range (fun i σ H' => (∃ v1 v2 v3 v4 v5 v6 v7 v8 v9 : Option V, σ = [some (.ref a), v1, v2, v3, v4, v5, v6, v7, v8, v9]) ∧ Same H H') ?_ ?_ ?_
    · exact ⟨⟨_, _, _, _, _, _, _, _, _, rfl⟩, fun _ _ z => z⟩
    · rintro i σ H1 hi ⟨⟨v1, v2, v3, v4, v5, v6, v7, v8, v9, rfl⟩, s1⟩
      have hi4 : i < 5 := by
        refine Nat.lt_of_lt_of_le hi ?_
        split <;> omega
      clear hi
      obtain ⟨J1, eJ1⟩ : ∃ J : L2.St → Hp → Prop, J = fun σ' H' => ∃ h, σ' = [some (.ref a), some (.int (0 + (i : Int))), some (.ref h), v3, v4, v5, v6, v7, v8, v9] ∧ HandAt H' h 0 ∧ Same H1 H' ∧ H1 h = none := ⟨_, rfl⟩
      refine ⟨J1, ?_, ?_⟩
      · walk_at "w"
        refine ⟨ns, i, by show [V.ref a, V.int (0 + (i : Int))] = _; rw [Int.zero_add], s1.seq hS, by omega, fun h H3 nh s3 hh => ?_⟩
        subst eJ1
        exact ⟨h, rfl, hh, s3, nh⟩
      rintro σ1 H2 hJ1
      subst eJ1
      obtain ⟨h, rfl, hh, S2, nh⟩ := hJ1
      obtain ⟨J2, eJ2⟩ : ∃ J : L2.St → Hp → Prop, J = fun σ' H' => ∃ d p l ms r lo hi, σ' = [some (.ref a), some (.int (0 + (i : Int))), some (.ref h), some (.int d), some (.ref p), v5, v6, v7, v8, v9] ∧ HandAt H' h 41 ∧ Kp h H2 H' ∧ l ≠ h ∧ LadD 1300 H' p l ms r lo hi ∧ 0 < d ∧ d ≤ 24000000000 := ⟨_, rfl⟩
      refine ⟨J2, ?_, ?_⟩
      · refine ⟨_, rfl, h, _, rfl, hh, by omega, fun g H3 g0 g1 hh3 k3 => ?_⟩
        refine ⟨_, rfl, h, _, rfl, hh3, by omega, fun p l ms r lo hi H4 nl L4 hh4 k4 => ?_⟩
        walk_at "w"
        subst eJ2
        exact ⟨g, p, l, ms, r, lo, hi, rfl, hh4.mono (by omega), k3.trans k4, nl, L4, g0, by omega⟩
      rintro σ2 H3 hJ2
      subst eJ2
      obtain ⟨d, p, l, ms, r, lo, hi', rfl, hh3, k3, nl, hL, d0, d1⟩ := hJ2
      have S3 := S2.ofKp nh k3
      clear k3 S2 hh
      obtain ⟨J3, eJ3⟩ : ∃ J : L2.St → Hp → Prop, J = fun σ' H' => ∃ p2 l2 ms2 r2 lo2 hi2 sh, σ' = [some (.ref a), some (.int (0 + (i : Int))), some (.ref h), some (.int d), some (.ref p), some (.ref p2), some (.int sh), v7, v8, v9] ∧ HandAt H' h 103 ∧ Kp h H3 H' ∧ l2 ≠ h ∧ LadD 1500 H' p2 l2 ms2 r2 lo2 hi2 := ⟨_, rfl⟩
      refine ⟨J3, ?_, ?_⟩
      · refine ⟨_, rfl, _, rfl, h, p, l, _, ms, r, lo, hi', rfl, hh3, by omega, nl, hL, fun p' l' ms' r' lo' hi2 H7 n' L' hh7 k7 => ?_⟩
        refine ⟨_, rfl, _, rfl, szl (Nat.le_of_ble_eq_true rfl), fun S nS => ?_⟩
        have hh8 := hh7.up (u := .lst [.int 0, .int 0, .int 1, .int (-1)]) nS
        refine ⟨h, S, _, _, rfl, hh8, by omega, SqL.of upd_same, hh7.ne nS, by show 0 < 4; omega, by show 4 ≤ 1000; omega, fun i1 x H9 hx hh9 k9 => ?_⟩
        obtain ⟨g, rfl⟩ : ∃ g : Int, x = .int g := by
          have hm := List.mem_of_getElem? hx
          simp at hm
          rcases hm with rfl | rfl | rfl <;> exact ⟨_, rfl⟩
        walk_at "w"
        subst eJ3
        exact ⟨p', l', ms', r', lo', hi2, g, rfl, hh9.mono (by omega), (k7.up nS).trans k9, n', (L'.same (same1 nS)).kp hh8 k9 n'⟩
      rintro σ3 H4 hJ3
      subst eJ3
      obtain ⟨p2, l2, ms2, r2, lo2, hi2, sh, rfl, hh4, k4, n2, L2'⟩ := hJ3
      have L1 := hL.kp hh3 k4 nl
      have S4 := S3.ofKp nh k4
      clear S3 k4 hh3 hL
      obtain ⟨J4, eJ4⟩ : ∃ J : L2.St → Hp → Prop, J = fun σ' H' => ∃ T1 s g, σ' = [some (.ref a), some (.int (0 + (i : Int))), some (.ref h), some (.int d), some (.ref p), some (.ref p2), some (.int sh), some (.ref T1), v8, v9] ∧ HandAt H' h 113 ∧ Kp h H4 H' ∧ s ≤ g ∧ s % 2 = 0 ∧ g % 2 = 0 ∧ -1540 ≤ s ∧ g ≤ 1540 ∧ H' T1 = some (.tup [.int s, .int g]) := ⟨_, rfl⟩
      refine ⟨J4, ?_, ?_⟩
      · refine ⟨_, rfl, _, rfl, _, rfl, h, p, p2, l, l2, _, 1500, _, _, _, _, _, _, _, _, rfl, hh4, by omega, nl, n2, by omega, L1.mono (by omega), L2', fun T1 s g H8 le es eg b1 b2 hT hh8 k8 => ?_⟩
        subst eJ4
        exact ⟨T1, s, g, rfl, hh8.mono (by omega), k8, le, es, eg, by omega, by omega, hT⟩
      rintro σ4 H5 hJ4
      subst eJ4
      obtain ⟨T1, s, g, rfl, hh5, k5, le, es, eg, b1, b2, hT⟩ := hJ4
      replace L1 := L1.kp hh4 k5 nl
      replace L2' := L2'.kp hh4 k5 n2
      have S5 := S4.ofKp nh k5
      clear S4 k5 hh4
      obtain ⟨J5, eJ5⟩ : ∃ J : L2.St → Hp → Prop, J = fun σ' H' => ∃ (Te ea eb : Addr), σ' = [some (.ref a), some (.int (0 + (i : Int))), some (.ref h), some (.int d), some (.ref p), some (.ref p2), some (.int sh), some (.ref T1), some (.ref Te), v9] ∧ Same H5 H' ∧ H' Te = some (.tup [.ref ea, .ref eb]) ∧ QAt (He.ga K "Measure") H' ea 40 (s, d) ∧ QAt (He.ga K "Measure") H' eb 40 (g, d) := ⟨_, rfl⟩
      refine ⟨J5, ?_, ?_⟩
      · have sT9 := SqT.of (K := K) hT
        refine ⟨_, rfl, T1, _, _, _, rfl, rfl, sT9, rfl, _, rfl, ?_⟩
        refine q_made (k := 40) d0 (show s.natAbs < 2 ^ 40 by omega) (show d.natAbs < 2 ^ 40 by omega) (by decide) (by decide) fun ea HA sA qA => ?_
        refine ⟨_, rfl, T1, _, _, _, rfl, rfl, sA.sqt sT9, rfl, _, rfl, ?_⟩
        refine q_made (k := 40) d0 (show g.natAbs < 2 ^ 40 by omega) (show d.natAbs < 2 ^ 40 by omega) (by decide) (by decide) fun eb HB sB qB => ?_
        refine ⟨szl (Nat.le_of_ble_eq_true rfl), fun t nt => ?_⟩
        subst eJ5
        exact ⟨t, ea, eb, rfl, (sA.trans sB).up nt, upd_same, (qA.same sB).same (same1 nt), qB.same (same1 nt)⟩
      rintro σ5 H6 hJ5
      subst eJ5
      obtain ⟨Te, ea, eb, rfl, s6, hTe, qa, qb⟩ := hJ5
      replace L1 := L1.same s6
      replace L2' := L2'.same s6
      have hh6 := hh5.same s6
      have S6 := S5.trans s6
      replace hT := s6 _ _ hT
      clear s6 S5 hh5
      obtain ⟨J6, eJ6⟩ : ∃ J : L2.St → Hp → Prop, J = fun σ' H' => ∃ U u, σ' = [some (.ref a), some (.int (0 + (i : Int))), some (.ref h), some (.int d), some (.ref p), some (.ref p2), some (.int sh), some (.ref T1), some (.ref Te), some (.ref U)] ∧ Same H6 H' ∧ LPartV H' U u ∧ (∀ z b x y, u = some (z, b, x, y) → s ≤ z ∧ z ≤ g) ∧ PartS (sizF (zq d ms) r (oq d lo) (oq d hi')) (sizF (zq d ms2) r2 (oq d lo2) (oq d hi2)) sh (toR (s, d)) (toR (g, d)) (resR d u) := ⟨_, rfl⟩
      refine ⟨J6, ?_, ?_⟩
      · have sT := SqT.of (K := K) hT
        refine ⟨_, rfl, _, rfl, _, rfl, T1, _, _, _, rfl, rfl, sT, rfl, _, rfl, T1, _, _, _, rfl, rfl, sT, rfl, _, rfl, p, p2, l, l2, s, g, sh, d, ms, ms2, r, r2, lo, hi', lo2, hi2, rfl, L1.mono (by omega), L2'.mono (by omega), le, es, d0, fun U u H8 s8 hU bu ps => ?_⟩
        subst eJ6
        exact ⟨U, u, rfl, s8, hU, bu, ps⟩
      rintro σ6 H7 hJ6
      subst eJ6
      obtain ⟨U, u, rfl, s7, hU, bu, ps⟩ := hJ6
      replace L1 := L1.same s7
      replace L2' := L2'.same s7
      have hh7 := hh6.same s7
      replace hTe := s7 _ _ hTe
      replace qa := qa.same s7
      replace qb := qb.same s7
      have S7 := S6.trans s7
      clear s7 S6 hh6 hT
      obtain ⟨J7, eJ7⟩ : ∃ J : L2.St → Hp → Prop, J = fun σ' H' => ∃ U, σ' = [some (.ref a), some (.int (0 + (i : Int))), some (.ref h), some (.int d), some (.ref p), some (.ref p2), some (.int sh), some (.ref T1), some (.ref Te), some (.ref U)] ∧ Same H7 H' ∧ PartV (He.ga K "Measure") H' 40 U (resR d u) := ⟨_, rfl⟩
      refine ⟨J7, ?_, ?_⟩
      · cases u with
        | none =>
          have hU : H7 U = some (.tup [.str "alike"]) := hU
          refine ⟨_, rfl, U, _, rfl, .inr (SqT.of hU), _, _, rfl, rfl, _, rfl, iteF ?_⟩
          subst eJ7
          exact ⟨U, rfl, Same.refl _, hU⟩
        | some u =>
          obtain ⟨z, b, x, y⟩ := u
          have hU : H7 U = some (.tup [.str "part", .int z, .str (if b = true then "behind" else "at"), optI x, optI y]) := hU
          have bz := bu z b x y rfl
          have sU := SqT.of (K := K) hU
          refine ⟨_, rfl, U, _, rfl, .inr (SqT.of hU), _, _, rfl, rfl, _, rfl, iteT ?_⟩
          walk_at "w"
          refine ⟨fun h => absurd (show (1 : Nat) = 5 from h.2) (by decide), fun pA nA => ?_⟩
          generalize hA : upd H7 pA _ = HA
          have sA : Same H7 HA := by rw [← hA]; exact same1 nA
          have hpA : HA pA = some (.tup [.str "part"]) := by rw [← hA]; exact upd_same
          clear hA
          refine ⟨_, rfl, U, _, _, _, rfl, rfl, SqT.of (sA _ _ hU), rfl, _, rfl, ?_⟩
          refine q_made (k := 40) d0 (show z.natAbs < 2 ^ 40 by omega) (show d.natAbs < 2 ^ 40 by omega) (by decide) (by decide) fun M HB sB qM => ?_
          refine ⟨szl (Nat.le_of_ble_eq_true rfl), fun pB nB => ?_⟩
          generalize hC : upd HB pB _ = HC
          have sC : Same HB HC := by rw [← hC]; exact same1 nB
          have hpB : HC pB = some (.tup [.ref M]) := by rw [← hC]; exact upd_same
          clear hC
          refine ⟨pA, pB, _, _, rfl, rfl, SqT.of (sC _ _ (sB _ _ hpA)), SqT.of hpB, (fun h => by cases h), szl (Nat.le_of_ble_eq_true rfl), (fun h => by cases h), fun _ pC nC => ?_⟩
          generalize hD : upd HC pC _ = HD
          have sD : Same HC HD := by rw [← hD]; exact same1 nC
          have hpC : HD pC = some (.tup [.str "part", .ref M]) := by rw [← hD]; exact upd_same
          clear hD
          have s7D := ((sA.trans sB).trans sC).trans sD
          refine ⟨_, rfl, _, rfl, U, _, rfl, SqT.of (s7D _ _ hU), fun h => absurd (show (2 : Nat) = 0 from h.1) (by decide), fun pD nD => ?_⟩
          generalize hE : upd HD pD _ = HE
          have sE : Same HD HE := by rw [← hE]; exact same1 nD
          have hpD : HE pD = some (.tup [.str (if b = true then "behind" else "at"), optI x, optI y]) := by rw [← hE]; exact upd_same
          clear hE
          refine ⟨pC, pD, _, _, rfl, rfl, SqT.of (sE _ _ hpC), SqT.of hpD, (fun h => by cases h), szl (Nat.le_of_ble_eq_true rfl), (fun h => by cases h), fun _ pE nE => ?_⟩
          subst eJ7
          exact ⟨pE, rfl, (s7D.trans sE).up nE, M, (z, d), ((qM.same sC).same sD).same (sE.up nE), rfl, upd_same⟩
      rintro σ7 H8 hJ7
      subst eJ7
      obtain ⟨U, rfl, s8, hV⟩ := hJ7
      replace L1 := L1.same s8
      replace L2' := L2'.same s8
      have hh8 := hh7.same s8
      replace hTe := s8 _ _ hTe
      replace qa := qa.same s8
      replace qb := qb.same s8
      have S8 := S7.trans s8
      clear s8 S7 hh7 hU bu
      refine ⟨_, rfl, _, rfl, _, rfl, p, l, ms, r, lo, hi', d, rfl, L1.mono (by omega), d0, d1, fun q1 HA sA A1 => ?_⟩
      refine ⟨_, rfl, _, rfl, p2, l2, ms2, r2, lo2, hi2, d, rfl, (L2'.same sA).mono (by omega), d0, d1, fun q2 HB sB A2 => ?_⟩
      have sAB := sA.trans sB
      have small : ∀ {zs : List Q2} {r : Str} {lo hi : Option Q2}, zs.length ≤ 24 → ∀ x n, sizF zs r lo hi x = some n → n < 24 := fun hl x n e => Nat.lt_of_lt_of_le (sizeQ_lt e) hl
      obtain ⟨ys, ds, du⟩ := due_of (small (by rw [zq_len]; exact L1.mks.len1)) (small (by rw [zq_len]; exact L2'.mks.len1)) (PartV.same hV sAB) ps
      refine ⟨_, rfl, _, rfl, _, rfl, _, rfl, h, q1, q2, Te, ea, eb, U, _, sh, d, _, _, _, _, _, _, _, _, (s, d), (g, d), resR d u, ys, ds, rfl, hh8.same sAB, by omega, A1.same sB, A2, sAB _ _ hTe, qa.same sAB, qb.same sAB, du, ps, d0, d1, fun HC hhC kC => ?_⟩
      refine ⟨_, rfl, iteF ?_⟩
      exact ⟨⟨_, _, _, _, _, _, _, _, _, rfl⟩, s1.trans (S8.ofKp nh ((Kp.same sAB).trans kC))⟩
    · rintro σ H1 ⟨⟨v1, v2, v3, v4, v5, v6, v7, v8, v9, rfl⟩, s1⟩
      walk_at "w"
      exact kk _
end K40

open PySem PySem.W PySem.Calls PyProof.Rows
set_option maxRecDepth 100000 in
set_option maxHeartbeats 0 in
theorem PySem.Challenge.cw_sizeladders_k40_partings_shown_or_not_holds : PySem.Challenge.rw_sizeladders_k40_partings_shown_or_not.Holds := by
  exact K40.pre fun T => K40.ok_law T
