import PyProof.Rows.All
import Wide.All
import OpenK.AllK
import Wide.FinOn
import KE.KStateDown
import HandS.ForMost
import HandS.More
import HandS.WordsExc
import HandS.Defaults
import HandS.MakeKw
import HandS.MakeKwOnly
import HandS.Wide
import HandS.IsInst
import HandS.Flow
import HandS.Style
import HandS.OwnEq
import HandS.Head0
import HandS.Head1
import HandS.Head2
import HandS.HeadEnd
import HandS.HeadHook1
import HandS.HeadHook2
import HandS.ExcIs
import HandS.ExcOwn
import HandS.TryOnly
import HandS.ExcBuiltin
import HandS.FStr
import HandS.Text
import HandS.Codes
import HandS.StrMore
import HandS.Walk
import HandS.Zip
import HandS.Conv
import HandS.Iter
import KE.GoesEnum
import KE.DataMinMax
import HandS.SortKw
import HandS.TupAny
import HandS.FStrTup
import HandS.Deep
import HandS.SetFor
import HandS.Strs
import PyProof.ReprHeadsTuple
import PyProof.ReprNest
import KE.KFmtOwn
import PySem.Challenge.RW_sizeladders_k16_ladders_shown_and_alike
set_option Elab.async false
set_option linter.all false
set_option maxRecDepth 100000
set_option maxHeartbeats 4000000
namespace My
open PySem PySem.Spec PyProof.Rows L2
/-! ### operators of great numbers -/
section
variable {X : Cx}
theorem op_fd : OpR X (binaryOp .FloorDiv) (rI (fun _ j => j ≠ 0 ∧ j.natAbs.log2 < 9000) fun i j => .int (i.fdiv j)) :=
  opI fun _ _ _ _ _ _ _ hc q => floordiv_int hc.1 q (.inl (PyProof.noPylong_of_log2 hc.2))
theorem op_mulA : OpR X (binaryOp .Mult) (rI (fun i j => CMul i j ∨ CMulW i j) fun i j => .int (i * j)) :=
  opI fun _ _ _ _ _ _ _ hc q => mul_int q (hc.elim (fun h => h.ok) (fun h => h.ok))
/-! ### cuts: what is wanted behind a piece, said by a word of one's own -/
def tCutS (t : TS) : TS := fun D σ H => ∃ J : L2.St → Hp → Prop, t { D with nx := J } σ H ∧ ∀ σ' H', J σ' H' → D.nx σ' H'
theorem ps_cut {st : Stmt} {t : TS} (h : PS X st t) : PS X st (tCutS t) := by
  refine ⟨fun pins s σ H D I hw => ?_⟩
  obtain ⟨J, h1, h2⟩ := hw
  refine thn (h.run pins s σ H _ I h1) fun f s' q => ?_
  cases f with
  | next => obtain ⟨σ', H', I', q'⟩ := q; exact ⟨σ', H', I', h2 _ _ q'⟩
  | brk => exact q
  | cont => exact q
  | ret u => exact q
/-! ### calls by keywords -/
variable {CX : CXT} {k n : Nat} {f C : Addr} {fd : FuncData} {ps ks : List Str} {sp : Sp} {E : XK} {x m : Str} {p pos apos : Pos} {o e : Expr} {es : List Expr} {kws : List Keyword} {ta : TE} {t tk : TA} {g : List Value → List Value → List Value} {gV : List V → List V → List V}
end
/-! ### heaps -/
theorem up1 {H : Hp} {p x : Addr} {o u : HO} (hp : H p = none) (hx : H x = some o) : upd H p u x = some o := by
  rw [upd_ne (ne_of_none hx hp)]; exact hx
theorem same1 {H : Hp} {p : Addr} {u : HO} (hp : H p = none) : Same H (upd H p u) := fun _ _ e => up1 hp e
theorem _root_.L2.Same.sqt {K : PySem.W.Frag} {H H' : Hp} {a : Addr} {xs : List V} (e : Same H H') (h : SqT K H a xs) : SqT K H' a xs := by
  rcases h with (h | ⟨o, h⟩) | h
  · exact .inl (.inl (e _ _ h))
  · exact .inl (.inr ⟨o, e _ _ h⟩)
  · exact .inr h
/-- all stays but what stands at h -/
def Kp (h : Addr) (H H' : Hp) : Prop := ∀ b o, H b = some o → b ≠ h → H' b = some o
theorem Kp.refl (h : Addr) (H : Hp) : Kp h H H := fun _ _ e _ => e
theorem Kp.trans {h : Addr} {H H1 H2 : Hp} (a : Kp h H H1) (b : Kp h H1 H2) : Kp h H H2 := fun c o e n => b c o (a c o e n) n
theorem Kp.same {h : Addr} {H H1 : Hp} (a : Same H H1) : Kp h H H1 := fun c o e _ => a c o e
theorem Kp.up {h p : Addr} {H H1 : Hp} {u : HO} (a : Kp h H H1) (hp : H1 p = none) : Kp h H (upd H1 p u) := fun c o e n => up1 hp (a c o e n)
theorem Kp.set {h : Addr} {H H1 : Hp} {u : HO} (a : Kp h H H1) : Kp h H (upd H1 h u) := fun c o e n => by
  rw [upd_ne n]; exact a c o e n
/-- a list other than that at h, the script among them -/
theorem Kp.seq {K : PySem.W.Frag} {h a : Addr} {H H1 : Hp} {xs : List V} (k : Kp h H H1) (n : a ≠ h) (s : SqL K H a xs) : SqL K H1 a xs := by
  rcases s with (s | ⟨o, s⟩) | s
  · exact .inl (.inl (k _ _ s n))
  · exact .inl (.inr ⟨o, k _ _ s n⟩)
  · exact .inr s
/-! ### the hand: a list of three ints, drawn from -/
def HandAt (H : Hp) (h : Addr) (n : Nat) : Prop := ∃ a b c : Int, H h = some (.lst [.int a, .int b, .int c]) ∧ 0 ≤ a ∧ 0 ≤ b ∧ b < 4611686018427387904 ∧ 0 ≤ c ∧ c ≤ n
theorem HandAt.mono {H : Hp} {h : Addr} {n m : Nat} (a : HandAt H h n) (l : n ≤ m) : HandAt H h m := by
  obtain ⟨x, y, z, h1, h2, h3, h4, h5, h6⟩ := a
  exact ⟨x, y, z, h1, h2, h3, h4, h5, by omega⟩
theorem HandAt.same {H H' : Hp} {h : Addr} {n : Nat} (a : HandAt H h n) (s : Same H H') : HandAt H' h n := by
  obtain ⟨x, y, z, h1, h2⟩ := a
  exact ⟨x, y, z, s _ _ h1, h2⟩
theorem HandAt.up {H : Hp} {h p : Addr} {u : HO} {n : Nat} (a : HandAt H h n) (hp : H p = none) : HandAt (upd H p u) h n := a.same (same1 hp)
theorem HandAt.ne {H : Hp} {h p : Addr} {n : Nat} (a : HandAt H h n) (hp : H p = none) : p ≠ h := by
  obtain ⟨x, y, z, h1, _⟩ := a
  exact (ne_of_none h1 hp).symm
def notHand : HO → Bool
  | .lst _ => false
  | _ => true
theorem HandAt.apart {H : Hp} {h p : Addr} {o : HO} {n : Nat} (a : HandAt H h n) (hp : H p = some o) (ho : notHand o = true) : p ≠ h := by
  obtain ⟨x, y, z, h1, _⟩ := a
  exact ne_of hp h1 (by intro e; rw [e] at ho; cases ho)
def sp_take : Sp := fun vs H Q _ => ∃ (h : Addr) (n : Nat) (m : Int), vs = [.ref h, .int m] ∧ HandAt H h n ∧ n < 1000000 ∧ 0 < m ∧ m.natAbs.log2 < 9000 ∧
  ∀ (d : Int) (H' : Hp), 0 ≤ d → d < m → HandAt H' h (n + 1) → Kp h H H' → Q (.int d) H'
def sp_hand (K : PySem.W.Frag) : Sp := fun vs H Q _ => ∃ (a : Addr) (ns : List Int) (k : Nat), vs = [.ref a, .int k] ∧ SqL K H a (ns.map V.int) ∧ k ≤ 1000 ∧
  ∀ (p : Addr) (H' : Hp), H p = none → Same H H' → HandAt H' p 0 → Q (.ref p) H'
/-! ### numbers -/
abbrev Sz (k : Nat) (z : Int) : Prop := z.natAbs < 2 ^ k
theorem Sz.mono {a b : Nat} {z : Int} (h : Sz a z) (l : a ≤ b) : Sz b z := Nat.lt_of_lt_of_le h (Nat.pow_le_pow_right (by decide) l)
theorem Sz.mul {a b : Nat} {x y : Int} (h : Sz a x) (g : Sz b y) : Sz (a + b) (x * y) := wide_lt h g
theorem Sz.neg {a : Nat} {x : Int} (h : Sz a x) : Sz a (-x) := by
  show (-x).natAbs < 2 ^ a
  rw [Int.natAbs_neg]; exact h
theorem Sz.add {a : Nat} {x y : Int} (h : Sz a x) (g : Sz a y) : Sz (a + 1) (x + y) := by
  show (x + y).natAbs < 2 ^ (a + 1)
  have h1 : x.natAbs < 2 ^ a := h
  have h2 : y.natAbs < 2 ^ a := g
  rw [Nat.pow_succ]; omega
theorem Sz.sub {a : Nat} {x y : Int} (h : Sz a x) (g : Sz a y) : Sz (a + 1) (x - y) := by
  show (x - y).natAbs < 2 ^ (a + 1)
  have h1 : x.natAbs < 2 ^ a := h
  have h2 : y.natAbs < 2 ^ a := g
  rw [Nat.pow_succ]; omega
theorem Sz.le {a : Nat} {x y : Int} (h : Sz a x) (l : y.natAbs ≤ x.natAbs) : Sz a y := Nat.lt_of_le_of_lt l h
theorem Sz.cmul {a b : Nat} {x y : Int} (h : Sz a x) (g : Sz b y) (h0 : 0 < a) (h1 : 0 < b) (l : a + b ≤ 1000000) : CMul x y ∨ CMulW x y := .inr (wide_mul h g h0 h1 l)
theorem Sz.log {a : Nat} {x : Int} (h : Sz a x) (h0 : 0 < a) (l : a ≤ 9000) : x.natAbs.log2 < 9000 := Nat.lt_of_lt_of_le (PySem.Flt.log2_lt_of h0 h) l
theorem dI {i j : Int} : decide (V.int i = V.int j) = decide (i = j) := by
  rw [dec_int, Bool.beq_eq_decide_eq]
/-- t / u is a / b in lowest terms -/
structure Fr (t u a b : Int) : Prop where
  pos : 0 < u
  eq : t * b = a * u
  co : Int.gcd t u = 1
  lt : t.natAbs ≤ a.natAbs
  lu : u.natAbs ≤ b.natAbs
def sgn (b : Int) : Int := if 0 < b then 1 else -1
theorem gcd_step {g s : Int} (hs : 0 < s) (hg : 0 ≤ g) : Int.gcd s (g % s) = Int.gcd g s := by
  obtain ⟨m, rfl⟩ := Int.eq_ofNat_of_zero_le hg
  obtain ⟨n, rfl⟩ := Int.eq_ofNat_of_zero_le (Int.le_of_lt hs)
  show Nat.gcd n (m % n) = Nat.gcd m n
  rw [Nat.gcd_comm m n, Nat.gcd_comm n (m % n), ← Nat.gcd_rec]
theorem fr_mk {a b c : Int} (hb : b ≠ 0) (hc : c = sgn b * (Int.gcd a b : Int)) : c ≠ 0 ∧ c.natAbs ≤ b.natAbs ∧ Fr (a.fdiv c) (b.fdiv c) a b := by
  have g0 : 0 < Int.gcd a b := Int.gcd_pos_of_ne_zero_right a hb
  have gd : (Int.gcd a b : Int) ∣ a := Int.gcd_dvd_left ..
  have gb : (Int.gcd a b : Int) ∣ b := Int.gcd_dvd_right ..
  have hs : sgn b = 1 ∨ sgn b = -1 := by unfold sgn; split <;> simp
  have cd : c ∣ a := by
    rcases hs with e | e <;> rw [hc, e]
    · rw [Int.one_mul]; exact gd
    · rw [Int.neg_one_mul]; exact (Int.neg_dvd).mpr gd
  have cb : c ∣ b := by
    rcases hs with e | e <;> rw [hc, e]
    · rw [Int.one_mul]; exact gb
    · rw [Int.neg_one_mul]; exact (Int.neg_dvd).mpr gb
  have cn : c.natAbs = Int.gcd a b := by
    rcases hs with e | e <;> rw [hc, e]
    · rw [Int.one_mul, Int.natAbs_natCast]
    · rw [Int.neg_one_mul, Int.natAbs_neg, Int.natAbs_natCast]
  have c0 : c ≠ 0 := by
    intro e; rw [e] at cn; simp at cn; omega
  have ta : a.fdiv c * c = a := Int.fdiv_mul_cancel cd
  have tb : b.fdiv c * c = b := Int.fdiv_mul_cancel cb
  have c1 : 1 ≤ c.natAbs := by omega
  have na : a.natAbs = (a.fdiv c).natAbs * c.natAbs := by rw [← Int.natAbs_mul, ta]
  have nb : b.natAbs = (b.fdiv c).natAbs * c.natAbs := by rw [← Int.natAbs_mul, tb]
  refine ⟨c0, ?_, ?_, ?_, ?_, ?_, ?_⟩
  · rw [cn]
    exact Nat.le_of_dvd (by omega) (Int.gcd_dvd_natAbs_right a b)
  · rcases Int.lt_trichotomy b 0 with h | h | h
    · have e : sgn b = -1 := by unfold sgn; rw [if_neg (by omega)]
      have cneg : c < 0 := by rw [hc, e]; omega
      rcases Int.lt_or_le 0 (b.fdiv c) with z | z
      · exact z
      · have : 0 ≤ b.fdiv c * c := Int.mul_nonneg_of_nonpos_of_nonpos z (by omega)
        omega
    · exact absurd h hb
    · have e : sgn b = 1 := by unfold sgn; rw [if_pos h]
      have cpos : 0 < c := by rw [hc, e]; omega
      rcases Int.lt_or_le 0 (b.fdiv c) with z | z
      · exact z
      · have : b.fdiv c * c ≤ 0 := Int.mul_nonpos_of_nonpos_of_nonneg z (by omega)
        omega
  · have : a.fdiv c * (b.fdiv c * c) = a.fdiv c * c * b.fdiv c := by
      rw [Int.mul_assoc, Int.mul_comm c]
    rw [tb, ta] at this
    exact this
  · have e : Int.gcd a b = Int.gcd (a.fdiv c) (b.fdiv c) * c.natAbs := by
      have := Int.gcd_mul_right (a.fdiv c) c (b.fdiv c)
      rw [ta, tb] at this
      exact this
    rw [← cn] at e
    have e2 : 1 * c.natAbs = Int.gcd (a.fdiv c) (b.fdiv c) * c.natAbs := by rw [Nat.one_mul]; exact e
    exact (Nat.eq_of_mul_eq_mul_right (by omega) e2).symm
  · rw [na]; exact Nat.le_mul_of_pos_right _ (by omega)
  · rw [nb]; exact Nat.le_mul_of_pos_right _ (by omega)
/-! ### a Measure -/
def mf (t u : Int) : List (Str × V) := [("top", .int t), ("bottom", .int u)]
theorem ne_tb : ¬ (("top" : Str) = "bottom") := by decide +kernel
theorem mf_put (t u : Int) : putF "bottom" (.int u) (putF "top" (.int t) []) = mf t u := by
  show (if ("top" : Str) = "bottom" then [(("top" : Str), V.int u)] else (("top" : Str), V.int t) :: putF "bottom" (V.int u) []) = mf t u
  rw [if_neg ne_tb] <;> rfl
theorem mf_top (t u : Int) : (mf t u).lookup ("top" : Str) = some (.int t) := by
  rw [← mf_put, lookup_putF, if_neg ne_tb, lookup_putF, if_pos rfl]
theorem mf_bottom (t u : Int) : (mf t u).lookup ("bottom" : Str) = some (.int u) := by
  rw [← mf_put, lookup_putF, if_pos rfl]
theorem mf_no (t u : Int) {m : Str} (h1 : ¬ m = "top") (h2 : ¬ m = "bottom") : (mf t u).lookup m = none := by
  rw [← mf_put, lookup_putF, if_neg h2, lookup_putF, if_neg h1] <;> rfl
def MAt (C : Addr) (H : Hp) (p : Addr) (t u : Int) : Prop := ∃ dx, H p = some (.ins C dx (mf t u))
theorem MAt.same {C p : Addr} {H H' : Hp} {t u : Int} (m : MAt C H p t u) (s : Same H H') : MAt C H' p t u := by
  obtain ⟨dx, h⟩ := m; exact ⟨dx, s _ _ h⟩
theorem MAt.kp {C p h : Addr} {H H' : Hp} {t u : Int} {n : Nat} (m : MAt C H p t u) (hh : HandAt H h n) (s : Kp h H H') : MAt C H' p t u := by
  obtain ⟨dx, e⟩ := m; exact ⟨dx, s _ _ e (hh.apart e rfl)⟩
def sp_minit (C : Addr) : Sp := fun vs H Q _ => ∃ (p dx : Addr) (a b : Int), vs = [.ref p, .int a, .int b] ∧ H p = some (.ins C dx []) ∧ b ≠ 0 ∧ b.natAbs.log2 < 9000 ∧
  ∀ (t u : Int) (H' : Hp), Fr t u a b → H' p = some (.ins C dx (mf t u)) → (∀ c o, H c = some o → c ≠ p → H' c = some o) → Q .non H'
theorem made {C : Addr} {H : Hp} {Q : VK} {E : XK} {a b : Int} (hb : b ≠ 0) (hl : b.natAbs.log2 < 9000) (k : ∀ (p : Addr) (t u : Int) (H' : Hp), H p = none → Same H H' → MAt C H' p t u → Fr t u a b → Q (.ref p) H') :
    ∀ x dx, H x = none → H dx = none → dx ≠ x → sp_minit C [.ref x, .int a, .int b] (upd (upd H dx (.own x)) x (.ins C dx [])) (fun v H2 => v = .non ∧ Q (.ref x) H2) E := by
  intro x dx nx nd ne
  refine ⟨x, dx, a, b, rfl, upd_same, hb, hl, fun t u H' fr hx kp => ⟨rfl, ?_⟩⟩
  refine k x t u H' nx (fun c o e => ?_) ⟨dx, hx⟩ fr
  have n1 : c ≠ x := ne_of_none e nx
  refine kp c o ?_ n1
  rw [upd_ne n1]
  exact up1 nd e
def sp_whole : Sp := fun vs H Q _ => ∃ n : Int, vs = [.int n] ∧ Q (.bl true) H
def sp_common : Sp := fun vs H Q _ => ∃ a b : Int, vs = [.int a, .int b] ∧ Q (.int (Int.gcd a b : Int)) H
def lessA (t u t' u' : Int) (al : Bool) : Bool := decide (t * u' < t' * u) || (al && decide (t * u' = t' * u))
def sp_below (C : Addr) : Sp := fun vs H Q _ => ∃ (p q : Addr) (t u t' u' : Int) (al : Bool), vs = [.ref p, .ref q, .bl al] ∧ MAt C H p t u ∧ MAt C H q t' u' ∧ Sz 9000 t ∧ Sz 9000 u ∧ Sz 9000 t' ∧ Sz 9000 u' ∧ Q (.bl (lessA t u t' u' al)) H
theorem Kp.get {h q : Addr} {H H' : Hp} {o : HO} {n : Nat} (k : Kp h H H') (hh : HandAt H h n) (e : H q = some o) (no : notHand o = true) : H' q = some o := k _ _ e (hh.apart e no)
theorem _root_.L2.Same.get {q : Addr} {H H' : Hp} {o : HO} (k : Same H H') (e : H q = some o) : H' q = some o := k _ _ e
theorem _root_.L2.Same.ofKp {h : Addr} {H H1 H2 : Hp} (s : Same H H1) (nh : H h = none) (k : Kp h H1 H2) : Same H H2 := fun c o e => k c o (s c o e) (ne_of_none e nh)
theorem _root_.L2.Same.up {p : Addr} {H H1 : Hp} {u : HO} (s : Same H H1) (hp : H1 p = none) : Same H (upd H1 p u) := s.trans (same1 hp)
theorem isTrueN {b : Bool} (h : ¬ b = true) : b = false := by cases b <;> simp_all
theorem sgn_cases (b : Int) : sgn b = 1 ∨ sgn b = -1 := by unfold sgn; split <;> simp
/-! ### rules with the written part by its name (for the blocks of comprehensions) -/
section
variable {X : Cx} {K : PySem.W.Frag}
theorem ixl (hK : X.K = K := by rfl) : IxR X (rIxL K) := by subst hK; exact ix_list
theorem ixt (hK : X.K = K := by rfl) : IxR X (rIxT K) := by subst hK; exact ix_tup
theorem isi (hK : X.K = K := by rfl) : CallR X (.builtin "isinstance") (rIsi K) := by subst hK; exact call_isi
def rLenS (K : PySem.W.Frag) : List V → Hp → VK → Prop := fun xs H Q => ∃ p ys, xs = [.ref p] ∧ (SqL K H p ys ∨ SqT K H p ys) ∧ Q (.int (ys.length : Int)) H
theorem lenS (hK : X.K = K := by rfl) : CallR X (.builtin "len") (rLenS K) := by subst hK; exact call_len_seq
theorem allK (hK : X.K = K := by rfl) (hc : X.calm = true := by rfl) : CallR X (.builtin "all") (rAll K) := by subst hK; exact cr_all hc
theorem anyK (hK : X.K = K := by rfl) (hc : X.calm = true := by rfl) : CallR X (.builtin "any") (rAny K) := by subst hK; exact cr_any hc
theorem inK (hK : X.K = K := by rfl) : OpR X (compareOp .In) (rIn K false) := by subst hK; exact op_in_seq
theorem fldK {e : Expr} {f : Str} {pos : Pos} {ta : TE} (he : PE X e ta) (hb : attributeBase e f X.env (eval e X.env) = eval e X.env) (hK : X.K = K := by rfl) : PE X (.Attribute e f pos) (tFld K ta f) := by subst hK; exact pe_fld he hb
end
theorem yesT {te : TE} {σ : L2.St} {H : Hp} {N : VK} {M : Hp → Prop} (h : te σ H N) : tYes σ H (fun b H3 => if b = true then te σ H3 N else M H3) := by
  show (if true = true then te σ H N else M H)
  rw [if_pos rfl]; exact h
theorem made_same {H H' : Hp} {x dx C : Addr} (nx : H x = none) (nd : H dx = none) (kp : ∀ c o, (upd (upd H dx (.own x)) x (.ins C dx [])) c = some o → c ≠ x → H' c = some o) : Same H H' := fun c o e => by
  have n1 : c ≠ x := ne_of_none e nx
  refine kp c o ?_ n1
  rw [upd_ne n1]
  exact up1 nd e
/-! ### the head's facts, and more of them -/
def obsM (n : Nat) (fa : List He.Fa) (fn : List He.DefD) (ex : List (PySem.W.Frag → Bool)) (g : Addr → Option Obj) : He.AlD × Bool := (He.obsDG n fa fn g, ex.all fun f => f (He.frG g (He.asD g n)))
def hookM (n : Nat) (fa : List He.Fa) (fn : List He.DefD) (ex : List (PySem.W.Frag → Bool)) : PySem.W.Hook where
  α := He.AlD × Bool
  obs := fun s => obsM n fa fn ex s.heap.get?
  val := fun _ => (He.valD fn, true)
  says := fun _ h => ∃ K : PySem.W.Frag, K.In h ∧ He.SaysD fa fn K ∧ (ex.all fun f => f K) = true
  of := fun _ _ e => ⟨_, He.frG_in, congrArg (fun z : He.AlD × Bool => z.1) e, congrArg (fun z : He.AlD × Bool => z.2) e⟩
  keeps := fun _ _ _ ⟨K, hK, c⟩ k => ⟨K, PySem.W.Frag.In.keeps hK k, c⟩
theorem obsM_eq {n : Nat} {fa : List He.Fa} {fn : List He.DefD} {ex : List (PySem.W.Frag → Bool)} {g : Addr → Option Obj} {s : Shared} (h : ∀ a, g a = s.heap.get? a) : obsM n fa fn ex g = (hookM n fa fn ex).obs s := by
  have e : g = s.heap.get? := funext h
  rw [e] <;> rfl
theorem ex_at {ex : List (PySem.W.Frag → Bool)} {K : PySem.W.Frag} (c : (ex.all fun f => f K) = true) (i : Nat) {f : PySem.W.Frag → Bool} (h : ex[i]? = some f) : f K = true := List.all_eq_true.mp c f (List.mem_of_getElem? h)
/-- what isinstance asks of an own class -/
structure IsC (K : PySem.W.Frag) (C : Addr) : Prop where
  ha : PySem.W.findIn K (.ref C) "__class__" = some (some (.builtin "object.__class__"))
  hn : PySem.W.specialIn K (.builtin "object.__class__") "__get__" = some (some (.builtin "getset_descriptor.__get__"))
  htk : PySem.W.takesIn K (.builtin "object.__class__") = some true
  hm : PySem.W.mroIn K C (.type "object") = some true
def isCB (x : Str) : PySem.W.Frag → Bool := fun K => He.eqO (PySem.W.findIn K (.ref (He.ga K x)) "__class__") (some (some (.builtin "object.__class__"))) && (He.eqO (PySem.W.specialIn K (.builtin "object.__class__") "__get__") (some (some (.builtin "getset_descriptor.__get__"))) &&
  (decide (PySem.W.takesIn K (.builtin "object.__class__") = some true) && decide (PySem.W.mroIn K (He.ga K x) (.type "object") = some true)))
theorem isC_ok {x : Str} {K : PySem.W.Frag} (c : isCB x K = true) : IsC K (He.ga K x) := by
  obtain ⟨c1, c⟩ := He.ba c
  obtain ⟨c2, c⟩ := He.ba c
  obtain ⟨c3, c4⟩ := He.ba c
  exact ⟨He.eqO_ok c1, He.eqO_ok c2, of_decide_eq_true c3, of_decide_eq_true c4⟩
/-- a class by name: an own one, a built-in one -/
def cv (K : PySem.W.Frag) : Str ⊕ String → Value
  | .inl x => .ref (He.ga K x)
  | .inr n => .type n
def kitF (a b : Str ⊕ String) (r : Bool) : PySem.W.Frag → Bool := fun K => decide (PySem.W.kitOne K (cv K a) (cv K b) = some r)
theorem kitF_ok {a b : Str ⊕ String} {r : Bool} {K : PySem.W.Frag} (c : kitF a b r K = true) : PySem.W.kitOne K (cv K a) (cv K b) = some r := of_decide_eq_true c
theorem tyM {K : PySem.W.Frag} {H : Hp} {a C dx : Addr} {fs : List (Str × V)} (e : H a = some (.ins C dx fs)) (cl : Cls K C) (i : IsC K C) : TyX K H (.ref a) (.ref C) := .base (.ins e cl i.ha i.hn i.htk i.hm)
/-! ### sums and parts of Measures -/
/-- the same fraction once more -/
theorem Fr.of {t u a b c d : Int} (f : Fr t u a b) (hb : b ≠ 0) (e : a * d = c * b) : t * d = c * u := by
  have h1 := f.eq
  have h2 : (t * d) * b = (c * u) * b := by
    calc (t * d) * b = (t * b) * d := by simp only [Int.mul_assoc, Int.mul_comm, Int.mul_left_comm]
      _ = (a * u) * d := by rw [h1]
      _ = (a * d) * u := by simp only [Int.mul_assoc, Int.mul_comm, Int.mul_left_comm]
      _ = (c * b) * u := by rw [e]
      _ = (c * u) * b := by simp only [Int.mul_assoc, Int.mul_comm, Int.mul_left_comm]
  exact Int.eq_of_mul_eq_mul_right hb h2
/-- what stood at the start stands (by another name than the steps') -/
structure Old (H H' : Hp) : Prop where
  s : Same H H'
theorem Old.refl (H : Hp) : Old H H := ⟨Same.refl _⟩
theorem Old.up {p : Addr} {H H1 : Hp} {u : HO} (a : Old H H1) (hp : H1 p = none) : Old H (upd H1 p u) := ⟨a.s.up hp⟩
theorem Old.then {H H1 H2 : Hp} (a : Old H H1) (b : Same H1 H2) : Old H H2 := ⟨a.s.trans b⟩
theorem Old.kp {h : Addr} {H H1 H2 : Hp} (a : Old H H1) (nh : H h = none) (k : Kp h H1 H2) : Old H H2 := ⟨a.s.ofKp nh k⟩
theorem Old.put {h : Addr} {H H1 : Hp} {u : HO} (a : Old H H1) (nh : H h = none) : Old H (upd H1 h u) := ⟨fun c o e => by rw [upd_ne (ne_of_none e nh)]; exact a.s _ _ e⟩
/-- a list is changed, what is no list stays -/
theorem up2 {H : Hp} {l x : Addr} {xs : List V} {o u : HO} (hl : H l = some (.lst xs)) (hx : H x = some o) (no : notHand o = true) : upd H l u x = some o := by
  rw [upd_ne (ne_of hx hl (by intro e; rw [e] at no; cases no))]; exact hx
end My
namespace My
open PySem PySem.Spec PyProof.Rows L2
/-! ### fractions as pairs, stretches as ends -/
abbrev Q2 := Int × Int
def ltq (a b : Q2) : Bool := decide (a.1 * b.2 < b.1 * a.2)
def eqq (a b : Q2) : Bool := decide (a.1 * b.2 = b.1 * a.2)
def someB : Option Q2 → Option Q2 → Bool → Bool → Bool
  | some a, some b, ia, ib => ltq a b || (eqq a b && ia && ib)
  | _, _, _, _ => true
def Re (a b : Q2) : Prop := 0 < a.2 ∧ 0 < b.2 ∧ a.1 * b.2 = b.1 * a.2
def ReO : Option Q2 → Option Q2 → Prop
  | none, none => True
  | some a, some b => Re a b
  | _, _ => False
theorem Re.symm {a b : Q2} (h : Re a b) : Re b a := ⟨h.2.1, h.1, h.2.2.symm⟩
theorem Re.refl {a : Q2} (h : 0 < a.2) : Re a a := ⟨h, h, rfl⟩
theorem ReO.symm : ∀ {a b : Option Q2}, ReO a b → ReO b a
  | none, none, _ => trivial
  | some _, some _, h => Re.symm h
  | none, some _, h => h.elim
  | some _, none, h => h.elim
theorem pos_key {a b c d : Q2} (h : Re a c) (g : Re b d) : (a.1 * b.2) * (c.2 * d.2) = (c.1 * d.2) * (a.2 * b.2) := by
  have := h.2.2
  grind
theorem pos_key' {a b c d : Q2} (h : Re a c) (g : Re b d) : (b.1 * a.2) * (c.2 * d.2) = (d.1 * c.2) * (a.2 * b.2) := by
  have := g.2.2
  grind
theorem ltq_congr {a b c d : Q2} (h : Re a c) (g : Re b d) : ltq a b = ltq c d := by
  unfold ltq
  have k1 := pos_key h g
  have k2 := pos_key' h g
  have p1 : 0 < c.2 * d.2 := Int.mul_pos h.2.1 g.2.1
  have p2 : 0 < a.2 * b.2 := Int.mul_pos h.1 g.1
  refine decide_eq_decide.mpr ⟨fun x => ?_, fun x => ?_⟩
  · have := Int.mul_lt_mul_of_pos_right x p1
    rw [k1, k2] at this
    exact Int.lt_of_mul_lt_mul_right this (Int.le_of_lt p2)
  · have := Int.mul_lt_mul_of_pos_right x p2
    rw [← k1, ← k2] at this
    exact Int.lt_of_mul_lt_mul_right this (Int.le_of_lt p1)
theorem eqq_congr {a b c d : Q2} (h : Re a c) (g : Re b d) : eqq a b = eqq c d := by
  unfold eqq
  have k1 := pos_key h g
  have k2 := pos_key' h g
  have p1 : 0 < c.2 * d.2 := Int.mul_pos h.2.1 g.2.1
  have p2 : 0 < a.2 * b.2 := Int.mul_pos h.1 g.1
  refine decide_eq_decide.mpr ⟨fun x => ?_, fun x => ?_⟩
  · rw [x] at k1
    rw [k1] at k2
    exact Int.eq_of_mul_eq_mul_right (by omega) k2
  · rw [x] at k1
    rw [← k2] at k1
    exact Int.eq_of_mul_eq_mul_right (by omega) k1
theorem someB_congr : ∀ {a b c d : Option Q2} {i j : Bool}, ReO a c → ReO b d → someB a b i j = someB c d i j
  | some a, some b, some c, some d, i, j, h, g => by
    show (ltq a b || (eqq a b && i && j)) = (ltq c d || (eqq c d && i && j))
    rw [ltq_congr h g, eqq_congr h g]
  | none, some _, none, some _, _, _, _, _ => rfl
  | none, none, none, none, _, _, _, _ => rfl
  | some _, none, some _, none, _, _, _, _ => rfl
  | some _, _, none, _, _, _, h, _ => h.elim
  | none, _, some _, _, _, _, h, _ => h.elim
  | some _, some _, some _, none, _, _, _, g => g.elim
  | some _, none, some _, some _, _, _, _, g => g.elim
  | none, some _, none, none, _, _, _, g => g.elim
  | none, none, none, some _, _, _, _, g => g.elim
theorem lt_tri (a b : Q2) : (ltq a b = true ∧ eqq a b = false ∧ ltq b a = false) ∨ (ltq a b = false ∧ eqq a b = true ∧ ltq b a = false) ∨ (ltq a b = false ∧ eqq a b = false ∧ ltq b a = true) := by
  unfold ltq eqq
  rcases Int.lt_trichotomy (a.1 * b.2) (b.1 * a.2) with h | h | h
  · exact .inl ⟨decide_eq_true h, decide_eq_false (by omega), decide_eq_false (by omega)⟩
  · exact .inr (.inl ⟨decide_eq_false (by omega), decide_eq_true h, decide_eq_false (by omega)⟩)
  · exact .inr (.inr ⟨decide_eq_false (by omega), decide_eq_false (by omega), decide_eq_true h⟩)
/-- in lowest terms, its numbers of less than four thousand bits -/
structure Low (a : Q2) : Prop where
  pos : 0 < a.2
  co : Int.gcd a.1 a.2 = 1
  s1 : Sz 4000 a.1
  s2 : Sz 4000 a.2
def LowO : Option Q2 → Prop
  | none => True
  | some a => Low a
theorem dvd_co {a b c : Int} (h : a ∣ b * c) (g : Int.gcd a b = 1) : a ∣ c := by
  have h1 : a.natAbs ∣ b.natAbs * c.natAbs := by rw [← Int.natAbs_mul]; exact Int.natAbs_dvd_natAbs.mpr h
  exact Int.natAbs_dvd_natAbs.mp (Nat.Coprime.dvd_of_dvd_mul_left g h1)
theorem low_eq {a b : Q2} (h : Low a) (g : Low b) (e : a.1 * b.2 = b.1 * a.2) : a = b := by
  have h1 := h.pos
  have g1 := g.pos
  have d1 : a.2 ∣ b.2 := by
    have : a.2 ∣ a.1 * b.2 := ⟨b.1, by rw [e, Int.mul_comm]⟩
    exact dvd_co this (by rw [Int.gcd_comm]; exact h.co)
  have d2 : b.2 ∣ a.2 := by
    have : b.2 ∣ b.1 * a.2 := ⟨a.1, by rw [← e, Int.mul_comm]⟩
    exact dvd_co this (by rw [Int.gcd_comm]; exact g.co)
  have e2 : a.2 = b.2 := Int.le_antisymm (Int.le_of_dvd g1 d1) (Int.le_of_dvd h1 d2)
  rw [e2] at e
  exact Prod.ext (Int.eq_of_mul_eq_mul_right (by omega) e) e2
theorem low_eqq {a b : Q2} (h : Low a) (g : Low b) : (decide (a.1 = b.1) && decide (a.2 = b.2)) = eqq a b := by
  unfold eqq
  by_cases e : a.1 * b.2 = b.1 * a.2
  · rw [decide_eq_true e, low_eq h g e]; simp
  · rw [decide_eq_false e]
    cases z1 : decide (a.1 = b.1) with
    | false => rfl
    | true =>
      cases z2 : decide (a.2 = b.2) with
      | false => rfl
      | true =>
        exact absurd (by rw [of_decide_eq_true z1, of_decide_eq_true z2]) e
/-! ### their values -/
/-- None, or the tuple of an end's two numbers -/
def EndV (k : Nat) (H : Hp) (v : V) : Option Q2 → Prop
  | none => v = .non
  | some a => ∃ p, v = .ref p ∧ H p = some (.tup [.int a.1, .int a.2]) ∧ 0 < a.2 ∧ Sz k a.1 ∧ Sz k a.2
theorem EndV.mono {k j : Nat} (l : k ≤ j) {H : Hp} {v : V} : ∀ {e : Option Q2}, EndV k H v e → EndV j H v e
  | none, h => h
  | some _, ⟨p, h1, h2, h3, h4, h5⟩ => ⟨p, h1, h2, h3, h4.mono l, h5.mono l⟩
def MsV (C : Addr) (H : Hp) (v : V) : Option Q2 → Prop
  | none => v = .non
  | some a => ∃ p, v = .ref p ∧ MAt C H p a.1 a.2
theorem EndV.same {k : Nat} {H H' : Hp} {v : V} : ∀ {e : Option Q2}, EndV k H v e → Same H H' → EndV k H' v e
  | none, h, _ => h
  | some _, ⟨p, h1, h2, h3⟩, s => ⟨p, h1, s _ _ h2, h3⟩
theorem EndV.kp {j : Nat} {H H' : Hp} {h : Addr} {n : Nat} {v : V} : ∀ {e : Option Q2}, EndV j H v e → HandAt H h n → Kp h H H' → EndV j H' v e
  | none, h, _, _ => h
  | some _, ⟨p, h1, h2, h3⟩, hh, k => ⟨p, h1, k.get hh h2 rfl, h3⟩
theorem MsV.same {C : Addr} {H H' : Hp} {v : V} : ∀ {e : Option Q2}, MsV C H v e → Same H H' → MsV C H' v e
  | none, h, _ => h
  | some _, ⟨p, h1, h2⟩, s => ⟨p, h1, h2.same s⟩
theorem MsV.kp {C : Addr} {H H' : Hp} {h : Addr} {n : Nat} {v : V} : ∀ {e : Option Q2}, MsV C H v e → HandAt H h n → Kp h H H' → MsV C H' v e
  | none, h, _, _ => h
  | some _, ⟨p, h1, h2⟩, hh, k => ⟨p, h1, h2.kp hh k⟩
/-! ### a Stretch -/
def sf (l h : V) (li hi : Bool) : List (Str × V) := [("low", l), ("high", h), ("low_in", .bl li), ("high_in", .bl hi)]
theorem sf_put (l h : V) (li hi : Bool) : putF "high_in" (.bl hi) (putF "low_in" (.bl li) (putF "high" h (putF "low" l []))) = sf l h li hi := by
  have e1 : putF ("high" : Str) h (putF ("low" : Str) l []) = ([("low", l), ("high", h)] : List (Str × V)) := by
    show (if ("low" : Str) = "high" then [(("low" : Str), h)] else (("low" : Str), l) :: putF "high" h []) = _
    rw [if_neg (by decide +kernel)] <;> rfl
  have e2 : putF ("low_in" : Str) (.bl li) [("low", l), ("high", h)] = ([("low", l), ("high", h), ("low_in", .bl li)] : List (Str × V)) := by
    show (if ("low" : Str) = "low_in" then _ else (("low" : Str), l) :: (if ("high" : Str) = "low_in" then _ else (("high" : Str), h) :: putF "low_in" (V.bl li) [])) = _
    rw [if_neg (by decide +kernel), if_neg (by decide +kernel)] <;> rfl
  have e3 : putF ("high_in" : Str) (.bl hi) [("low", l), ("high", h), ("low_in", .bl li)] = sf l h li hi := by
    show (if ("low" : Str) = "high_in" then _ else (("low" : Str), l) :: (if ("high" : Str) = "high_in" then _ else (("high" : Str), h) :: (if ("low_in" : Str) = "high_in" then _ else (("low_in" : Str), V.bl li) :: putF "high_in" (V.bl hi) []))) = _
    rw [if_neg (by decide +kernel), if_neg (by decide +kernel), if_neg (by decide +kernel)] <;> rfl
  rw [e1, e2, e3]
theorem sf_low (l h : V) (li hi : Bool) : (sf l h li hi).lookup ("low" : Str) = some l := by
  rw [← sf_put, lookup_putF, if_neg (by decide +kernel), lookup_putF, if_neg (by decide +kernel), lookup_putF, if_neg (by decide +kernel), lookup_putF, if_pos rfl]
theorem sf_high (l h : V) (li hi : Bool) : (sf l h li hi).lookup ("high" : Str) = some h := by
  rw [← sf_put, lookup_putF, if_neg (by decide +kernel), lookup_putF, if_neg (by decide +kernel), lookup_putF, if_pos rfl]
theorem sf_low_in (l h : V) (li hi : Bool) : (sf l h li hi).lookup ("low_in" : Str) = some (.bl li) := by
  rw [← sf_put, lookup_putF, if_neg (by decide +kernel), lookup_putF, if_pos rfl]
theorem sf_high_in (l h : V) (li hi : Bool) : (sf l h li hi).lookup ("high_in" : Str) = some (.bl hi) := by
  rw [← sf_put, lookup_putF, if_pos rfl]
theorem sf_no (l h : V) (li hi : Bool) {m : Str} (h1 : ¬ m = "low") (h2 : ¬ m = "high") (h3 : ¬ m = "low_in") (h4 : ¬ m = "high_in") : (sf l h li hi).lookup m = none := by
  rw [← sf_put, lookup_putF, if_neg h4, lookup_putF, if_neg h3, lookup_putF, if_neg h2, lookup_putF, if_neg h1] <;> rfl
/-- a Stretch at p: its ends, whether they are in -/
structure StAt (CM CS : Addr) (H : Hp) (p : Addr) (lo hi : Option Q2) (li hj : Bool) : Prop where
  ob : ∃ dx l h, H p = some (.ins CS dx (sf l h li hj)) ∧ MsV CM H l lo ∧ MsV CM H h hi
  l1 : LowO lo
  l2 : LowO hi
  n1 : lo = none → li = false
  n2 : hi = none → hj = false
theorem StAt.same {CM CS p : Addr} {H H' : Hp} {lo hi : Option Q2} {li hj : Bool} (a : StAt CM CS H p lo hi li hj) (s : Same H H') : StAt CM CS H' p lo hi li hj := by
  obtain ⟨⟨dx, l, h, h1, h2, h3⟩, a1, a2, a3, a4⟩ := a
  exact ⟨⟨dx, l, h, s _ _ h1, h2.same s, h3.same s⟩, a1, a2, a3, a4⟩
theorem StAt.kp {CM CS p h : Addr} {H H' : Hp} {n : Nat} {lo hi : Option Q2} {li hj : Bool} (a : StAt CM CS H p lo hi li hj) (hh : HandAt H h n) (s : Kp h H H') : StAt CM CS H' p lo hi li hj := by
  obtain ⟨⟨dx, l, h, h1, h2, h3⟩, a1, a2, a3, a4⟩ := a
  exact ⟨⟨dx, l, h, s.get hh h1 rfl, h2.kp hh s, h3.kp hh s⟩, a1, a2, a3, a4⟩
/-! ### promises -/
/-- the tuple of two ends and two truths, between which something is -/
structure EndsAt (H : Hp) (p : Addr) (ea eb : Option Q2) (ia ib : Bool) : Prop where
  ob : ∃ va vb, H p = some (.tup [va, vb, .bl ia, .bl ib]) ∧ EndV 140 H va ea ∧ EndV 140 H vb eb
  so : someB ea eb ia ib = true
theorem EndsAt.same {H H' : Hp} {p : Addr} {ea eb : Option Q2} {ia ib : Bool} (a : EndsAt H p ea eb ia ib) (s : Same H H') : EndsAt H' p ea eb ia ib := by
  obtain ⟨⟨va, vb, h1, h2, h3⟩, h4⟩ := a
  exact ⟨⟨va, vb, s _ _ h1, h2.same s, h3.same s⟩, h4⟩
theorem EndsAt.kp {H H' : Hp} {p h : Addr} {n : Nat} {ea eb : Option Q2} {ia ib : Bool} (a : EndsAt H p ea eb ia ib) (hh : HandAt H h n) (s : Kp h H H') : EndsAt H' p ea eb ia ib := by
  obtain ⟨⟨va, vb, h1, h2, h3⟩, h4⟩ := a
  exact ⟨⟨va, vb, s.get hh h1 rfl, h2.kp hh s, h3.kp hh s⟩, h4⟩
theorem MsV.put {CM p C dx : Addr} {H : Hp} {v : V} {o : HO} (hp : H p = some (.ins C dx [])) : ∀ {m : Option Q2}, MsV CM H v m → MsV CM (upd H p o) v m
  | none, h => h
  | some _, ⟨q, h1, ⟨dy, h2⟩⟩ => ⟨q, h1, ⟨dy, by
      rw [upd_ne (ne_of h2 hp (by intro e; injection e with _ _ e; cases e))]; exact h2⟩⟩
theorem ReO.isS : ∀ {a b : Option Q2}, ReO a b → a.isSome = b.isSome
  | none, none, _ => rfl
  | some _, some _, _ => rfl
  | none, some _, h => h.elim
  | some _, none, h => h.elim
theorem Fr.re {t u a b : Int} (f : Fr t u a b) (hb : 0 < b) : Re (t, u) (a, b) := ⟨f.pos, hb, f.eq⟩
/-! ### what two stretches have in common -/
def cutLo : Option Q2 → Bool → Option Q2 → Bool → Option Q2 × Bool
  | none, _, n, j => (n, j)
  | some a, i, none, _ => (some a, i)
  | some a, i, some b, j => if ltq a b then (some b, j) else if eqq a b then (some a, i && j) else (some a, i)
def cutHi : Option Q2 → Bool → Option Q2 → Bool → Option Q2 × Bool
  | none, _, n, j => (n, j)
  | some a, i, none, _ => (some a, i)
  | some a, i, some b, j => if ltq b a then (some b, j) else if eqq a b then (some a, i && j) else (some a, i)
/-- the same end, and in or not alike where there is one -/
def Alike (x y : Option Q2 × Bool) : Prop := ReO x.1 y.1 ∧ (x.1.isSome = true → x.2 = y.2)
theorem Alike.flag {x y : Option Q2 × Bool} (h : Alike x y) : (x.2 && x.1.isSome) = (y.2 && y.1.isSome) := by
  obtain ⟨h1, h2⟩ := h
  rw [← h1.isS]
  cases e : x.1.isSome with
  | true => rw [h2 e]
  | false => simp
theorem Alike.someB {x y z w : Option Q2 × Bool} (h : Alike x y) (g : Alike z w) : My.someB x.1 z.1 x.2 z.2 = My.someB y.1 w.1 y.2 w.2 := by
  obtain ⟨x, i⟩ := x
  obtain ⟨y, j⟩ := y
  obtain ⟨z, k⟩ := z
  obtain ⟨w, l⟩ := w
  obtain ⟨h1, h2⟩ := h
  obtain ⟨g1, g2⟩ := g
  rw [someB_congr h1 g1]
  cases x with
  | none => cases y with
    | none => rfl
    | some _ => exact h1.elim
  | some a => cases z with
    | none => cases w with
      | none => cases y <;> rfl
      | some _ => exact g1.elim
    | some b =>
      have e1 : i = j := h2 rfl
      have e2 : k = l := g2 rfl
      rw [e1, e2]
theorem Alike.norm {a b : Option Q2} {i : Bool} (h : ReO a b) : Alike (a, i && b.isSome) (b, i) := ⟨h, fun e => by
  have e1 : a.isSome = true := e
  rw [h.isS] at e1
  show (i && b.isSome) = i
  rw [e1]; simp⟩
/-- a Stretch, or None where nothing is between -/
def CutV (CM CS : Addr) (H : Hp) (v : V) (lo hi : Option Q2 × Bool) : Prop :=
  (someB lo.1 hi.1 lo.2 hi.2 = true ∧ ∃ r, v = .ref r ∧ StAt CM CS H r lo.1 hi.1 (lo.2 && lo.1.isSome) (hi.2 && hi.1.isSome)) ∨ (someB lo.1 hi.1 lo.2 hi.2 = false ∧ v = .non)
/-- the law's own: a tuple of four, or None -/
def DueV (H : Hp) (v : V) (lo hi : Option Q2 × Bool) : Prop :=
  (someB lo.1 hi.1 lo.2 hi.2 = true ∧ ∃ r, v = .ref r ∧ EndsAt H r lo.1 hi.1 lo.2 hi.2) ∨ (someB lo.1 hi.1 lo.2 hi.2 = false ∧ v = .non)
theorem DueV.same {H H' : Hp} {v : V} {lo hi : Option Q2 × Bool} (h : DueV H v lo hi) (s : Same H H') : DueV H' v lo hi := by
  rcases h with ⟨h1, r, h2, h3⟩ | h
  · exact .inl ⟨h1, r, h2, h3.same s⟩
  · exact .inr h
theorem CutV.same {CM CS : Addr} {H H' : Hp} {v : V} {lo hi : Option Q2 × Bool} (h : CutV CM CS H v lo hi) (s : Same H H') : CutV CM CS H' v lo hi := by
  rcases h with ⟨h1, r, h2, h3⟩ | h
  · exact .inl ⟨h1, r, h2, h3.same s⟩
  · exact .inr h
/-- what is told is what is due -/
def Match (CM CS : Addr) (H : Hp) (found due : V) : Prop :=
  (found = .non ∧ due = .non) ∨ ∃ (r d : Addr) (lo hi ea eb : Option Q2) (ia ib : Bool), found = .ref r ∧ due = .ref d ∧ EndsAt H d ea eb ia ib ∧ StAt CM CS H r lo hi (ia && ea.isSome) (ib && eb.isSome) ∧ ReO lo ea ∧ ReO hi eb
theorem Match.same {CM CS : Addr} {H H' : Hp} {f d : V} (h : Match CM CS H f d) (s : Same H H') : Match CM CS H' f d := by
  rcases h with h | ⟨r, d, lo, hi, ea, eb, ia, ib, h1, h2, h3, h4, h5, h6⟩
  · exact .inl h
  · exact .inr ⟨r, d, lo, hi, ea, eb, ia, ib, h1, h2, h3.same s, h4.same s, h5, h6⟩
theorem Re.trans {a b c : Q2} (h : Re a b) (g : Re b c) : Re a c := by
  obtain ⟨h1, h2, h3⟩ := h
  obtain ⟨g1, g2, g3⟩ := g
  refine ⟨h1, g2, Int.eq_of_mul_eq_mul_right (show b.2 ≠ 0 by omega) ?_⟩
  grind
theorem ReO.trans : ∀ {a b c : Option Q2}, ReO a b → ReO b c → ReO a c
  | none, none, none, _, _ => trivial
  | some _, some _, some _, h, g => Re.trans h g
  | none, some _, _, h, _ => h.elim
  | some _, none, _, h, _ => h.elim
  | none, none, some _, _, g => g.elim
  | some _, some _, none, _, g => g.elim
def PosO : Option Q2 → Prop
  | none => True
  | some a => 0 < a.2
theorem ReO.refl : ∀ {a : Option Q2}, PosO a → ReO a a
  | none, _ => trivial
  | some _, h => Re.refl h
theorem Alike.trans {x y z : Option Q2 × Bool} (h : Alike x y) (g : Alike y z) : Alike x z := ⟨h.1.trans g.1, fun e => (h.2 e).trans (g.2 (by rw [← h.1.isS]; exact e))⟩
theorem StAt.raw {CM CS p : Addr} {H : Hp} {lo hi : Option Q2} {li hj : Bool} (a : StAt CM CS H p lo hi li hj) {m : Str} (h1 : ¬ m = "low") (h2 : ¬ m = "high") (h3 : ¬ m = "low_in") (h4 : ¬ m = "high_in") : ∃ dx fs, H p = some (.ins CS dx fs) ∧ fs.lookup m = none := by
  obtain ⟨⟨dx, l, h, e, _⟩, _⟩ := a
  exact ⟨dx, _, e, sf_no _ _ _ _ h1 h2 h3 h4⟩
theorem EndsAt.due {H : Hp} {p : Addr} {ea eb : Option Q2} {ia ib : Bool} (a : EndsAt H p ea eb ia ib) : DueV H (.ref p) (ea, ia) (eb, ib) := .inl ⟨a.so, p, rfl, a⟩
/-! ### what a stretch holds -/
def loIn : Option Q2 → Bool → Q2 → Bool
  | none, _, _ => true
  | some a, i, x => ltq a x || (i && eqq a x)
def hiIn : Option Q2 → Bool → Q2 → Bool
  | none, _, _ => true
  | some b, j, x => ltq x b || (j && eqq x b)
theorem ltq_trans {a b c : Q2} (hb : 0 < b.2) (ha : 0 < a.2) (hc : 0 < c.2) (h : ltq a b = true) (g : ltq b c = true) : ltq a c = true := by
  unfold ltq at *
  have h := of_decide_eq_true h
  have g := of_decide_eq_true g
  refine decide_eq_true ?_
  have h2 := Int.mul_lt_mul_of_pos_right h hc
  have g2 := Int.mul_lt_mul_of_pos_right g ha
  have e1 : b.1 * a.2 * c.2 = b.1 * c.2 * a.2 := by simp only [Int.mul_assoc, Int.mul_comm, Int.mul_left_comm]
  rw [e1] at h2
  have k := Int.lt_trans h2 g2
  have e2 : a.1 * b.2 * c.2 = a.1 * c.2 * b.2 := by simp only [Int.mul_assoc, Int.mul_comm, Int.mul_left_comm]
  have e3 : c.1 * b.2 * a.2 = c.1 * a.2 * b.2 := by simp only [Int.mul_assoc, Int.mul_comm, Int.mul_left_comm]
  rw [e2, e3] at k
  exact Int.lt_of_mul_lt_mul_right k (Int.le_of_lt hb)
theorem eqq_re {a b : Q2} (ha : 0 < a.2) (hb : 0 < b.2) (h : eqq a b = true) : Re a b := ⟨ha, hb, of_decide_eq_true h⟩
theorem loIn_alike {x y : Option Q2 × Bool} {q r : Q2} (h : Alike x y) (g : Re q r) : loIn x.1 x.2 q = loIn y.1 y.2 r := by
  obtain ⟨x, i⟩ := x
  obtain ⟨y, j⟩ := y
  obtain ⟨h1, h2⟩ := h
  cases x with
  | none => cases y with
    | none => rfl
    | some _ => exact h1.elim
  | some a => cases y with
    | none => exact h1.elim
    | some b =>
      have e : i = j := h2 rfl
      show (ltq a q || (i && eqq a q)) = (ltq b r || (j && eqq b r))
      rw [ltq_congr h1 g, eqq_congr h1 g, e]
theorem hiIn_alike {x y : Option Q2 × Bool} {q r : Q2} (h : Alike x y) (g : Re q r) : hiIn x.1 x.2 q = hiIn y.1 y.2 r := by
  obtain ⟨x, i⟩ := x
  obtain ⟨y, j⟩ := y
  obtain ⟨h1, h2⟩ := h
  cases x with
  | none => cases y with
    | none => rfl
    | some _ => exact h1.elim
  | some a => cases y with
    | none => exact h1.elim
    | some b =>
      have e : i = j := h2 rfl
      show (ltq q a || (i && eqq q a)) = (ltq r b || (j && eqq r b))
      rw [ltq_congr g h1, eqq_congr g h1, e]
theorem loIn_up {a b x : Q2} {i j : Bool} (ha : 0 < a.2) (hb : 0 < b.2) (hx : 0 < x.2) (h : ltq a b = true) (g : (ltq b x || (j && eqq b x)) = true) : (ltq a x || (i && eqq a x)) = true := by
  have e : ltq a x = true := by
    cases e1 : ltq b x with
    | true => exact ltq_trans hb ha hx h e1
    | false =>
      rw [e1, Bool.false_or] at g
      have e2 := (Bool.and_eq_true_iff.mp g).2
      rw [← ltq_congr (Re.refl ha) (eqq_re hb hx e2)]
      exact h
  rw [e]; rfl
theorem hiIn_up {a b x : Q2} {i j : Bool} (ha : 0 < a.2) (hb : 0 < b.2) (hx : 0 < x.2) (h : ltq b a = true) (g : (ltq x b || (j && eqq x b)) = true) : (ltq x a || (i && eqq x a)) = true := by
  have e : ltq x a = true := by
    cases e1 : ltq x b with
    | true => exact ltq_trans hb hx ha e1 h
    | false =>
      rw [e1, Bool.false_or] at g
      have e2 := (Bool.and_eq_true_iff.mp g).2
      rw [ltq_congr (eqq_re hx hb e2) (Re.refl ha)]
      exact h
  rw [e]; rfl
theorem cutLo_in {a b : Option Q2} {i j : Bool} {x : Q2} (ha : PosO a) (hb : PosO b) (hx : 0 < x.2) : loIn (cutLo a i b j).1 (cutLo a i b j).2 x = (loIn a i x && loIn b j x) := by
  cases a with
  | none => rfl
  | some a => cases b with
    | none => exact (Bool.and_true _).symm
    | some b =>
      show loIn (if ltq a b then (some b, j) else if eqq a b then (some a, i && j) else (some a, i)).1 (if ltq a b then (some b, j) else if eqq a b then (some a, i && j) else (some a, i)).2 x = ((ltq a x || (i && eqq a x)) && (ltq b x || (j && eqq b x)))
      rcases lt_tri a b with ⟨h1, h2, h3⟩ | ⟨h1, h2, h3⟩ | ⟨h1, h2, h3⟩
      · rw [h1]
        show (ltq b x || (j && eqq b x)) = _
        cases e : (ltq b x || (j && eqq b x)) with
        | false => simp
        | true => rw [loIn_up ha hb hx h1 e]; rfl
      · rw [h1, h2]
        show (ltq a x || (i && j && eqq a x)) = _
        have r := eqq_re ha hb h2
        rw [← ltq_congr r (Re.refl hx), ← eqq_congr r (Re.refl hx)]
        cases ltq a x <;> cases eqq a x <;> cases i <;> cases j <;> rfl
      · rw [h1, h2]
        show (ltq a x || (i && eqq a x)) = _
        cases e : (ltq a x || (i && eqq a x)) with
        | false => rfl
        | true => rw [loIn_up hb ha hx h3 e]; rfl
theorem cutHi_in {a b : Option Q2} {i j : Bool} {x : Q2} (ha : PosO a) (hb : PosO b) (hx : 0 < x.2) : hiIn (cutHi a i b j).1 (cutHi a i b j).2 x = (hiIn a i x && hiIn b j x) := by
  cases a with
  | none => rfl
  | some a => cases b with
    | none => exact (Bool.and_true _).symm
    | some b =>
      show hiIn (if ltq b a then (some b, j) else if eqq a b then (some a, i && j) else (some a, i)).1 (if ltq b a then (some b, j) else if eqq a b then (some a, i && j) else (some a, i)).2 x = ((ltq x a || (i && eqq x a)) && (ltq x b || (j && eqq x b)))
      rcases lt_tri a b with ⟨h1, h2, h3⟩ | ⟨h1, h2, h3⟩ | ⟨h1, h2, h3⟩
      · rw [h3, h2]
        show (ltq x a || (i && eqq x a)) = _
        cases e : (ltq x a || (i && eqq x a)) with
        | false => rfl
        | true => rw [hiIn_up hb ha hx h1 e]; rfl
      · rw [h3, h2]
        show (ltq x a || (i && j && eqq x a)) = _
        have r := eqq_re ha hb h2
        rw [← ltq_congr (Re.refl hx) r, ← eqq_congr (Re.refl hx) r]
        cases ltq x a <;> cases eqq x a <;> cases i <;> cases j <;> rfl
      · rw [h3]
        show (ltq x b || (j && eqq x b)) = _
        cases e : (ltq x b || (j && eqq x b)) with
        | false => simp
        | true => rw [hiIn_up ha hb hx h3 e]; rfl
/-! ### sums, once more, by the size of the new bottom -/
def sp_bin2 (C : Addr) (f g : Int → Int → Int → Int → Int) : Sp := fun vs H Q _ => ∃ (p q : Addr) (t u t' u' : Int), vs = [.ref p, .ref q] ∧ MAt C H p t u ∧ MAt C H q t' u' ∧ 0 < u ∧ 0 < u' ∧ Sz 100000 t ∧ Sz 100000 u ∧ Sz 100000 t' ∧ Sz 100000 u' ∧ Sz 9000 (u * u') ∧
  ∀ (r : Addr) (t2 u2 : Int) (H' : Hp), H r = none → Same H H' → MAt C H' r t2 u2 → Fr t2 u2 (f t u t' u') (g t u t' u') → Q (.ref r) H'
/-- a Measure that the stretch holds -/
structure Held (CM : Addr) (H : Hp) (r : Addr) (x : Q2) (lo hi : Option Q2) (li hj : Bool) : Prop where
  at_ : MAt CM H r x.1 x.2
  pos : 0 < x.2
  s1 : Sz 15000 x.1
  s2 : Sz 15000 x.2
  low : loIn lo li x = true
  high : hiIn hi hj x = true
/-- a Measure in both, or None -/
def ShV (CM : Addr) (H : Hp) (v : V) (m1 m2 n1 n2 : Option Q2) (i1 i2 j1 j2 : Bool) : Prop :=
  (someB (cutLo m1 i1 n1 j1).1 (cutHi m2 i2 n2 j2).1 (cutLo m1 i1 n1 j1).2 (cutHi m2 i2 n2 j2).2 = true ∧ ∃ r x, v = .ref r ∧ Held CM H r x m1 m2 i1 i2 ∧ Held CM H r x n1 n2 j1 j2) ∨
  (someB (cutLo m1 i1 n1 j1).1 (cutHi m2 i2 n2 j2).1 (cutLo m1 i1 n1 j1).2 (cutHi m2 i2 n2 j2).2 = false ∧ v = .non)
theorem Held.same {CM r : Addr} {H H' : Hp} {x : Q2} {lo hi : Option Q2} {li hj : Bool} (a : Held CM H r x lo hi li hj) (s : Same H H') : Held CM H' r x lo hi li hj := ⟨a.at_.same s, a.pos, a.s1, a.s2, a.low, a.high⟩
theorem ShV.same {CM : Addr} {H H' : Hp} {v : V} {m1 m2 n1 n2 : Option Q2} {i1 i2 j1 j2 : Bool} (a : ShV CM H v m1 m2 n1 n2 i1 i2 j1 j2) (s : Same H H') : ShV CM H' v m1 m2 n1 n2 i1 i2 j1 j2 := by
  rcases a with ⟨e, r, x, h1, h2, h3⟩ | h
  · exact .inl ⟨e, r, x, h1, h2.same s, h3.same s⟩
  · exact .inr h
theorem eqq_self (a : Q2) : eqq a a = true := decide_eq_true rfl
/-! ### lists of points, made in comprehensions -/
/-- all but lists stays -/
def Nl (H H' : Hp) : Prop := ∀ c o, H c = some o → notHand o = true → H' c = some o
theorem Nl.of {H H' : Hp} (s : Same H H') : Nl H H' := fun c o e _ => s c o e
theorem Nl.put {H : Hp} {l : Addr} {xs : List V} {u : HO} (h : H l = some (.lst xs)) : Nl H (upd H l u) := fun c o e no => up2 h e no
theorem EndV.nl {k : Nat} {H H' : Hp} {v : V} : ∀ {e : Option Q2}, EndV k H v e → Nl H H' → EndV k H' v e
  | none, h, _ => h
  | some _, ⟨p, h1, h2, h3⟩, s => ⟨p, h1, s _ _ h2 rfl, h3⟩
def PtV (k : Nat) (H : Hp) (v : V) : Prop := ∃ a : Q2, EndV k H v (some a)
theorem PtV.nl {k : Nat} {H H' : Hp} {v : V} (h : PtV k H v) (s : Nl H H') : PtV k H' v := by
  obtain ⟨a, h⟩ := h
  exact ⟨a, h.nl s⟩
theorem lcpT {K : PySem.W.Frag} {a : Addr} {xs : List V} {g : TG} {tt : TT} {te : TE} {vs : List Nat} {σ : L2.St} {H1 : Hp} {D : Addr} {Qd : Hp → Prop} (R : Hp → V → Prop) (hR : ∀ H H' y, R H y → Nl H H' → R H' y) (hz : xs.length < sizeLine) (hS : SqT K H1 a xs) (hD : H1 D = none)
    (hs : ∀ (i : Nat) (x : V) (H : Hp) (N : VK) (M : Hp → Prop), xs[i]? = some x → Same H1 H → (∀ y H4, Same H H4 → R H4 y → N y H4) → M H → g x (wipe σ vs) H fun σ2 H2 => wipe σ2 vs = wipe σ vs ∧ tt σ2 H2 fun b H3 => if b = true then te σ2 H3 N else M H3)
    (hd : ∀ H ys, Same H1 H → H D = some (.lst ys) → ys.length ≤ xs.length → (∀ y ∈ ys, R H y) → Qd H) :
    ∃ W : Nat → Nat → Hp → Prop, (∃ m, W 0 m (upd H1 D (.lst []))) ∧ ∀ i m H, W i m H →
      ((Itt K a).stop i H ∧ Qd H) ∨ ((Itt K a).go i H ∧ ∃ Nx : Hp → Prop, (∀ H', Nx H' → ∃ m', m' < m ∧ W (i + 1) m' H') ∧ ∀ x H', (Itt K a).yld i H x H' → g x (wipe σ vs) H' fun σ2 H2 => wipe σ2 vs = wipe σ vs ∧ tt σ2 H2 fun b H3 =>
        if b = true then te σ2 H3 fun y H4 => ∃ acc, H4 D = some (.lst acc) ∧ acc.length < sizeLine ∧ Nx (upd H4 D (.lst (acc ++ [y]))) else Nx H3) := by
  refine lc_tup (fun i H => Same H1 H ∧ ∃ ys, H D = some (.lst ys) ∧ ys.length ≤ i ∧ ∀ y ∈ ys, R H y) ⟨same1 hD, [], upd_same, Nat.le_refl _, fun y hy => nomatch hy⟩ (fun i H _ p => p.1.sqt hS) (fun i x H hx p => ?_) (fun H p => ?_)
  · have hi : i < xs.length := (List.getElem?_eq_some_iff.mp hx).1
    obtain ⟨s1, ys, h1, h2, h3⟩ := p
    refine hs i x H _ _ hx s1 (fun y H4 s4 r4 => ⟨ys, s4 _ _ h1, by omega, ?_, ys ++ [y], upd_same, ?_, ?_⟩) ⟨s1, ys, h1, by omega, h3⟩
    · intro c o e
      rw [upd_ne (ne_of_none e hD)]
      exact s4 _ _ (s1 _ _ e)
    · rw [List.length_append, List.length_singleton]; omega
    · intro z hz
      have n4 : Nl H4 (upd H4 D (.lst (ys ++ [y]))) := Nl.put (s4 _ _ h1)
      rcases List.mem_append.mp hz with hz | hz
      · exact hR _ _ _ (hR _ _ _ (h3 z hz) (Nl.of s4)) n4
      · have : z = y := by simpa using hz
        subst this
        exact hR _ _ _ r4 n4
  · obtain ⟨s1, ys, h1, h2, h3⟩ := p
    exact hd H ys s1 h1 h2 h3
end My
namespace My
open PySem PySem.Spec PyProof.Rows L2
/-! ### errors -/
section
variable {P : Program} {w : World} {K : PySem.W.Frag} {mg : Str → Option Value} {base : Heap} {k : Nat} {f : Addr} {fd : FuncData} {ps : List Str}
/-- a def that lets nothing out keeps its promise where more may be let out -/
theorem lift {CX : CXT} {sp : Sp} (F : FnOk P w K mg base CX0 k f fd ps sp) : FnOk P w K mg base CX k f fd ps sp :=
  ⟨F.len, fun A outer s H args us vs Q E hr he hb hv hs => codeAny_mono (F.run A outer s H args us vs Q E hr he hb hv hs) fun r s' hq => by
    cases r with
    | error e => exact False.elim hq
    | ok fl => cases fl <;> exact hq⟩
end
section
variable {X : Cx} {CX : CXT} {k : Nat} {f C : Addr} {fd : FuncData} {ps : List Str} {sp : Sp} {dvs : List V} {ds : List Value} {x : Str} {p pos : Pos} {e : Expr} {es : List Expr} {t : TA} {E : L2.St → XK}
end
/-! ### several clauses, each with the error by the same name; nothing leaves -/
/-! ### facts of error classes -/
/-! ### things of any kind -/
/-- a thing that is no Measure and no Stretch; h: not the hand -/
def Thing (h : Addr) (H : Hp) (v : V) : Prop := v = .non ∨ (∃ b, v = .bl b) ∨ (∃ i, v = .int i) ∨ (∃ z, v = .str z) ∨ (∃ a xs, v = .ref a ∧ a ≠ h ∧ H a = some (.lst xs)) ∨ (∃ a xs, v = .ref a ∧ H a = some (.tup xs)) ∨ (∃ a kvs, v = .ref a ∧ H a = some (.dK kvs))
theorem Thing.same {h : Addr} {H H' : Hp} {v : V} (t : Thing h H v) (s : Same H H') : Thing h H' v := by
  rcases t with t | t | t | t | ⟨a, xs, e, n, t⟩ | ⟨a, xs, e, t⟩ | ⟨a, xs, e, t⟩
  · exact .inl t
  · exact .inr (.inl t)
  · exact .inr (.inr (.inl t))
  · exact .inr (.inr (.inr (.inl t)))
  · exact .inr (.inr (.inr (.inr (.inl ⟨a, xs, e, n, s _ _ t⟩))))
  · exact .inr (.inr (.inr (.inr (.inr (.inl ⟨a, xs, e, s _ _ t⟩)))))
  · exact .inr (.inr (.inr (.inr (.inr (.inr ⟨a, xs, e, s _ _ t⟩)))))
theorem Thing.kp {h : Addr} {n : Nat} {H H' : Hp} {v : V} (t : Thing h H v) (hh : HandAt H h n) (s : Kp h H H') : Thing h H' v := by
  rcases t with t | t | t | t | ⟨a, xs, e, n, t⟩ | ⟨a, xs, e, t⟩ | ⟨a, xs, e, t⟩
  · exact .inl t
  · exact .inr (.inl t)
  · exact .inr (.inr (.inl t))
  · exact .inr (.inr (.inr (.inl t)))
  · exact .inr (.inr (.inr (.inr (.inl ⟨a, xs, e, n, s _ _ t n⟩))))
  · exact .inr (.inr (.inr (.inr (.inr (.inl ⟨a, xs, e, s.get hh t rfl⟩)))))
  · exact .inr (.inr (.inr (.inr (.inr (.inr ⟨a, xs, e, s.get hh t rfl⟩)))))
/-- its class, as isinstance asks it -/
theorem Thing.ty {K : PySem.W.Frag} {h : Addr} {H : Hp} {v : V} (t : Thing h H v) : ∃ n : String, TyX K H v (.type n) ∧ (n = "NoneType" ∨ n = "bool" ∨ n = "int" ∨ n = "str" ∨ n = "list" ∨ n = "tuple" ∨ n = "dict") := by
  rcases t with rfl | ⟨b, rfl⟩ | ⟨i, rfl⟩ | ⟨z, rfl⟩ | ⟨a, xs, rfl, n, t⟩ | ⟨a, xs, rfl, t⟩ | ⟨a, xs, rfl, t⟩
  · exact ⟨_, .base .non, .inl rfl⟩
  · exact ⟨_, .base (.bl b), .inr (.inl rfl)⟩
  · exact ⟨_, .base (.int i), .inr (.inr (.inl rfl))⟩
  · exact ⟨_, .base (.str z), .inr (.inr (.inr (.inl rfl)))⟩
  · exact ⟨_, .base (.lst t), .inr (.inr (.inr (.inr (.inl rfl))))⟩
  · exact ⟨_, .base (.tup t), .inr (.inr (.inr (.inr (.inr (.inl rfl)))))⟩
  · exact ⟨_, .base (.dK t), .inr (.inr (.inr (.inr (.inr (.inr rfl)))))⟩
end My
namespace My
open PySem PySem.Spec PyProof.Rows L2
/-! ### == and != by an own __eq__, beside things of any kind -/
section
open AutoSeq1 (wpAny_loadPart')
theorem noEq_int (b : Int) (u : Tok) (l C dx : Addr) : Meets (Builtin.«int.__eq__» ⟨[.int b u, .ref l], []⟩) (fun _ R s => s.heap.get? l = some (PySem.W.instObj C dx) ∧ R (.ok (.ret .notImplemented)) s) :=
  .of_wp fun prog w A R s h => by
    obtain ⟨hp, g, d, tk, os⟩ := s
    obtain ⟨hl, h⟩ := h
    unfold PySem.W.instObj at hl
    wp_walk using wpAny_loadPart' hl, wpAny_load hl
    exact ⟨_, rfl, h⟩
theorem noEq_bool (b : Bool) (l C dx : Addr) : Meets (Builtin.«int.__eq__» ⟨[.bool b, .ref l], []⟩) (fun _ R s => s.heap.get? l = some (PySem.W.instObj C dx) ∧ R (.ok (.ret .notImplemented)) s) :=
  .of_wp fun prog w A R s h => by
    obtain ⟨hp, g, d, tk, os⟩ := s
    obtain ⟨hl, h⟩ := h
    unfold PySem.W.instObj at hl
    wp_walk using wpAny_loadPart' hl, wpAny_load hl
    exact ⟨_, rfl, h⟩
theorem noEq_str (b : Str) (u : Tok) (l C dx : Addr) : Meets (Builtin.«str.__eq__» ⟨[.str b u, .ref l], []⟩) (fun _ R s => s.heap.get? l = some (PySem.W.instObj C dx) ∧ R (.ok (.ret .notImplemented)) s) :=
  .of_wp fun prog w A R s h => by
    obtain ⟨hp, g, d, tk, os⟩ := s
    obtain ⟨hl, h⟩ := h
    unfold PySem.W.instObj at hl
    wp_walk using wpAny_loadPart' hl, wpAny_load hl
    exact ⟨_, rfl, h⟩
variable {prog : Program} {w : World} {A : Around} {E : Value → Shared → Prop} {s : Shared}
theorem noEq_list {l y : Addr} {R : Result → Shared → Prop} (L : PySem.W.Looks (model prog w) s.heap (isInstance (.ref y) (.type "list")) false) (h : R (.ok (.ret .notImplemented)) s) :
    wpAny (model prog w) A.in1 (Builtin.«list.__eq__» ⟨[.ref l, .ref y], []⟩) (GQ.FinOf prog w A R) (fun e s' => R (.error e) s') s := by
  obtain ⟨hp, g, d, tk, os⟩ := s
  wp_walk using L.at
  exact h
theorem noEq_tuple {l y : Addr} {R : Result → Shared → Prop} (L : PySem.W.Looks (model prog w) s.heap (isInstance (.ref y) (.type "tuple")) false) (h : R (.ok (.ret .notImplemented)) s) :
    wpAny (model prog w) A.in1 (Builtin.«tuple.__eq__» ⟨[.ref l, .ref y], []⟩) (GQ.FinOf prog w A R) (fun e s' => R (.error e) s') s := by
  obtain ⟨hp, g, d, tk, os⟩ := s
  wp_walk using L.at
  exact h
end
/-- a value of a built-in kind -/
inductive Bk (H : Hp) : V → String → Prop where
  | non : Bk H .non "NoneType"
  | bl (b : Bool) : Bk H (.bl b) "bool"
  | int (i : Int) : Bk H (.int i) "int"
  | str (z : Str) : Bk H (.str z) "str"
  | lst {a : Addr} {xs : List V} (e : H a = some (.lst xs)) : Bk H (.ref a) "list"
  | tup {a : Addr} {xs : List V} (e : H a = some (.tup xs)) : Bk H (.ref a) "tuple"
theorem Bk.ty {K : PySem.W.Frag} {H : Hp} {x : V} {T : String} (b : Bk H x T) : TyX K H x (.type T) := by
  cases b with
  | non => exact .base .non
  | bl b => exact .base (.bl b)
  | int i => exact .base (.int i)
  | str z => exact .base (.str z)
  | lst e => exact .base (.lst e)
  | tup e => exact .base (.tup e)
theorem Bk.same {H H' : Hp} {x : V} {T : String} (b : Bk H x T) (s : Same H H') : Bk H' x T := by
  cases b with
  | non => exact .non
  | bl b => exact .bl b
  | int i => exact .int i
  | str z => exact .str z
  | lst e => exact .lst (s _ _ e)
  | tup e => exact .tup (s _ _ e)
/-- the kinds that no own class stands under -/
def kinds : List String := ["NoneType", "bool", "int", "str", "list", "tuple"]
theorem Bk.mem {H : Hp} {x : V} {T : String} (b : Bk H x T) : T ∈ kinds := by
  cases b <;> simp [kinds]
/-- what == and != ask of a class with an own __eq__ and no own __ne__ -/
structure EqC (K : PySem.W.Frag) (C : Addr) : Prop where
  ne : PySem.W.findIn K (.ref C) "__ne__" = some (some (.builtin "object.__ne__"))
  ob : PySem.W.mroIn K C (.type "object") = some true
  sub : ∀ T, T ∈ kinds → PySem.W.subIn K (.ref C) (.type T) = some false
  nf : ∀ T, T ∈ kinds → PySem.W.notFirst K C (.type T) = true
  kit : ∀ T, T ∈ kinds → PySem.W.kitOne K (.type T) (.ref C) = some false
def eqCB (x : Str) : PySem.W.Frag → Bool := fun K => He.eqO (PySem.W.findIn K (.ref (He.ga K x)) "__ne__") (some (some (.builtin "object.__ne__"))) && (decide (PySem.W.mroIn K (He.ga K x) (.type "object") = some true) &&
  ((kinds.all fun T => decide (PySem.W.subIn K (.ref (He.ga K x)) (.type T) = some false)) && ((kinds.all fun T => PySem.W.notFirst K (He.ga K x) (.type T)) && (kinds.all fun T => decide (PySem.W.kitOne K (.type T) (.ref (He.ga K x)) = some false)))))
theorem eqC_ok {x : Str} {K : PySem.W.Frag} (c : eqCB x K = true) : EqC K (He.ga K x) := by
  obtain ⟨c1, c⟩ := He.ba c
  obtain ⟨c2, c⟩ := He.ba c
  obtain ⟨c3, c⟩ := He.ba c
  obtain ⟨c4, c5⟩ := He.ba c
  exact ⟨He.eqO_ok c1, of_decide_eq_true c2, fun T h => of_decide_eq_true (List.all_eq_true.mp c3 T h), fun T h => List.all_eq_true.mp c4 T h, fun T h => of_decide_eq_true (List.all_eq_true.mp c5 T h)⟩
/-- a first class beside a second one: the second is none below the first -/
def nfB (x y : Str) : PySem.W.Frag → Bool := fun K => PySem.W.notFirst K (He.ga K x) (.ref (He.ga K y))
theorem nf_ok {x y : Str} {K : PySem.W.Frag} (c : nfB x y K = true) : PySem.W.notFirst K (He.ga K x) (.ref (He.ga K y)) = true := c
section
variable {X : Cx} {pins : List (Addr × Obj)} {σ : L2.St} {H : Hp} {s : Shared} {A : Around} {E : Value → Shared → Prop}
theorem Bk.declines {x : V} {u : Value} {T : String} {y C dx : Addr} {fs : List (Str × V)} (b : Bk H x T) (I : Inv X pins σ H s) (rx : RelV x u) (hy : H y = some (.ins C dx fs)) (c : EqC X.K C) :
    s.TypeIs u T ∧ ∃ id, Slot T "__eq__" id ∧ ∀ Q' : Value → Shared → Prop, Q' .notImplemented s → wpAny (model X.prog X.w) A (call (.builtin id) [u, .ref y]) Q' E s := by
  obtain ⟨_, _, _, hg, _⟩ := (show ObjOk X.prog X.w H s.heap y (.ins C dx fs) from I.hok y _ hy)
  obtain ⟨mA, J, _⟩ := ins_get I.hok hy
  obtain ⟨od, J, _⟩ := J.look
  have sub : ∀ T, T ∈ kinds → PySem.W.Looks (model X.prog X.w) s.heap (isInstance (.ref y) (.type T)) false := fun T h => (J.type).andThen (PySem.W.looks_subIn I.kIn (c.sub T h))
  cases b with
  | non =>
    cases (show u = Value.none from rx)
    have t : s.TypeIs Value.none "NoneType" := by exact rfl
    exact ⟨t, _, F.slot_NoneType_eq, fun Q' q => call_gives F.slot_NoneType_eq t F.entry_NoneType_eq (F.args_NoneType_eq_2 _ _) (SeqAt.NoneType___eq___none_ref_0 y) q⟩
  | bl b =>
    cases (show u = Value.bool b from rx)
    have t : s.TypeIs (Value.bool b) "bool" := by exact rfl
    exact ⟨t, _, F.slot_bool_eq, fun Q' q => call_meets F.slot_bool_eq t F.entry_int_eq (F.args_int_eq_2 _ _) (noEq_bool b y C dx) ⟨hg, q⟩⟩
  | int i =>
    obtain ⟨t, e⟩ := (show ∃ t, u = Value.int i t from rx)
    subst e
    exact ⟨typeIs_int s i t, _, F.slot_int_eq, fun Q' q => call_meets F.slot_int_eq (typeIs_int s i t) F.entry_int_eq (F.args_int_eq_2 _ _) (noEq_int i t y C dx) ⟨hg, q⟩⟩
  | str z =>
    obtain ⟨t, e⟩ := (show ∃ t, u = Value.str z t from rx)
    subst e
    exact ⟨typeIs_str s z t, _, F.slot_str_eq, fun Q' q => call_meets F.slot_str_eq (typeIs_str s z t) F.entry_str_eq (F.args_str_eq_2 _ _) (noEq_str z t y C dx) ⟨hg, q⟩⟩
  | @lst a xs e =>
    cases (show u = Value.ref a from rx)
    obtain ⟨_, its, n, _, h1⟩ := (show ObjOk X.prog X.w H s.heap a (.lst xs) from I.hok a _ e)
    exact ⟨⟨_, h1, rfl⟩, _, F.slot_list_eq, fun Q' q => GQ.call_here F.slot_list_eq ⟨_, h1, rfl⟩ F.entry_list_eq (F.args_list_eq_2 _ _) (noEq_list (sub _ (by simp [kinds])) q)⟩
  | @tup a xs e =>
    cases (show u = Value.ref a from rx)
    obtain ⟨_, its, _, o, h1, h2, _⟩ := (show ObjOk X.prog X.w H s.heap a (.tup xs) from I.hok a _ e)
    exact ⟨⟨o, h1, h2⟩, _, F.slot_tuple_eq, fun Q' q => GQ.call_here F.slot_tuple_eq ⟨o, h1, h2⟩ F.entry_tuple_eq (F.args_tuple_eq_2 _ _) (noEq_tuple (sub _ (by simp [kinds])) q)⟩
end
/-- how == answers: x == y tells b, and nothing changes -/
abbrev Eqb := V → V → Hp → Bool → Prop
def RcB (X : Cx) (n : Nat) (D : Eqb) : Prop := ∀ (A : Around) (pins : List (Addr × Obj)) (s : Shared) (σ : L2.St) (H : Hp) (x y : V) (u v : Value) (b : Bool), Sub X n A → Inv X pins σ H s → RelV x u → RelV y v → D x y H b →
  wpAny (model X.prog X.w) A (richCompare .Eq u v) (fun r s' => r = .bool b ∧ Inv X pins σ H s') X.xe s
def EqB (X : Cx) (n : Nat) (D : Eqb) : Prop := ∀ (A : Around) (pins : List (Addr × Obj)) (s : Shared) (σ : L2.St) (H : Hp) (x y : V) (u v : Value) (b : Bool), Sub X n A → Inv X pins σ H s → RelV x u → RelV y v → D x y H b →
  wpAny (model X.prog X.w) A (eqBool u v) (fun r s' => r = b ∧ Inv X pins σ H s') X.xe s
def spEqB (R : Eqb) : Sp := fun vs H Q _ => ∃ x y b, vs = [x, y] ∧ R x y H b ∧ Q (.bl b) H
/-- the own object first -/
def DOwn (K : PySem.W.Frag) (C : Addr) (R : Eqb) : Eqb := fun x y H b => ∃ a dx fs tb, x = .ref a ∧ H a = some (.ins C dx fs) ∧ TyX K H y tb ∧ PySem.W.notFirst K C tb = true ∧ (x = y → b = true) ∧ R x y H b
/-- the own object behind a thing of a built-in kind -/
def DRef (C : Addr) (R : Eqb) : Eqb := fun x y H b => ∃ a dx fs T, y = .ref a ∧ H a = some (.ins C dx fs) ∧ Bk H x T ∧ (x = y → b = true) ∧ R y x H b
def DOr (D D' : Eqb) : Eqb := fun x y H b => D x y H b ∨ D' x y H b
theorem rel_ref {y : V} {a : Addr} (r : RelV y (.ref a)) : y = .ref a := by
  cases y with
  | ref b => exact congrArg V.ref (Value.ref.inj (show Value.ref a = Value.ref b from r)).symm
  | non => exact nomatch (show Value.ref a = Value.none from r)
  | bl b => exact nomatch (show Value.ref a = Value.bool b from r)
  | int i => obtain ⟨t, e⟩ := (show ∃ t, Value.ref a = Value.int i t from r); exact nomatch e
  | str z => obtain ⟨t, e⟩ := (show ∃ t, Value.ref a = Value.str z t from r); exact nomatch e
  | flt z => obtain ⟨t, e⟩ := (show ∃ t, Value.ref a = Value.float z t from r); exact nomatch e
  | byt z => obtain ⟨t, e⟩ := (show ∃ t, Value.ref a = Value.bytes z t from r); exact nomatch e
  | ty z => exact nomatch (show Value.ref a = Value.type z from r)
section
variable {X : Cx} {n : Nat} {CX : CXT} {C f : Addr} {fd : FuncData} {ps : List Str} {R D D' : Eqb} {E : XK}
theorem RcB.mono {m : Nat} (h : RcB X n D) (l : n ≤ m) : RcB X m D := fun A pins s σ H x y u v b sb I rx ry d => h A pins s σ H x y u v b (sb.mono l) I rx ry d
theorem EqB.mono {m : Nat} (h : EqB X n D) (l : n ≤ m) : EqB X m D := fun A pins s σ H x y u v b sb I rx ry d => h A pins s σ H x y u v b (sb.mono l) I rx ry d
theorem RcB.or (h : RcB X n D) (h' : RcB X n D') : RcB X n (DOr D D') := fun A pins s σ H x y u v b sb I rx ry d => d.elim (h A pins s σ H x y u v b sb I rx ry) (h' A pins s σ H x y u v b sb I rx ry)
theorem EqB.or (h : EqB X n D) (h' : EqB X n D') : EqB X n (DOr D D') := fun A pins s σ H x y u v b sb I rx ry d => d.elim (h A pins s σ H x y u v b sb I rx ry) (h' A pins s σ H x y u v b sb I rx ry)
theorem eqFn_at (F : FnOk X.prog X.w X.K X.mg X.base CX n f fd ps (spEqB R)) (hb : Binds X.K fd ps []) (hx : Passes CX X E) {A : Around} {pins : List (Addr × Obj)} {s : Shared} {σ : L2.St} {H : Hp} {x y : V} {u v : Value} {b : Bool}
    (sb : Sub X n A) (I : Inv X pins σ H s) (rx : RelV x u) (ry : RelV y v) (d : R x y H b) : wpAny (model X.prog X.w) A (call (.ref f) [u, v]) (fun r s' => r = .bool b ∧ Inv X pins σ H s') X.xe s := by
  have hsp : spEqB R [x, y] H (fun z H' => z = .bl b ∧ H' = H) E := ⟨x, y, b, rfl, d, rfl, rfl⟩
  have e := I.env0
  have e0 : Env0 X.prog X.w X.K X.mg X.base A X.stack s H := ⟨by rw [sb.fr]; exact e.frames, e.mod, e.bs, e.bsz, e.funs, e.frf, e.hok, e.bare⟩
  have hl := F.len _ _ _ _ hsp
  have r2 : Vals [x, y] [u, v] := .cons rx (.cons ry .nil)
  have hbs := hb s [u, v] I.kIn (by simpa using hl)
  rw [List.append_nil] at hbs
  refine wpAny_call (codeAny_mono (F.run A X.stack s H ⟨[u, v], []⟩ [u, v] [x, y] _ E sb.room e0 hbs r2 hsp) fun r s' hq => ?_)
  cases r with
  | error e => exact hx pins σ H s e s' I hq
  | ok fl =>
    cases fl with
    | ret w =>
      obtain ⟨z, H', I', rz, ez, eh⟩ := I.after hq
      subst ez eh
      exact ⟨rz, I'⟩
    | next => exact False.elim hq
    | brk => exact False.elim hq
    | cont => exact False.elim hq
theorem rcB_own (F : FnOk X.prog X.w X.K X.mg X.base CX n f fd ps (spEqB R)) (hm : Meth X.K C "__eq__" f) (hb : Binds X.K fd ps []) (hx : Passes CX X E) : RcB X n (DOwn X.K C R) := by
  intro A pins s σ H x y u v b sb I rx ry d
  obtain ⟨a, dx, fs, tb, rfl, ha, ty, nf, _, d⟩ := d
  cases rx
  obtain ⟨mA, J, _⟩ := ins_get I.hok ha
  obtain ⟨od, J, _⟩ := J.look
  obtain ⟨m, hF⟩ := I.fr
  obtain ⟨P, Z, p, _⟩ := kit_of I ry ty
  refine PySem.W.cmp_K (op := .Eq) (tb := tb) sb.room.units0 hF I.ok.mod.kin J (Z.ty _ _ I.kIn p) nf hm.at_ hm.fn ?_
  refine thn (eqFn_at F hb hx sb I (x := V.ref a) rfl ry d) fun r s' q => ?_
  obtain ⟨rfl, I'⟩ := q
  exact ⟨rfl, I'⟩
theorem rcB_ref (F : FnOk X.prog X.w X.K X.mg X.base CX n f fd ps (spEqB R)) (hm : Meth X.K C "__eq__" f) (c : EqC X.K C) (hb : Binds X.K fd ps []) (hx : Passes CX X E) : RcB X n (DRef C R) := by
  intro A pins s σ H x y u v b sb I rx ry d
  obtain ⟨a, dx, fs, T, rfl, ha, bk, _, d⟩ := d
  cases ry
  obtain ⟨mA, J, _⟩ := ins_get I.hok ha
  obtain ⟨od, J, _⟩ := J.look
  obtain ⟨ht, id, sl, dec⟩ := bk.declines (A := A) (E := X.xe) I rx ha c
  unfold richCompare
  simp only [ht.oneThing_none]
  refine wpAny_holding (wpAny_bind (wpAny_cRoomFor sb.room.units0 ?_))
  refine wpAny_bind (wpAny_typeOf ht (wpAny_bind (J.type.here ?_)))
  have e1 : (Value.type T != Value.ref C) = true := by rfl
  simp only [e1, if_true]
  refine wpAny_bind ((PySem.W.looks_subIn I.kIn (c.sub T bk.mem)).here ?_)
  simp only [Bool.false_eq_true, if_false, Bool.not_false, if_true]
  refine wpAny_bind (m := tryCompare u _ (.ref a)) (wpAny_tryCompare_declines ht sl (dec _ ⟨rfl, ?_⟩))
  refine wpAny_bind (m := tryCompare (.ref a) _ u) ?_
  unfold tryCompare
  refine wpAny_bind (PySem.W.ifBound_K I.kIn J hm.at_ hm.fn (thn (eqFn_at F hb hx sb I (x := V.ref a) rfl rx d) fun r s' q => ?_))
  obtain ⟨rfl, I'⟩ := q
  exact wpAny_pure (wpAny_pure ⟨rfl, I'⟩)
theorem eqB_own (h : RcB X n (DOwn X.K C R)) : EqB X n (DOwn X.K C R) := by
  intro A pins s σ H x y u v b sb I rx ry d
  have d0 := d
  obtain ⟨a, dx, fs, tb, rfl, ha, ty, nf, xy, _⟩ := d
  cases rx
  unfold eqBool
  refine wpAny_holding ?_
  refine wpAny_ite_split (fun e => ?_) (fun e => ?_)
  · have e : Value.ref a = v := eq_of_beq e
    subst e
    have e2 := rel_ref ry
    exact wpAny_bind (wpAny_rule (wpAny_pure ⟨(xy e2.symm).symm, I⟩))
  · refine wpAny_bind (thn (h A pins s σ H (.ref a) y _ v b sb I rfl ry d0) fun r s' q => ?_)
    obtain ⟨rfl, I'⟩ := q
    exact wpAny_truthy_bool ⟨rfl, I'⟩
theorem eqB_ref (h : RcB X n (DRef C R)) : EqB X n (DRef C R) := by
  intro A pins s σ H x y u v b sb I rx ry d
  have d0 := d
  obtain ⟨a, dx, fs, T, rfl, ha, bk, xy, _⟩ := d
  cases ry
  unfold eqBool
  refine wpAny_holding ?_
  refine wpAny_ite_split (fun e => ?_) (fun e => ?_)
  · have e : u = Value.ref a := eq_of_beq e
    subst e
    have e2 := rel_ref rx
    exact wpAny_bind (wpAny_rule (wpAny_pure ⟨(xy e2).symm, I⟩))
  · have go : wpAny (model X.prog X.w) A (richCompare .Eq u (.ref a) >>= fun r => truthOfDropped r) (fun r s' => r = b ∧ Inv X pins σ H s') X.xe s := by
      refine wpAny_bind (thn (h A pins s σ H x (.ref a) u _ b sb I rx rfl d0) fun r s' q => ?_)
      obtain ⟨rfl, I'⟩ := q
      exact wpAny_truthy_bool ⟨rfl, I'⟩
    cases u <;> exact go
def rEqB (D : Eqb) : R2 := fun x y H Q => ∃ b, D x y H b ∧ Q (.bl b) H
theorem op_eqB (h : RcB X n D) (hr : Room n X.A) : OpR X (compareOp .Eq) (rEqB D) := by
  intro pins s σ H x y u v Q I rx ry hq
  obtain ⟨b, d, q⟩ := hq
  show wpAny (model X.prog X.w) X.A (richCompare .Eq u v) (EP X pins σ Q) X.xe s
  refine thn (h X.A pins s σ H x y u v b ⟨hr, rfl⟩ I rx ry d) fun r s' z => ?_
  obtain ⟨rfl, I'⟩ := z
  exact ⟨.bl b, H, I', rfl, q⟩
/-- x != y, by the own == of x turned about -/
theorem op_neB (F : FnOk X.prog X.w X.K X.mg X.base CX n f fd ps (spEqB R)) (hm : Meth X.K C "__eq__" f) (c : EqC X.K C) (hb : Binds X.K fd ps []) (hx : Passes CX X E) (hr : Room (n + 1) X.A) :
    OpR X (compareOp .NotEq) (fun x y H Q => ∃ b, DOwn X.K C R x y H b ∧ Q (.bl (!b)) H) := by
  intro pins s σ H x y u v Q I rx ry hq
  obtain ⟨b, ⟨a, dx, fs, tb, rfl, ha, ty, nf, _, d⟩, q⟩ := hq
  cases rx
  show wpAny (model X.prog X.w) X.A (richCompare .NotEq (.ref a) v) (EP X pins σ Q) X.xe s
  obtain ⟨mA, J, _⟩ := ins_get I.hok ha
  obtain ⟨od, J, _⟩ := J.look
  obtain ⟨P, Z, p, _⟩ := kit_of I ry ty
  have sb : Sub X (n + 1) X.A := ⟨hr, rfl⟩
  have call1 : wpAny (model X.prog X.w) X.A (call (.builtin "object.__ne__") [.ref a, v]) (fun r s' => r = .bool (!b) ∧ Inv X pins σ H s') X.xe s := by
    refine wpAny_call (codeAny_call_builtin PySem.F.slot_object_ne.plain PySem.F.cmpEntry_ne (PySem.W.check_slot PySem.F.cmpKind_ne PySem.F.cmpSplit_ne (J.type.andThen (PySem.W.looks_mroIn I.kIn c.ob)) (PySem.F.cmpArgs_ne _ _) ?_))
    unfold Builtin.«object.__ne__»
    refine wpAny_bind (wpAny_pure ?_)
    refine wpAny_bind (wpAny_cRoomFor sb.in1.room.units0 ?_)
    refine wpAny_bind (PySem.W.ifBound_K I.kIn J hm.at_ hm.fn (thn (eqFn_at F hb hx sb.in1 I (x := V.ref a) rfl ry d) fun r s' q => ?_))
    obtain ⟨rfl, I'⟩ := q
    exact wpAny_bind (wpAny_truthy_bool (wpAny_pure ⟨rfl, I'⟩))
  have one : wpAny (model X.prog X.w) X.A (tryCompare (.ref a) (cmpInfo .NotEq).2.1 v) (fun r s' => r = some (.bool (!b)) ∧ Inv X pins σ H s') X.xe s := by
    unfold tryCompare
    refine wpAny_bind (m := callSpecialIfBound? (.ref a) _ [v]) ?_
    simp only [callSpecialIfBound?, bindSpecialIfBound?]
    refine wpAny_holding (wpAny_bind (wpAny_bind (wpAny_bind (J.type.here ((PySem.W.looks_findIn I.kIn c.ne).here ?_)))))
    refine wpAny_bind (wpAny_askSetting (wpAny_ite ?_))
    have fin : wpAny (model X.prog X.w) X.A (call (.builtin "object.__ne__") ([.ref a] ++ [v]) >>= fun z => pure (some z)) (fun o s1 => wpAny (model X.prog X.w) X.A (match o with | some .notImplemented | none => pure none | some z => pure (some z)) (fun r s' => r = some (.bool (!b)) ∧ Inv X pins σ H s') X.xe s1) X.xe s := by
      refine wpAny_bind (thn call1 fun r s' z => ?_)
      obtain ⟨rfl, I'⟩ := z
      exact wpAny_pure (wpAny_pure ⟨rfl, I'⟩)
    split
    · exact wpAny_bind ((PySem.W.Looks.of_pure (PySem.F.slot_object_ne.bind (.ref a))).here (wpAny_pure (by exact fin)))
    · exact wpAny_tryCatch (wpAny_bind ((PySem.W.Looks.of_pure (PySem.F.slot_object_ne.bind (.ref a))).here (wpAny_pure (by exact fin))))
  unfold richCompare
  simp only [oneThing_ref]
  refine wpAny_holding (wpAny_bind (wpAny_cRoomFor hr.units0 ?_))
  refine wpAny_bind (J.type.here (wpAny_bind ((Z.ty _ _ I.kIn p).here ?_)))
  have ends : ∀ s', Inv X pins σ H s' → EP X pins σ Q (.bool (!b)) s' := fun s' I' => ⟨.bl (!b), H, I', rfl, q⟩
  split
  · rename_i z
    have e : PySem.W.subIn X.K tb (.ref C) = some false := by
      rcases Bool.or_eq_true_iff.mp nf with e | e
      · rw [beq_iff_eq.mp e] at z; simp at z
      · exact beq_iff_eq.mp e
    refine wpAny_bind ((PySem.W.looks_subIn I.kIn e).here ?_)
    simp only [Bool.false_eq_true, if_false]
    refine wpAny_bind (thn one fun r s' z => ?_)
    obtain ⟨rfl, I'⟩ := z
    exact wpAny_pure (ends s' I')
  · refine wpAny_bind (wpAny_pure ?_)
    simp only [Bool.false_eq_true, if_false]
    refine wpAny_bind (thn one fun r s' z => ?_)
    obtain ⟨rfl, I'⟩ := z
    exact wpAny_pure (ends s' I')
/-! ### in, by an own == -/
def InB (D : Eqb) (x : V) (H : Hp) : List V → Bool → Prop
  | [], b => b = false
  | y :: r, b => (D y x H true ∧ b = true) ∨ (D y x H false ∧ InB D x H r b)
open AutoSeq1 (wpAny_loadPart') in
theorem inB_loop (h : EqB X n D) {A : Around} (sb : Sub X (n + 1) A) {pins : List (Addr × Obj)} {σ : L2.St} {H : Hp} {x : V} {u : Value} {l : Addr} {xs : List V} {R : Result → Shared → Prop} (hl : SqL X.K H l xs) (rx : RelV x u) (b : Bool)
    (fin : ∀ s, Inv X pins σ H s → R (.ok (.ret (.bool b))) s) (bad : ∀ e s, X.xe e s → R (.error e) s) : ∀ (ys : List V) (i : Nat), xs.drop i = ys → InB D x H ys b → ∀ s, Inv X pins σ H s →
      wpAny (model X.prog X.w) A.in1 (Builtin.«list.__contains__.loop» ⟨[.ref l, u, rawInt i], []⟩) (GQ.FinOf X.prog X.w A R) (fun e s' => R (.error e) s') s := by
  intro ys
  induction ys with
  | nil =>
    intro i hd q s I
    have q : b = false := q
    subst q
    obtain ⟨its, r, ⟨o, k, ho, hc, hs, hda⟩, _⟩ := I.list hl
    obtain ⟨oc, od, oda, osl⟩ := o
    dsimp only at hc hs hda
    subst hc hda
    have hlen : its.toArray.size ≤ i := by
      rw [List.size_toArray, ← r.length]
      exact List.drop_eq_nil_iff.mp hd
    have hi : its.toArray[((i : Nat) : Int).toNat]? = none := by
      rw [Array.getElem?_eq_none]
      simpa using hlen
    have hR := fin s I
    obtain ⟨hp, g, d, tk, os⟩ := s
    wp_walk using wpAny_loadPart' ho
    rw [hi]
    wp_walk
    exact hR
  | cons y r ih =>
    intro i hd q s I
    obtain ⟨its, rv, ⟨o, k, ho, hc, hs, hda⟩, _⟩ := I.list hl
    obtain ⟨oc, od, oda, osl⟩ := o
    dsimp only at hc hs hda
    subst hc hda
    have hx : xs[i]? = some y := by
      have e := congrArg List.head? hd
      rw [List.head?_drop] at e
      exact e
    obtain ⟨v, hv, ry⟩ := rv.get hx
    have hi : its.toArray[((i : Nat) : Int).toNat]? = some v := by simpa using hv
    have hd2 : xs.drop (i + 1) = r := by
      have e := congrArg List.tail hd
      rw [List.tail_drop] at e
      exact e
    have step : ∀ t, D y x H t → wpAny (model X.prog X.w) A.in1 (eqBool v u) (fun z s' => z = t ∧ Inv X pins σ H s') (fun e s' => R (.error e) s') s := fun t dt => wpAny_mono (h A.in1 pins s σ H y x v u t sb.in1 I ry rx dt) (fun _ _ z => z) bad
    have cc : ((i : Int) + 1) = ((i + 1 : Nat) : Int) := by omega
    rcases q with ⟨d, rfl⟩ | ⟨d, q⟩
    · have st := step _ d
      obtain ⟨hp, g, dd, tk, os⟩ := s
      wp_walk using wpAny_loadPart' ho
      rw [hi]
      refine wpAny_bind (thn st fun z s2 q2 => ?_)
      obtain ⟨rfl, I2⟩ := q2
      have hR := fin s2 I2
      wp_walk
      exact hR
    · have st := step _ d
      obtain ⟨hp, g, dd, tk, os⟩ := s
      wp_walk using wpAny_loadPart' ho
      rw [hi]
      refine wpAny_bind (thn st fun z s2 q2 => ?_)
      obtain ⟨rfl, I2⟩ := q2
      have go := ih (i + 1) hd2 q s2 I2
      wp_walk
      rw [cc]
      exact ⟨plainId_quiet MeetsSeq.plain_contains_loop _, codeAny_builtin MeetsSeq.entry_contains_loop (by
        rw [Around.under_plainId MeetsSeq.plain_contains_loop _]
        exact go)⟩
/-- x in [..] -/
theorem op_inBl (h : EqB X n D) (hr : Room (n + 1) X.A) : OpR X (compareOp .In) (fun x y H Q => ∃ p xs b, y = .ref p ∧ SqL X.K H p xs ∧ InB D x H xs b ∧ Q (.bl b) H) := by
  intro pins s σ H x y u v Q I rx ry hq
  obtain ⟨p, xs, b, rfl, hl, q, k⟩ := hq
  cases ry
  obtain ⟨its, r, ⟨o, m, ho, hc, hs, hda⟩, _⟩ := I.list hl
  have hT : s.TypeIs (.ref p) "list" := ⟨o, ho, hc⟩
  have sb : Sub X (n + 1) X.A := ⟨hr, rfl⟩
  show wpAny _ X.A (do return .bool (← contains (.ref p) u)) (EP X pins σ Q) X.xe s
  refine wpAny_bind (wpAny_contains_slot hT PySem.F.slot_list_contains (GQ.call_here PySem.F.slot_list_contains hT PySem.F.entry_list_contains (PySem.F.args_list_contains_2 _ _) ?_))
  have go := inB_loop (A := X.A) (R := wants (fun v s' => wpAny (model X.prog X.w) X.A (truthy v) (fun t s'' => wpAny (model X.prog X.w) X.A (pure (Value.bool t)) (EP X pins σ Q) X.xe s'') X.xe s') X.xe) h sb hl rx b
    (fun s' I' => wpAny_truthy_bool (wpAny_pure ⟨.bl b, H, I', rfl, k⟩)) (fun e s' z => z) xs 0 rfl q s I
  obtain ⟨hp, g, dd, tk, os⟩ := s
  wp_walk
  exact ⟨plainId_quiet MeetsSeq.plain_contains_loop _, codeAny_builtin MeetsSeq.entry_contains_loop (by
    rw [Around.under_plainId MeetsSeq.plain_contains_loop _]
    exact go)⟩
open AutoSeq1 (wpAny_loadPart') in
theorem inB_tup (h : EqB X n D) {A : Around} (sb : Sub X (n + 1) A) {pins : List (Addr × Obj)} {σ : L2.St} {H : Hp} {x : V} {u : Value} {l : Addr} {xs : List V} {R : Result → Shared → Prop} (hl : SqT X.K H l xs) (rx : RelV x u) (b : Bool)
    (fin : ∀ s, Inv X pins σ H s → R (.ok (.ret (.bool b))) s) (bad : ∀ e s, X.xe e s → R (.error e) s) (q : InB D x H xs b) (s : Shared) (I : Inv X pins σ H s) :
      wpAny (model X.prog X.w) A.in1 (Builtin.«tuple.__contains__» ⟨[.ref l, u], []⟩) (GQ.FinOf X.prog X.w A R) (fun e s' => R (.error e) s') s := by
  obtain ⟨its, rv, ⟨o, ho, hc, k, hda⟩, _⟩ := I.tuple hl
  obtain ⟨oc, od, oda, osl⟩ := o
  dsimp only at hc hda
  subst hc hda
  have I0 := I
  have rv2 : Vals xs its.toArray.toList := by simpa using rv
  generalize its.toArray = items at ho rv2
  obtain ⟨hp, g, d, tk, os⟩ := s
  wp_walk using wpAny_loadPart' ho, MeetsSeq2.wpAny_forIn_array _ (fun rest c s' => c.1 = none ∧ Inv X pins σ H s' ∧ ∃ ys, Vals ys rest ∧ InB D x H ys b) _
  case turn =>
    rintro v rest c s' ⟨hb, I1, ys, rr, qq⟩
    cases rr with
    | @cons y _ yr _ ry r2 =>
      have step : ∀ t, D y x H t → wpAny (model X.prog X.w) A.in1 (eqBool v u) (fun z s' => z = t ∧ Inv X pins σ H s') (fun e s' => R (.error e) s') s' := fun t dt => wpAny_mono (h A.in1 pins s' σ H y x v u t sb.in1 I1 ry rx dt) (fun _ _ z => z) bad
      rcases qq with ⟨dt, rfl⟩ | ⟨dt, qq⟩
      · refine wpAny_bind (thn (step _ dt) fun z s2 q2 => ?_)
        obtain ⟨rfl, I2⟩ := q2
        have hR := fin s2 I2
        wp_walk
        exact hR
      · refine wpAny_bind (thn (step _ dt) fun z s2 q2 => ?_)
        obtain ⟨rfl, I2⟩ := q2
        wp_walk
        exact ⟨rfl, I2, yr, r2, qq⟩
  case fin =>
    rintro ⟨b1, b2⟩ s' ⟨hb, I1, ys, rr, qq⟩
    simp only at hb
    subst hb
    cases rr
    have qq : b = false := qq
    subst qq
    have hR := fin s' I1
    wp_walk
    exact hR
  case h =>
    exact ⟨rfl, I0, xs, rv2, q⟩
theorem op_inBt (h : EqB X n D) (hr : Room (n + 1) X.A) : OpR X (compareOp .In) (fun x y H Q => ∃ p xs b, y = .ref p ∧ SqT X.K H p xs ∧ InB D x H xs b ∧ Q (.bl b) H) := by
  intro pins s σ H x y u v Q I rx ry hq
  obtain ⟨p, xs, b, rfl, hl, q, k⟩ := hq
  cases ry
  obtain ⟨its, r, ⟨o, ho, hc, m, hda⟩, _⟩ := I.tuple hl
  have hT : s.TypeIs (.ref p) "tuple" := ⟨o, ho, hc⟩
  have sb : Sub X (n + 1) X.A := ⟨hr, rfl⟩
  show wpAny _ X.A (do return .bool (← contains (.ref p) u)) (EP X pins σ Q) X.xe s
  refine wpAny_bind (wpAny_contains_slot hT PySem.F.slot_tuple_contains (GQ.call_here PySem.F.slot_tuple_contains hT PySem.F.entry_tuple_contains (PySem.F.args_tuple_contains_2 _ _) ?_))
  exact inB_tup (A := X.A) (R := wants (fun v s' => wpAny (model X.prog X.w) X.A (truthy v) (fun t s'' => wpAny (model X.prog X.w) X.A (pure (Value.bool t)) (EP X pins σ Q) X.xe s'') X.xe s') X.xe) h sb hl rx b
    (fun s' I' => wpAny_truthy_bool (wpAny_pure ⟨.bl b, H, I', rfl, k⟩)) (fun e s' z => z) q s I
/-- a text beside a thing of a built-in kind -/
def DTxt : Eqb := fun x y H b => ∃ (z : Str) (T : String), x = .str z ∧ Bk H y T ∧ b = decide (y = .str z)
end
/-! ### Measures alike, beside Measures and things of built-in kinds -/
def REq (K : PySem.W.Frag) (C : Addr) : Eqb := fun x y H b => ∃ p t u, x = .ref p ∧ MAt C H p t u ∧ ((∃ q t' u', y = .ref q ∧ MAt C H q t' u' ∧ b = (decide (t = t') && decide (u = u'))) ∨ ∃ tv, TyX K H y tv ∧ PySem.W.kitOne K tv (.ref C) = some false ∧ b = false)
inductive Like (C : Addr) (H : Hp) (p : Addr) : V → Bool → Prop where
  | ms {q : Addr} {t u t' u' : Int} (a : MAt C H p t u) (b : MAt C H q t' u') : Like C H p (.ref q) (decide (t = t') && decide (u = u'))
  | kd {y : V} {T : String} {t u : Int} (a : MAt C H p t u) (b : Bk H y T) : Like C H p y false
theorem Like.same {C p : Addr} {H H' : Hp} {y : V} {b : Bool} (h : Like C H p y b) (s : Same H H') : Like C H' p y b := by
  cases h with
  | ms a b => exact .ms (a.same s) (b.same s)
  | kd a k => exact .kd (a.same s) (k.same s)
theorem mf_inj {t u t' u' : Int} (h : mf t u = mf t' u') : t = t' ∧ u = u' := by
  unfold mf at h
  injection h with h1 h2
  injection h2 with h3 _
  exact ⟨V.int.inj (congrArg Prod.snd h1), V.int.inj (congrArg Prod.snd h3)⟩
theorem MAt.uniq {C p : Addr} {H : Hp} {t u t' u' : Int} (a : MAt C H p t u) (b : MAt C H p t' u') : t = t' ∧ u = u' := by
  obtain ⟨d, a⟩ := a
  obtain ⟨d', b⟩ := b
  rw [a] at b
  have e := HO.ins.inj (Option.some.inj b)
  exact mf_inj e.2.2
theorem Bk.notIns {C p dx : Addr} {H : Hp} {T : String} {fs : List (Str × V)} (b : Bk H (.ref p) T) (e : H p = some (.ins C dx fs)) : False := by
  cases b with
  | lst z => rw [z] at e; cases e
  | tup z => rw [z] at e; cases e
section
variable {K : PySem.W.Frag} {C p : Addr} {H : Hp} {y : V} {b : Bool}
theorem nf_self : PySem.W.notFirst K C (.ref C) = true := by simp [PySem.W.notFirst]
theorem Like.fwd (cl : Cls K C) (ii : IsC K C) (ec : EqC K C) (h : Like C H p y b) : DOwn K C (REq K C) (.ref p) y H b := by
  cases h with
  | @ms q t u t' u' a b =>
    obtain ⟨da, ha⟩ := _root_.id a
    obtain ⟨db, hb⟩ := _root_.id b
    refine ⟨p, da, _, _, rfl, ha, tyM hb cl ii, nf_self, fun e => ?_, p, t, u, rfl, a, .inl ⟨q, t', u', rfl, b, rfl⟩⟩
    cases e
    obtain ⟨rfl, rfl⟩ := a.uniq b
    simp
  | @kd _ T t u a k =>
    obtain ⟨da, ha⟩ := _root_.id a
    refine ⟨p, da, _, _, rfl, ha, k.ty, ec.nf T k.mem, fun e => ?_, p, t, u, rfl, a, .inr ⟨_, k.ty, ec.kit T k.mem, rfl⟩⟩
    subst e
    exact (k.notIns ha).elim
theorem Like.bwd (cl : Cls K C) (ii : IsC K C) (ec : EqC K C) (h : Like C H p y b) : DOr (DOwn K C (REq K C)) (DRef C (REq K C)) y (.ref p) H b := by
  cases h with
  | @ms q t u t' u' a b =>
    obtain ⟨da, ha⟩ := _root_.id a
    obtain ⟨db, hb⟩ := _root_.id b
    have e2 : (decide (t = t') && decide (u = u')) = (decide (t' = t) && decide (u' = u)) := by
      rw [decide_eq_decide.mpr (eq_comm (a := t)), decide_eq_decide.mpr (eq_comm (a := u))]
    rw [e2]
    refine .inl ⟨q, db, _, _, rfl, hb, tyM ha cl ii, nf_self, fun e => ?_, q, t', u', rfl, b, .inl ⟨p, t, u, rfl, a, rfl⟩⟩
    cases e
    obtain ⟨rfl, rfl⟩ := a.uniq b
    simp
  | @kd _ T t u a k =>
    obtain ⟨da, ha⟩ := _root_.id a
    refine .inr ⟨p, da, _, T, rfl, ha, k, fun e => ?_, p, t, u, rfl, a, .inr ⟨_, k.ty, ec.kit T k.mem, rfl⟩⟩
    subst e
    exact (k.notIns ha).elim
theorem Like.non (ec : EqC K C) (h : Like C H p y b) : DOr (DOwn K C (REq K C)) (DRef C (REq K C)) .non (.ref p) H false := by
  have go : ∀ {t u : Int}, MAt C H p t u → DOr (DOwn K C (REq K C)) (DRef C (REq K C)) .non (.ref p) H false := fun {t u} a => by
    obtain ⟨da, ha⟩ := _root_.id a
    exact .inr ⟨p, da, _, _, rfl, ha, .non, (fun e => nomatch e), p, t, u, rfl, a, .inr ⟨_, (Bk.non (H := H)).ty, ec.kit _ (Bk.non (H := H)).mem, rfl⟩⟩
  cases h with
  | ms a _ => exact go a
  | kd a _ => exact go a
/-- one in [None, y] -/
theorem Like.inl (cl : Cls K C) (ii : IsC K C) (ec : EqC K C) (h : Like C H p y b) : InB (DOr (DOwn K C (REq K C)) (DRef C (REq K C))) (.ref p) H [.non, y] b := by
  refine .inr ⟨h.non ec, ?_⟩
  cases b with
  | true => exact .inl ⟨h.bwd cl ii ec, rfl⟩
  | false => exact .inr ⟨h.bwd cl ii ec, rfl⟩
/-- y in (one, z) -/
theorem Like.inr {z : Str} (cl : Cls K C) (ii : IsC K C) (ec : EqC K C) (h : Like C H p y b) (hz : y ≠ .str z) : InB (DOr (DOr (DOwn K C (REq K C)) (DRef C (REq K C))) DTxt) y H [.ref p, .str z] b := by
  have key : ∀ {c : Bool}, Like C H p y c → DOr (DOr (DOwn K C (REq K C)) (DRef C (REq K C))) DTxt (.str z) y H false := fun {c} h => by
    cases h with
    | @ms q t u t' u' a b =>
      obtain ⟨dq, hq⟩ := _root_.id b
      exact .inl (.inr ⟨q, dq, _, _, rfl, hq, .str z, (fun e => nomatch e), q, t', u', rfl, b, .inr ⟨_, (Bk.str (H := H) z).ty, ec.kit _ (Bk.str (H := H) z).mem, rfl⟩⟩)
    | @kd _ T t u a k => exact .inr ⟨z, T, rfl, k, (decide_eq_false hz).symm⟩
  cases b with
  | true => exact .inl ⟨.inl (.inl (h.fwd cl ii ec)), rfl⟩
  | false => exact .inr ⟨.inl (.inl (h.fwd cl ii ec)), .inr ⟨key h, rfl⟩⟩
end
end My
namespace My
open PySem PySem.Spec PyProof.Rows L2
/-! ### texts: str and repr of own objects, pieces of f-strings, divmod -/
section
variable {X : Cx} {n : Nat} {CX : CXT} {C f : Addr} {fd : FuncData} {ps : List Str} {sp : Sp} {E : XK}
/-- an own def is called from within a built-in one -/
theorem fn_at (F : FnOk X.prog X.w X.K X.mg X.base CX n f fd ps sp) (hb : Binds X.K fd ps []) (hx : Passes CX X E) {A : Around} {pins : List (Addr × Obj)} {s : Shared} {σ : L2.St} {H : Hp} {vs : List V} {us : List Value} {Q : VK}
    (sb : Sub X n A) (I : Inv X pins σ H s) (r : Vals vs us) (h : sp vs H Q E) : wpAny (model X.prog X.w) A (call (.ref f) us) (fun u s' => ∃ v H', Inv X pins σ H' s' ∧ RelV v u ∧ Q v H') X.xe s := by
  have e := I.env0
  have e0 : Env0 X.prog X.w X.K X.mg X.base A X.stack s H := ⟨by rw [sb.fr]; exact e.frames, e.mod, e.bs, e.bsz, e.funs, e.frf, e.hok, e.bare⟩
  have hl := F.len _ _ _ _ h
  have hbs := hb s us I.kIn (by rw [List.append_nil, ← r.length]; exact hl)
  rw [List.append_nil] at hbs
  refine wpAny_call (codeAny_mono (F.run A X.stack s H ⟨us, []⟩ us vs _ E sb.room e0 hbs r h) fun r s' hq => ?_)
  cases r with
  | error e => exact hx pins σ H s e s' I hq
  | ok fl =>
    cases fl with
    | ret w =>
      obtain ⟨z, H', I', rz, q⟩ := I.after hq
      exact ⟨z, H', I', rz, q⟩
    | next => exact False.elim hq
    | brk => exact False.elim hq
    | cont => exact False.elim hq
/-- what a text of an own object asks: the def tells a text -/
def tOwn (C : Addr) (sp : Sp) (E : XK) : V → Hp → VK → Prop := fun x H Q => ∃ a dx fs, x = .ref a ∧ H a = some (.ins C dx fs) ∧ sp [.ref a] H (fun v H' => ∃ z : Str, v = .str z ∧ Q (.str z) H') E
theorem call_strO (F : FnOk X.prog X.w X.K X.mg X.base CX n f fd ps sp) (hm : Meth X.K C "__str__" f) (hb : Binds X.K fd ps []) (hx : Passes CX X E) (hr : Room (n + 2) X.A) : CallR X (.type "str") (fun xs H Q => ∃ x, xs = [x] ∧ tOwn C sp E x H Q) := by
  intro pins s σ H xs us Q I r h
  obtain ⟨x, rfl, a, dx, fs, rfl, ha, h⟩ := h
  obtain ⟨u, rfl, r1⟩ := vals1 r
  cases (show u = Value.ref a from r1)
  obtain ⟨mA, J, _⟩ := ins_get I.hok ha
  obtain ⟨od, J, _⟩ := J.look
  have sb : Sub X (n + 2) X.A := ⟨hr, rfl⟩
  refine PySem.W.kso_call sb.in1.in1.room.units0 I.kIn J hm.at_ hm.fn ?_
  refine thn (fn_at F hb hx sb.in1.in1 I (vs := [.ref a]) (.cons rfl .nil) h) fun u s' q => ?_
  obtain ⟨v, H', I', rv, z, rfl, q⟩ := q
  obtain ⟨t, rfl⟩ := rv
  exact ⟨.str z, H', I', ⟨t, rfl⟩, q⟩
/-- {x!r}, x an own object or None -/
def tFmtRO (C : Addr) (sp : Sp) (E : XK) (te : TE) : TE := fun σ H Q => te σ H fun x H1 => (x = .non ∧ Q (.str "None") H1) ∨ tOwn C sp E x H1 (fun v H2 => (∃ z : Str, v = .str z ∧ z.length ≤ sizeLine) ∧ Q v H2)
theorem pe_fmtRO {e : Expr} {te : TE} {pos : Pos} (F : FnOk X.prog X.w X.K X.mg X.base CX n f fd ps sp) (hm : Meth X.K C "__repr__" f) (hb : Binds X.K fd ps []) (hx : Passes CX X E) (hr : Room n X.A) (he : PE X e te) : PE X (.FormattedValue e 114 none pos) (tFmtRO C sp E te) := by
  refine ⟨fun pins s σ H Q I h => ?_⟩
  refine wpAny_FormattedValue_repr (thn (he.run pins s σ H _ I h) fun v s1 hv => ?_)
  obtain ⟨x, H1, I1, r1, ⟨rfl, q⟩ | ⟨a, dx, fs, rfl, ha, q⟩⟩ := hv
  · cases (show v = Value.none from r1)
    exact pyReprObj_none (wpAny_formatField_str ⟨.str "None", H1, I1.tok _, ⟨_, rfl⟩, q⟩ ⟨.str "None", H1, I1.tok _, ⟨_, rfl⟩, q⟩ (by rw [sizeLine_eq]; decide))
  cases (show v = Value.ref a from r1)
  obtain ⟨mA, J, _⟩ := ins_get I1.hok ha
  obtain ⟨od, J, _⟩ := J.look
  have sb : Sub X n X.A := ⟨hr, rfl⟩
  unfold pyReprObj
  refine wpAny_bind (wpAny_cRoomFor sb.room.units0 ?_)
  refine wpAny_bind (wpAny_bind (J.type.here ((PySem.W.looks_findIn I1.kIn hm.at_).here ?_)))
  show wpAny _ _ (if (some (Value.ref f)).isNone = true then _ else _) _ _ _
  rw [if_neg (by simp)]
  refine wpAny_bind (PySem.W.ifBound_K I1.kIn J hm.at_ hm.fn (thn (fn_at F hb hx sb I1 (vs := [.ref a]) (.cons rfl .nil) q) fun u s2 q2 => ?_))
  obtain ⟨w, H2, I2, rw, z, rfl, ⟨z2, ez, hz⟩, q3⟩ := q2
  cases ez
  obtain ⟨t, rfl⟩ := rw
  refine wpAny_bind (wpAny_isInstance (typeIs_str _ _ _) isSubtype_str_str ?_)
  have go := wpAny_formatField_str (prog := X.prog) (w := X.w) (A := X.A) (E := X.xe) (s := s2) (x := z) (t := t) (Q := EP X pins σ Q) ⟨.str z, H2, I2, ⟨t, rfl⟩, q3⟩ ⟨.str z, H2, I2.tok _, ⟨_, rfl⟩, q3⟩ hz
  first
    | exact wpAny_pure go
    | (rw [if_pos rfl]; exact wpAny_pure go)
    | (simp only [if_true]; exact wpAny_pure go)
theorem call_dm : CallR X (.builtin "divmod") (fun xs H Q => ∃ i j, xs = [.int i, .int j] ∧ 0 < j ∧ j.natAbs.log2 < 9000 ∧ ∀ p, H p = none → Q (.ref p) (upd H p (.tup [.int (i / j), .int (i % j)]))) := by
  intro pins s σ H xs us Q I r h
  obtain ⟨i, j, rfl, h1, h2, q⟩ := h
  obtain ⟨u, w', rfl, ⟨t, rfl⟩, ⟨t', rfl⟩⟩ := vals2 r
  refine divmod_int (by omega) ?_ (.inl (PyProof.noPylong_of_log2 h2))
  rw [Int.fdiv_eq_ediv_of_nonneg i (by omega), Int.fmod_eq_emod_of_nonneg i (by omega)]
  have hn : H s.heap.objs.size = none := I.hok.fresh (Nat.le_refl _)
  refine ⟨.ref s.heap.objs.size, _, ?_, rfl, q _ hn⟩
  refine I.laid (fun b o e => Heap.get?_push_of_some _ e) (Nat.le_refl _) ⟨by show 2 ≤ sizeLine; rw [sizeLine_eq]; decide, [.int (i / j) s.toks, .int (i % j) (s.toks + 1)], .cons ⟨_, rfl⟩ (.cons ⟨_, rfl⟩ .nil), ?_⟩
  exact ⟨_, Heap.get?_push_size s.heap rfl, rfl, 0, rfl⟩
theorem bnil {K : PySem.W.Frag} {fd : FuncData} {ps : List Str} {ds : List Value} (v : Vals [] ds) (b : Binds K fd ps ds) : Binds K fd ps [] := by
  cases v
  exact b
end
/-! ### the text of a number, of a Measure -/
def iT (i : Int) : Str := Str.ofString (toString i)
theorem Sz.log' {a : Nat} {x : Int} (h : Sz a x) (h0 : 0 < a) (l : a ≤ 1920) : x.natAbs.log2 < 1920 := Nat.lt_of_lt_of_le (PySem.Flt.log2_lt_of h0 h) l
theorem iT_len {i : Int} (h : Sz 1900 i) : (iT i).length ≤ 1921 := by
  have e := int_text_length_le (k := 1920) (by decide) (h.log' (by decide) (by decide))
  unfold iT
  rw [PySem.ofString_length]
  omega
def wTxt (a u : Int) : Str := if a % u = 0 then iT (a / u) else if a / u = 0 then Str.empty ++ iT (a % u) ++ "/" ++ iT u else Str.empty ++ iT (a / u) ++ " " ++ iT (a % u) ++ "/" ++ iT u
def mTxt (t u : Int) : Str := if t < 0 then Str.empty ++ "-" ++ wTxt (-t) u else wTxt t u
def mRep (t u : Int) : Str := Str.empty ++ "Measure(" ++ iT t ++ ", " ++ iT u ++ ")"
theorem Sz.ediv {k : Nat} {a u : Int} (h : Sz k a) (h0 : 0 ≤ a) (hu : 0 < u) : Sz k (a / u) := h.le (by
  have h1 := Int.ediv_nonneg h0 (Int.le_of_lt hu)
  have h2 := Int.ediv_le_self u h0
  omega)
theorem Sz.emod {k : Nat} {a u : Int} (h : Sz k u) (hu : 0 < u) : Sz k (a % u) := h.le (by
  have h1 := Int.emod_nonneg a (show u ≠ 0 by omega)
  have h2 := Int.emod_lt_of_pos a hu
  omega)
theorem wTxt_len {a u : Int} (ha : Sz 1900 a) (hu : Sz 1900 u) (h0 : 0 ≤ a) (h1 : 0 < u) : (wTxt a u).length ≤ 6000 := by
  have l1 := iT_len (ha.ediv h0 h1)
  have l2 := iT_len (hu.emod (a := a) h1)
  have l3 := iT_len hu
  have e0 : Str.empty.length = 0 := rfl
  have e1 : (Str.ofString "/").length = 1 := rfl
  have e2 : (Str.ofString " ").length = 1 := rfl
  unfold wTxt
  split
  · omega
  · split
    · simp only [Str.length_append]; omega
    · simp only [Str.length_append]; omega
theorem mTxt_len {t u : Int} (ha : Sz 1900 t) (hu : Sz 1900 u) (h1 : 0 < u) : (mTxt t u).length ≤ 6001 := by
  have e0 : Str.empty.length = 0 := rfl
  have e1 : (Str.ofString "-").length = 1 := rfl
  unfold mTxt
  split
  · have := wTxt_len ha.neg hu (by omega) h1
    simp only [Str.length_append]; omega
  · have := wTxt_len ha hu (by omega) h1
    omega
theorem join_eq (sep : Str) (l : List Str) : Txt.join sep l = Str.join sep l := eq_of_beq (PyProof.Rows.join_plain_closes sep l)
theorem join_len (sep : Str) : ∀ l : List Str, (Txt.join sep l).length ≤ (l.map (·.length)).sum + l.length * sep.length := fun l => by
  rw [join_eq]
  induction l with
  | nil => exact Nat.zero_le _
  | cons x r ih =>
    cases r with
    | nil => show x.length ≤ x.length + 0 + 1 * sep.length; omega
    | cons y r =>
      have e : (Str.join sep (x :: y :: r)).length = x.length + sep.length + (Str.join sep (y :: r)).length := by
        show (x ++ sep ++ Str.join sep (y :: r)).length = _
        simp only [Str.length_append]
      have e2 : ((x :: y :: r).map (·.length)).sum = x.length + ((y :: r).map (·.length)).sum := rfl
      have e3 : (x :: y :: r).length * sep.length = (y :: r).length * sep.length + sep.length := by
        rw [List.length_cons, Nat.add_mul, Nat.one_mul]
      rw [e, e2, e3]
      omega
/-- the text as the laws write it: words, a blank between -/
theorem law_txt {t u : Int} (hu : 0 < u) : (if decide (t < 0) = true then ("-" : Str) else "") ++ Txt.join " " ((if u ≤ (t.natAbs : Int) ∨ (t.natAbs : Int) = 0 then [iT ((t.natAbs : Int) / u)] else []) ++ (if 0 < (t.natAbs : Int) % u then [iT ((t.natAbs : Int) % u) ++ "/" ++ iT u] else [])) = mTxt t u := by
  have w : ∀ A : Int, 0 ≤ A → Txt.join " " ((if u ≤ A ∨ A = 0 then [iT (A / u)] else []) ++ (if 0 < A % u then [iT (A % u) ++ "/" ++ iT u] else [])) = wTxt A u := fun A h0 => by
    have m0 := Int.emod_nonneg A (show u ≠ 0 by omega)
    have m1 := Int.emod_lt_of_pos A hu
    have de := Int.emod_add_mul_ediv A u
    have d0 := Int.ediv_nonneg h0 (Int.le_of_lt hu)
    rw [join_eq]
    unfold wTxt
    by_cases e : A % u = 0
    · have c : u ≤ A ∨ A = 0 := by
        rcases Int.lt_or_le 0 (A / u) with z | z
        · left
          have : u * 1 ≤ u * (A / u) := Int.mul_le_mul_of_nonneg_left (by omega) (by omega)
          omega
        · right
          have : A / u = 0 := by omega
          rw [this] at de
          omega
      rw [if_pos c, if_neg (by omega), if_pos e]
      rfl
    · rw [if_neg e, if_pos (show 0 < A % u by omega)]
      by_cases z : A / u = 0
      · have c : ¬ (u ≤ A ∨ A = 0) := by
          rw [z] at de
          omega
        rw [if_neg c, if_pos z, Str.empty_append]
        rfl
      · have c : u ≤ A ∨ A = 0 := by
          left
          have : u * 1 ≤ u * (A / u) := Int.mul_le_mul_of_nonneg_left (by omega) (by omega)
          omega
        rw [if_pos c, if_neg z, Str.empty_append]
        show iT (A / u) ++ " " ++ (iT (A % u) ++ "/" ++ iT u) = _
        simp only [Str.append_assoc]
  rw [w _ (by omega)]
  unfold mTxt
  by_cases e : t < 0
  · rw [if_pos e, if_pos (decide_eq_true e), Str.empty_append]
    have : (t.natAbs : Int) = -t := by omega
    rw [this]
  · rw [if_neg e, if_neg (by simpa using e)]
    have : (t.natAbs : Int) = t := by omega
    rw [this]
    exact Str.empty_append _
theorem fr_uniq {t u t' u' a b : Int} (f : Fr t u a b) (g : Fr t' u' a b) (hb : b ≠ 0) (sa : Sz 4000 a) (sb : Sz 4000 b) : t = t' ∧ u = u' := by
  have e : t * u' = t' * u := f.of hb g.eq.symm
  have := low_eq (a := (t, u)) (b := (t', u')) ⟨f.pos, f.co, sa.le f.lt, sb.le f.lu⟩ ⟨g.pos, g.co, sa.le g.lt, sb.le g.lu⟩ e
  exact ⟨congrArg Prod.fst this, congrArg Prod.snd this⟩
end My
namespace My
open PySem PySem.Spec PyProof.Rows L2
/-! ### Stretches alike -/
def optEq : Option Q2 → Option Q2 → Bool
  | none, none => true
  | some a, some b => eqq a b
  | _, _ => false
theorem optEq_self (a : Option Q2) : optEq a a = true := by
  cases a with
  | none => rfl
  | some a => exact eqq_self a
theorem eqq_comm' (a b : Q2) : eqq a b = eqq b a := by
  unfold eqq
  exact decide_eq_decide.mpr eq_comm
theorem optEq_comm (a b : Option Q2) : optEq a b = optEq b a := by
  cases a with
  | none => cases b <;> rfl
  | some a =>
    cases b with
    | none => rfl
    | some b => exact eqq_comm' a b
def eqS (lo hi : Option Q2) (li hj : Bool) (lo' hi' : Option Q2) (li' hj' : Bool) : Bool := optEq lo lo' && (optEq hi hi' && (decide (V.bl li = V.bl li') && decide (V.bl hj = V.bl hj')))
theorem eqS_self (lo hi : Option Q2) (li hj : Bool) : eqS lo hi li hj lo hi li hj = true := by
  unfold eqS
  rw [optEq_self, optEq_self, decide_eq_true rfl, decide_eq_true rfl]
  rfl
theorem eqS_comm (lo hi : Option Q2) (li hj : Bool) (lo' hi' : Option Q2) (li' hj' : Bool) : eqS lo hi li hj lo' hi' li' hj' = eqS lo' hi' li' hj' lo hi li hj := by
  unfold eqS
  rw [optEq_comm lo, optEq_comm hi, decide_eq_decide.mpr (eq_comm (a := V.bl li)), decide_eq_decide.mpr (eq_comm (a := V.bl hj))]
/-- None beside None -/
def DNn : Eqb := fun x y _ b => x = .non ∧ y = .non ∧ b = true
theorem rcB_nn {X : Cx} {n : Nat} : RcB X n DNn := by
  intro A pins s σ H x y u v b sb I rx ry d
  obtain ⟨rfl, rfl, rfl⟩ := d
  cases (show u = Value.none from rx)
  cases (show v = Value.none from ry)
  exact SeqAt.RcAt.none_none X.prog X.w X.xe _ ⟨rfl, I⟩
section
variable {K : PySem.W.Frag} {CM CS p : Addr} {H : Hp}
/-- two ends of Stretches -/
def DMs (K : PySem.W.Frag) (CM : Addr) : Eqb := DOr (DOr (DOwn K CM (REq K CM)) (DRef CM (REq K CM))) DNn
theorem ms_eq {v w : V} {e f : Option Q2} (cl : Cls K CM) (ii : IsC K CM) (ec : EqC K CM) (a : MsV CM H v e) (b : MsV CM H w f) (l1 : LowO e) (l2 : LowO f) : DMs K CM v w H (optEq e f) := by
  cases e with
  | none =>
    cases f with
    | none => exact .inr ⟨a, b, rfl⟩
    | some y =>
      cases a
      obtain ⟨q, rfl, hq⟩ := b
      exact .inl (Like.bwd cl ii ec (.kd hq .non))
  | some x =>
    obtain ⟨p, rfl, hp⟩ := a
    cases f with
    | none =>
      cases b
      exact .inl (.inl (Like.fwd cl ii ec (.kd hp .non)))
    | some y =>
      obtain ⟨q, rfl, hq⟩ := b
      have := Like.fwd (K := K) cl ii ec (.ms hp hq)
      rw [low_eqq l1 l2] at this
      exact .inl (.inl this)
def REqS (K : PySem.W.Frag) (CM CS : Addr) : Eqb := fun x y H b => ∃ p lo hi li hj, x = .ref p ∧ StAt CM CS H p lo hi li hj ∧ ((∃ q lo' hi' li' hj', y = .ref q ∧ StAt CM CS H q lo' hi' li' hj' ∧ b = eqS lo hi li hj lo' hi' li' hj') ∨
  ∃ tv, TyX K H y tv ∧ PySem.W.kitOne K tv (.ref CS) = some false ∧ b = false)
inductive LikeS (CM CS : Addr) (H : Hp) (p : Addr) : V → Bool → Prop where
  | st {q : Addr} {lo hi lo' hi' : Option Q2} {li hj li' hj' : Bool} (a : StAt CM CS H p lo hi li hj) (b : StAt CM CS H q lo' hi' li' hj') : LikeS CM CS H p (.ref q) (eqS lo hi li hj lo' hi' li' hj')
  | kd {y : V} {T : String} {lo hi : Option Q2} {li hj : Bool} (a : StAt CM CS H p lo hi li hj) (b : Bk H y T) : LikeS CM CS H p y false
  | ms {q : Addr} {t u : Int} {lo hi : Option Q2} {li hj : Bool} (a : StAt CM CS H p lo hi li hj) (b : MAt CM H q t u) : LikeS CM CS H p (.ref q) false
theorem LikeS.same {H' : Hp} {y : V} {b : Bool} (h : LikeS CM CS H p y b) (s : Same H H') : LikeS CM CS H' p y b := by
  cases h with
  | st a b => exact .st (a.same s) (b.same s)
  | kd a k => exact .kd (a.same s) (k.same s)
  | ms a m => exact .ms (a.same s) (m.same s)
theorem MsV.uniq {v : V} {e f : Option Q2} (a : MsV CM H v e) (b : MsV CM H v f) : e = f := by
  cases e with
  | none =>
    cases a
    cases f with
    | none => rfl
    | some y => obtain ⟨q, z, _⟩ := b; exact nomatch z
  | some x =>
    obtain ⟨p, rfl, hp⟩ := a
    cases f with
    | none => exact nomatch (show V.ref p = V.non from b)
    | some y =>
      obtain ⟨q, z, hq⟩ := b
      cases z
      obtain ⟨h1, h2⟩ := hp.uniq hq
      rw [show x = (x.1, x.2) from rfl, show y = (y.1, y.2) from rfl, h1, h2]
theorem sf_inj {l h l' h' : V} {i j i' j' : Bool} (e : sf l h i j = sf l' h' i' j') : l = l' ∧ h = h' ∧ i = i' ∧ j = j' := by
  have g : ∀ m : Str, (sf l h i j).lookup m = (sf l' h' i' j').lookup m := fun m => by rw [e]
  have g1 := g "low"
  have g2 := g "high"
  have g3 := g "low_in"
  have g4 := g "high_in"
  rw [sf_low, sf_low] at g1
  rw [sf_high, sf_high] at g2
  rw [sf_low_in, sf_low_in] at g3
  rw [sf_high_in, sf_high_in] at g4
  exact ⟨Option.some.inj g1, Option.some.inj g2, V.bl.inj (Option.some.inj g3), V.bl.inj (Option.some.inj g4)⟩
theorem StAt.uniq {lo hi lo' hi' : Option Q2} {li hj li' hj' : Bool} (a : StAt CM CS H p lo hi li hj) (b : StAt CM CS H p lo' hi' li' hj') : lo = lo' ∧ hi = hi' ∧ li = li' ∧ hj = hj' := by
  obtain ⟨⟨d, l, h, h1, h2, h3⟩, _⟩ := a
  obtain ⟨⟨d', l', h', k1, k2, k3⟩, _⟩ := b
  rw [h1] at k1
  have e := HO.ins.inj (Option.some.inj k1)
  obtain ⟨rfl, rfl, rfl, rfl⟩ := sf_inj e.2.2
  exact ⟨h2.uniq k2, h3.uniq k3, rfl, rfl⟩
theorem st_notM {q : Addr} {lo hi : Option Q2} {li hj : Bool} {t u : Int} (a : StAt CM CS H p lo hi li hj) (m : MAt CM H p t u) : False := by
  obtain ⟨⟨d, l, hh, h1, _⟩, _⟩ := a
  obtain ⟨dm, hm⟩ := m
  rw [h1] at hm
  have e := (HO.ins.inj (Option.some.inj hm)).2.2
  have e2 := congrArg (fun fs : List (Str × V) => fs.lookup ("top" : Str)) e
  have e3 : (sf l hh li hj).lookup ("top" : Str) = none := sf_no _ _ _ _ (by decide +kernel) (by decide +kernel) (by decide +kernel) (by decide +kernel)
  have e4 := mf_top t u
  rw [show (sf l hh li hj).lookup ("top" : Str) = (mf t u).lookup ("top" : Str) from e2, e4] at e3
  cases e3
/-- what is asked of the two classes -/
structure Two (K : PySem.W.Frag) (CM CS : Addr) : Prop where
  clM : Cls K CM
  iiM : IsC K CM
  ecM : EqC K CM
  clS : Cls K CS
  iiS : IsC K CS
  ecS : EqC K CS
  nMS : PySem.W.notFirst K CM (.ref CS) = true
  nSM : PySem.W.notFirst K CS (.ref CM) = true
  kMS : PySem.W.kitOne K (.ref CM) (.ref CS) = some false
  kSM : PySem.W.kitOne K (.ref CS) (.ref CM) = some false
def DAllS (K : PySem.W.Frag) (CM CS : Addr) : Eqb := DOr (DOr (DOwn K CS (REqS K CM CS)) (DRef CS (REqS K CM CS))) (DOwn K CM (REq K CM))
theorem LikeS.fwd {y : V} {b : Bool} (T : Two K CM CS) (h : LikeS CM CS H p y b) : DOwn K CS (REqS K CM CS) (.ref p) y H b := by
  cases h with
  | @st q lo hi lo' hi' li hj li' hj' a b =>
    obtain ⟨⟨d, l, hh, h1, _⟩, _⟩ := _root_.id a
    obtain ⟨⟨d', l', hh', k1, _⟩, _⟩ := _root_.id b
    refine ⟨p, d, _, _, rfl, h1, tyM k1 T.clS T.iiS, nf_self, fun e => ?_, p, lo, hi, li, hj, rfl, a, .inl ⟨q, lo', hi', li', hj', rfl, b, rfl⟩⟩
    cases e
    obtain ⟨rfl, rfl, rfl, rfl⟩ := a.uniq b
    exact eqS_self _ _ _ _
  | @kd _ Ty lo hi li hj a k =>
    obtain ⟨⟨d, l, hh, h1, _⟩, _⟩ := _root_.id a
    refine ⟨p, d, _, _, rfl, h1, k.ty, T.ecS.nf Ty k.mem, fun e => ?_, p, lo, hi, li, hj, rfl, a, .inr ⟨_, k.ty, T.ecS.kit Ty k.mem, rfl⟩⟩
    subst e
    exact (k.notIns h1).elim
  | @ms q t u lo hi li hj a m =>
    obtain ⟨⟨d, l, hh, h1, _⟩, _⟩ := _root_.id a
    obtain ⟨dm, hm⟩ := _root_.id m
    have ty := tyM hm T.clM T.iiM
    refine ⟨p, d, _, _, rfl, h1, ty, T.nSM, fun e => ?_, p, lo, hi, li, hj, rfl, a, .inr ⟨_, ty, T.kMS, rfl⟩⟩
    cases e
    exact (st_notM (q := p) a m).elim
theorem LikeS.bwd {y : V} {b : Bool} (T : Two K CM CS) (h : LikeS CM CS H p y b) : DAllS K CM CS y (.ref p) H b := by
  cases h with
  | @st q lo hi lo' hi' li hj li' hj' a b =>
    rw [eqS_comm]
    exact .inl (.inl (LikeS.fwd T (.st b a)))
  | @kd _ Ty lo hi li hj a k =>
    obtain ⟨⟨d, l, hh, h1, _⟩, _⟩ := _root_.id a
    refine .inl (.inr ⟨p, d, _, Ty, rfl, h1, k, fun e => ?_, p, lo, hi, li, hj, rfl, a, .inr ⟨_, k.ty, T.ecS.kit Ty k.mem, rfl⟩⟩)
    subst e
    exact (k.notIns h1).elim
  | @ms q t u lo hi li hj a m =>
    obtain ⟨⟨d, l, hh, h1, _⟩, _⟩ := _root_.id a
    obtain ⟨dm, hm⟩ := _root_.id m
    have ty := tyM h1 T.clS T.iiS
    refine .inr ⟨q, dm, _, _, rfl, hm, ty, T.nMS, fun e => ?_, q, t, u, rfl, m, .inr ⟨_, ty, T.kSM, rfl⟩⟩
    cases e
    exact (st_notM (q := p) a m).elim
theorem LikeS.inl {y : V} {b : Bool} (T : Two K CM CS) (h : LikeS CM CS H p y b) : InB (DAllS K CM CS) (.ref p) H [.non, y] b := by
  have go : ∀ {lo hi li hj}, StAt CM CS H p lo hi li hj → DAllS K CM CS .non (.ref p) H false := fun {lo hi li hj} a => LikeS.bwd T (.kd a .non)
  have nn : DAllS K CM CS .non (.ref p) H false := by
    cases h with
    | st a _ => exact go a
    | kd a _ => exact go a
    | ms a _ => exact go a
  refine .inr ⟨nn, ?_⟩
  cases b with
  | true => exact .inl ⟨h.bwd T, rfl⟩
  | false => exact .inr ⟨h.bwd T, rfl⟩
end
/-! ### texts of Stretches -/
def eT : Option Q2 → Str
  | none => ".."
  | some a => mTxt a.1 a.2
/-- of at most so many bits -/
def SzO (k : Nat) : Option Q2 → Prop
  | none => True
  | some a => Sz k a.1 ∧ Sz k a.2
/-- the tuple of two ends and two truths -/
def EndsK (k : Nat) (H : Hp) (v : V) (ea eb : Option Q2) (ia ib : Bool) : Prop := ∃ p va vb, v = .ref p ∧ H p = some (.tup [va, vb, .bl ia, .bl ib]) ∧ EndV k H va ea ∧ EndV k H vb eb
theorem EndsK.nl {k : Nat} {H H' : Hp} {v : V} {ea eb : Option Q2} {ia ib : Bool} (a : EndsK k H v ea eb ia ib) (s : Nl H H') : EndsK k H' v ea eb ia ib := by
  obtain ⟨p, va, vb, h0, h1, h2, h3⟩ := a
  exact ⟨p, va, vb, h0, s _ _ h1 rfl, h2.nl s, h3.nl s⟩
theorem EndsK.same {k : Nat} {H H' : Hp} {v : V} {ea eb : Option Q2} {ia ib : Bool} (a : EndsK k H v ea eb ia ib) (s : Same H H') : EndsK k H' v ea eb ia ib := a.nl (Nl.of s)
theorem EndsAt.k {H : Hp} {p : Addr} {ea eb : Option Q2} {ia ib : Bool} (a : EndsAt H p ea eb ia ib) : EndsK 150 H (.ref p) ea eb ia ib := by
  obtain ⟨⟨va, vb, h1, h2, h3⟩, _⟩ := a
  exact ⟨p, va, vb, rfl, h1, h2.mono (by decide), h3.mono (by decide)⟩
theorem re_low {m a : Q2} (h : Re m a) (l : Low m) : m.1.natAbs ≤ a.1.natAbs ∧ m.2.natAbs ≤ a.2.natAbs := by
  obtain ⟨h1, h2, e⟩ := h
  have co : Int.gcd m.2 m.1 = 1 := by rw [Int.gcd_comm]; exact l.co
  have d2 : m.2 ∣ a.2 := dvd_co (b := m.1) ⟨a.1, by rw [e, Int.mul_comm]⟩ co
  obtain ⟨k, hk⟩ := d2
  have k0 : 0 < k := by
    rcases Int.lt_or_le 0 k with z | z
    · exact z
    · have := Int.mul_nonneg_of_nonpos_of_nonpos (show -m.2 ≤ 0 by omega) z
      have e2 : -m.2 * k = -(m.2 * k) := Int.neg_mul ..
      omega
  have e1 : a.1 = m.1 * k := by
    have : a.1 * m.2 = (m.1 * k) * m.2 := by
      rw [← e, hk]
      simp only [Int.mul_assoc, Int.mul_comm, Int.mul_left_comm]
    exact Int.eq_of_mul_eq_mul_right (by omega) this
  constructor
  · rw [e1, Int.natAbs_mul]
    exact Nat.le_mul_of_pos_right _ (by omega)
  · rw [hk, Int.natAbs_mul]
    exact Nat.le_mul_of_pos_right _ (by omega)
end My
namespace My
open PySem PySem.Spec PyProof.Rows L2
/-! ### texts by their signs: partings at the last and the first sign -/
/-! ### x.rpartition(sep) -/
/-! ### a leading sign -/
/-! ### the words of a measure's text -/
/-! ### the text of a Measure by its signs -/
end My
namespace My
open PySem PySem.Spec PyProof.Rows L2
/-! ### list.count(True) of truths -/
/-! ### Measures as fractions -/
theorem fr_of {t u A B : Int} (hu : 0 < u) (co : Int.gcd t u = 1) (hB : 0 < B) (e : t * B = A * u) : Fr t u A B := by
  have co' : Int.gcd u t = 1 := by rw [Int.gcd_comm]; exact co
  have d2 : u ∣ B := dvd_co (b := t) ⟨A, by rw [e, Int.mul_comm]⟩ co'
  obtain ⟨k, hk⟩ := d2
  have k0 : 0 < k := by
    rcases Int.lt_or_le 0 k with z | z
    · exact z
    · have := Int.mul_nonneg_of_nonpos_of_nonpos (show -u ≤ 0 by omega) z
      have e2 : -u * k = -(u * k) := Int.neg_mul ..
      omega
  have e1 : A = t * k := by
    have : A * u = (t * k) * u := by
      rw [← e, hk]
      simp only [Int.mul_assoc, Int.mul_comm, Int.mul_left_comm]
    exact Int.eq_of_mul_eq_mul_right (by omega) this
  refine ⟨hu, e, co, ?_, ?_⟩
  · rw [e1, Int.natAbs_mul]
    exact Nat.le_mul_of_pos_right _ (by omega)
  · rw [hk, Int.natAbs_mul]
    exact Nat.le_mul_of_pos_right _ (by omega)
def qadd (x y : Q2) : Q2 := (x.1 * y.2 + y.1 * x.2, x.2 * y.2)
def qsub (x y : Q2) : Q2 := (x.1 * y.2 - y.1 * x.2, x.2 * y.2)
def qmul (x y : Q2) : Q2 := (x.1 * y.1, x.2 * y.2)
def qprt (x : Q2) (m : Int) : Q2 := (x.1 * sgn m, x.2 * (m * sgn m))
def qmk (a b : Int) : Q2 := (a * sgn b, b * sgn b)
theorem sgn_pos {m : Int} (h : m ≠ 0) : 0 < m * sgn m := by
  unfold sgn; split
  · omega
  · rw [Int.mul_neg_one]; omega
structure QAt (C : Addr) (H : Hp) (p : Addr) (k : Nat) (x : Q2) : Prop where
  ob : ∃ t u, MAt C H p t u ∧ Fr t u x.1 x.2
  pos : 0 < x.2
  s1 : Sz k x.1
  s2 : Sz k x.2
theorem QAt.same {C p : Addr} {H H' : Hp} {k : Nat} {x : Q2} (h : QAt C H p k x) (s : Same H H') : QAt C H' p k x := by
  obtain ⟨⟨t, u, m, f⟩, h1, h2, h3⟩ := h
  exact ⟨⟨t, u, m.same s, f⟩, h1, h2, h3⟩
theorem QAt.mono {C p : Addr} {H : Hp} {k j : Nat} {x : Q2} (h : QAt C H p k x) (l : k ≤ j) : QAt C H p j x := ⟨h.ob, h.pos, h.s1.mono l, h.s2.mono l⟩
theorem QAt.kp {C p hd : Addr} {H H' : Hp} {n k : Nat} {x : Q2} (h : QAt C H p k x) (hh : HandAt H hd n) (s : Kp hd H H') : QAt C H' p k x := by
  obtain ⟨⟨t, u, m, f⟩, h1, h2, h3⟩ := h
  exact ⟨⟨t, u, m.kp hh s, f⟩, h1, h2, h3⟩
theorem QAt.nl {C p : Addr} {H H' : Hp} {k : Nat} {x : Q2} (h : QAt C H p k x) (s : Nl H H') : QAt C H' p k x := by
  obtain ⟨⟨t, u, ⟨d, m⟩, f⟩, h1, h2, h3⟩ := h
  exact ⟨⟨t, u, ⟨d, s _ _ m rfl⟩, f⟩, h1, h2, h3⟩
section
variable {C p q : Addr} {H : Hp} {Q : VK} {E : XK} {k j : Nat} {x y : Q2}
theorem QAt.raw (h : QAt C H p k x) {m : Str} (h1 : ¬ m = "top") (h2 : ¬ m = "bottom") : ∃ dx fs, H p = some (.ins C dx fs) ∧ fs.lookup m = none := by
  obtain ⟨⟨t, u, ⟨d, m⟩, f⟩, _⟩ := h
  exact ⟨d, _, m, mf_no _ _ h1 h2⟩
theorem q_add (hx : QAt C H p k x) (hy : QAt C H q j y) (l : k + j ≤ 8900) (l0 : 0 < k) (l1 : 0 < j) (f : ∀ (r : Addr) (H' : Hp), Same H H' → QAt C H' r (k + j + 1) (qadd x y) → Q (.ref r) H') :
    sp_bin2 C (fun t u t' u' => t * u' + t' * u) (fun t u t' u' => u * u') [.ref p, .ref q] H Q E := by
  obtain ⟨⟨t, u, m1, f1⟩, px, a1, a2⟩ := hx
  obtain ⟨⟨t', u', m2, f2⟩, py, b1, b2⟩ := hy
  refine ⟨p, q, t, u, t', u', rfl, m1, m2, f1.pos, f2.pos, (a1.le f1.lt).mono (by omega), (a2.le f1.lu).mono (by omega), (b1.le f2.lt).mono (by omega), (b2.le f2.lu).mono (by omega), ((a2.le f1.lu).mul (b2.le f2.lu)).mono (by omega), fun r t2 u2 H' _ s m f3 => ?_⟩
  refine f r H' s ⟨⟨t2, u2, m, fr_of f3.pos f3.co (Int.mul_pos px py) ?_⟩, Int.mul_pos px py, (a1.mul b2).add ((b1.mul a2).mono (by omega)), (a2.mul b2).mono (by omega)⟩
  have e1 := f1.eq
  have e2 := f2.eq
  have e3 := f3.eq
  have z : (t2 * (x.2 * y.2)) * (u * u') = ((x.1 * y.2 + y.1 * x.2) * u2) * (u * u') := by
    have : (t2 * (x.2 * y.2)) * (u * u') = (t2 * (u * u')) * (x.2 * y.2) := by grind
    rw [this, e3]
    have w1 : (t * u' + t' * u) * u2 * (x.2 * y.2) = ((t * x.2) * u' * y.2 + (t' * y.2) * u * x.2) * u2 := by grind
    rw [w1, e1, e2]
    grind
  have pu := Int.mul_pos f1.pos f2.pos
  exact Int.eq_of_mul_eq_mul_right (by omega) z
theorem q_sub (hx : QAt C H p k x) (hy : QAt C H q j y) (l : k + j ≤ 8900) (l0 : 0 < k) (l1 : 0 < j) (f : ∀ (r : Addr) (H' : Hp), Same H H' → QAt C H' r (k + j + 1) (qsub x y) → Q (.ref r) H') :
    sp_bin2 C (fun t u t' u' => t * u' - t' * u) (fun t u t' u' => u * u') [.ref p, .ref q] H Q E := by
  obtain ⟨⟨t, u, m1, f1⟩, px, a1, a2⟩ := hx
  obtain ⟨⟨t', u', m2, f2⟩, py, b1, b2⟩ := hy
  refine ⟨p, q, t, u, t', u', rfl, m1, m2, f1.pos, f2.pos, (a1.le f1.lt).mono (by omega), (a2.le f1.lu).mono (by omega), (b1.le f2.lt).mono (by omega), (b2.le f2.lu).mono (by omega), ((a2.le f1.lu).mul (b2.le f2.lu)).mono (by omega), fun r t2 u2 H' _ s m f3 => ?_⟩
  refine f r H' s ⟨⟨t2, u2, m, fr_of f3.pos f3.co (Int.mul_pos px py) ?_⟩, Int.mul_pos px py, (a1.mul b2).sub ((b1.mul a2).mono (by omega)), (a2.mul b2).mono (by omega)⟩
  have e1 := f1.eq
  have e2 := f2.eq
  have e3 := f3.eq
  have z : (t2 * (x.2 * y.2)) * (u * u') = ((x.1 * y.2 - y.1 * x.2) * u2) * (u * u') := by
    have : (t2 * (x.2 * y.2)) * (u * u') = (t2 * (u * u')) * (x.2 * y.2) := by grind
    rw [this, e3]
    have w1 : (t * u' - t' * u) * u2 * (x.2 * y.2) = ((t * x.2) * u' * y.2 - (t' * y.2) * u * x.2) * u2 := by grind
    rw [w1, e1, e2]
    grind
  have pu := Int.mul_pos f1.pos f2.pos
  exact Int.eq_of_mul_eq_mul_right (by omega) z
theorem q_mul (hx : QAt C H p k x) (hy : QAt C H q j y) (l : k + j ≤ 8900) (l0 : 0 < k) (l1 : 0 < j) (f : ∀ (r : Addr) (H' : Hp), Same H H' → QAt C H' r (k + j + 1) (qmul x y) → Q (.ref r) H') :
    sp_bin2 C (fun t u t' u' => t * t') (fun t u t' u' => u * u') [.ref p, .ref q] H Q E := by
  obtain ⟨⟨t, u, m1, f1⟩, px, a1, a2⟩ := hx
  obtain ⟨⟨t', u', m2, f2⟩, py, b1, b2⟩ := hy
  refine ⟨p, q, t, u, t', u', rfl, m1, m2, f1.pos, f2.pos, (a1.le f1.lt).mono (by omega), (a2.le f1.lu).mono (by omega), (b1.le f2.lt).mono (by omega), (b2.le f2.lu).mono (by omega), ((a2.le f1.lu).mul (b2.le f2.lu)).mono (by omega), fun r t2 u2 H' _ s m f3 => ?_⟩
  refine f r H' s ⟨⟨t2, u2, m, fr_of f3.pos f3.co (Int.mul_pos px py) ?_⟩, Int.mul_pos px py, (a1.mul b1).mono (by omega), (a2.mul b2).mono (by omega)⟩
  have e1 := f1.eq
  have e2 := f2.eq
  have e3 := f3.eq
  have z : (t2 * (x.2 * y.2)) * (u * u') = ((x.1 * y.1) * u2) * (u * u') := by
    have : (t2 * (x.2 * y.2)) * (u * u') = (t2 * (u * u')) * (x.2 * y.2) := by grind
    rw [this, e3]
    have w1 : (t * t') * u2 * (x.2 * y.2) = (t * x.2) * (t' * y.2) * u2 := by grind
    rw [w1, e1, e2]
    grind
  have pu := Int.mul_pos f1.pos f2.pos
  exact Int.eq_of_mul_eq_mul_right (by omega) z
theorem q_mk {a b t u : Int} {H' : Hp} (m : MAt C H' p t u) (f : Fr t u a b) (hb : b ≠ 0) (sa : Sz k a) (sb : Sz k b) : QAt C H' p k (qmk a b) := by
  have pm := sgn_pos hb
  have sgnN : (sgn b).natAbs = 1 := by rcases sgn_cases b with e | e <;> rw [e] <;> rfl
  refine ⟨⟨t, u, m, fr_of f.pos f.co pm ?_⟩, pm, sa.le (by show (a * sgn b).natAbs ≤ _; rw [Int.natAbs_mul, sgnN, Nat.mul_one]; exact Nat.le_refl _), sb.le (by show (b * sgn b).natAbs ≤ _; rw [Int.natAbs_mul, sgnN, Nat.mul_one]; exact Nat.le_refl _)⟩
  show t * (b * sgn b) = a * sgn b * u
  have e := f.eq
  have : t * (b * sgn b) = (t * b) * sgn b := by grind
  rw [this, e]
  grind
theorem q_below {al : Bool} (hx : QAt C H p k x) (hy : QAt C H q j y) (l : k ≤ 9000) (l1 : j ≤ 9000) (f : Q (.bl (ltq x y || (al && eqq x y))) H) : sp_below C [.ref p, .ref q, .bl al] H Q E := by
  obtain ⟨⟨t, u, m1, f1⟩, px, a1, a2⟩ := hx
  obtain ⟨⟨t', u', m2, f2⟩, py, b1, b2⟩ := hy
  refine ⟨p, q, t, u, t', u', al, rfl, m1, m2, (a1.le f1.lt).mono l, (a2.le f1.lu).mono l, (b1.le f2.lt).mono l1, (b2.le f2.lu).mono l1, ?_⟩
  have r1 : Re (t, u) x := ⟨f1.pos, px, f1.eq⟩
  have r2 : Re (t', u') y := ⟨f2.pos, py, f2.eq⟩
  have e : lessA t u t' u' al = (ltq x y || (al && eqq x y)) := by
    rw [← ltq_congr r1 r2, ← eqq_congr r1 r2]
    rfl
  rw [e]
  exact f
end
/-! the same, behind the arguments -/
section
variable {C p q : Addr} {H : Hp} {Q : VK} {E : XK} {k j : Nat} {x y : Q2} {σ : L2.St}
theorem q_addT (hx : QAt C H p k x) (hy : QAt C H q j y) (l : k + j ≤ 8900) (l0 : 0 < k) (l1 : 0 < j) (f : ∀ (r : Addr) (H' : Hp), Same H H' → QAt C H' r (k + j + 1) (qadd x y) → Q (.ref r) H') :
    tNil σ H (fun xs H2 => sp_bin2 C (fun t u t' u' => t * u' + t' * u) (fun t u t' u' => u * u') (.ref p :: ((.ref q :: xs) ++ [])) H2 Q E) := q_add (E := E) hx hy l l0 l1 f
theorem q_subT (hx : QAt C H p k x) (hy : QAt C H q j y) (l : k + j ≤ 8900) (l0 : 0 < k) (l1 : 0 < j) (f : ∀ (r : Addr) (H' : Hp), Same H H' → QAt C H' r (k + j + 1) (qsub x y) → Q (.ref r) H') :
    tNil σ H (fun xs H2 => sp_bin2 C (fun t u t' u' => t * u' - t' * u) (fun t u t' u' => u * u') (.ref p :: ((.ref q :: xs) ++ [])) H2 Q E) := q_sub (E := E) hx hy l l0 l1 f
theorem q_mulT (hx : QAt C H p k x) (hy : QAt C H q j y) (l : k + j ≤ 8900) (l0 : 0 < k) (l1 : 0 < j) (f : ∀ (r : Addr) (H' : Hp), Same H H' → QAt C H' r (k + j + 1) (qmul x y) → Q (.ref r) H') :
    tNil σ H (fun xs H2 => sp_bin2 C (fun t u t' u' => t * t') (fun t u t' u' => u * u') (.ref p :: ((.ref q :: xs) ++ [])) H2 Q E) := q_mul (E := E) hx hy l l0 l1 f
theorem q_belowT (hx : QAt C H p k x) (hy : QAt C H q j y) (l : k ≤ 9000) (l1 : j ≤ 9000) (f : Q (.bl (ltq x y)) H) :
    tNil σ H (fun xs H2 => sp_below C (.ref p :: ((.ref q :: xs) ++ [.bl false])) H2 Q E) := q_below (E := E) (al := false) hx hy l l1 (by rw [Bool.false_and, Bool.or_false]; exact f)
theorem q_belowA (hx : QAt C H p k x) (hy : QAt C H q j y) (l : k ≤ 9000) (l1 : j ≤ 9000) (f : Q (.bl (ltq x y || eqq x y)) H) :
    tCons (tC (.bl true)) tNil σ H (fun xs H2 => sp_below C (.ref p :: ((.ref q :: xs) ++ [])) H2 Q E) := q_below (E := E) (al := true) hx hy l l1 (by rw [Bool.true_and]; exact f)
end
/-! ### sums keep the order; the midst lies between -/
def qhalf (x y : Q2) : Q2 := qprt (qadd x y) 2
theorem qhalf_eq (x y : Q2) : qhalf x y = (x.1 * y.2 + y.1 * x.2, x.2 * y.2 * 2) := by
  unfold qhalf qprt qadd
  have : sgn 2 = 1 := by decide
  rw [this, Int.mul_one, Int.mul_one]
theorem half_lo {x y : Q2} (hx : 0 < x.2) (hy : 0 < y.2) : ltq x (qhalf x y) = ltq x y ∧ ltq (qhalf x y) y = ltq x y ∧ eqq (qhalf x y) x = eqq x y ∧ eqq x (qhalf x y) = eqq x y := by
  rw [qhalf_eq]
  unfold ltq eqq
  have e1 : x.1 * (x.2 * y.2 * 2) = (2 * (x.1 * y.2)) * x.2 := by grind
  have e2 : (x.1 * y.2 + y.1 * x.2) * x.2 = (x.1 * y.2 + y.1 * x.2) * x.2 := rfl
  have e3 : y.1 * (x.2 * y.2 * 2) = (2 * (y.1 * x.2)) * y.2 := by grind
  refine ⟨decide_eq_decide.mpr ?_, decide_eq_decide.mpr ?_, decide_eq_decide.mpr ?_, decide_eq_decide.mpr ?_⟩
  · show x.1 * (x.2 * y.2 * 2) < (x.1 * y.2 + y.1 * x.2) * x.2 ↔ _
    rw [e1]
    exact ⟨fun h => by have := Int.lt_of_mul_lt_mul_right h (Int.le_of_lt hx); omega, fun h => Int.mul_lt_mul_of_pos_right (by omega) hx⟩
  · show (x.1 * y.2 + y.1 * x.2) * y.2 < y.1 * (x.2 * y.2 * 2) ↔ _
    rw [e3]
    exact ⟨fun h => by have := Int.lt_of_mul_lt_mul_right h (Int.le_of_lt hy); omega, fun h => Int.mul_lt_mul_of_pos_right (by omega) hy⟩
  · show (x.1 * y.2 + y.1 * x.2) * x.2 = x.1 * (x.2 * y.2 * 2) ↔ _
    rw [e1]
    exact ⟨fun h => by have := Int.eq_of_mul_eq_mul_right (by omega) h; omega, fun h => by rw [h]; grind⟩
  · show x.1 * (x.2 * y.2 * 2) = (x.1 * y.2 + y.1 * x.2) * x.2 ↔ _
    rw [e1]
    exact ⟨fun h => by have := Int.eq_of_mul_eq_mul_right (by omega) h; omega, fun h => by rw [h]; grind⟩
/-! ### numbers of at most twelve figures -/
/-! ### constants by their signs -/
/-! ### a comprehension over a text -/
end My
namespace My
open PySem PySem.Spec PyProof.Rows L2
/-! ### comprehensions over anything that is walked -/
section
variable {J : It} {n : Nat} {G : Hp → Prop} {Y : Nat → Hp → V → Hp → Prop} {g : TG} {tt : TT} {te : TE} {vs : List Nat} {σ : L2.St} {H1 : Hp} {D : Addr} {Qd : Hp → Prop}
/-- the elements are known: z some y is told, z none is left out -/
theorem lcz (w : Walk J n G Y) (hGs : ∀ H H', G H → Same H H' → G H') (zs : List (Option V)) (hlen : zs.length = n) (hz : n < sizeLine) (hG : G H1) (hD : H1 D = none)
    (hs : ∀ (i : Nat) (x : V) (H H' : Hp) (z : Option V) (N : VK) (M : Hp → Prop), i < n → zs[i]? = some z → Same H1 H → Y i H x H' → (∀ y H4, z = some y → Same H H4 → N y H4) → (∀ H4, z = none → Same H H4 → M H4) →
      g x (wipe σ vs) H' fun σ2 H2 => wipe σ2 vs = wipe σ vs ∧ tt σ2 H2 fun b H3 => if b = true then te σ2 H3 N else M H3)
    (hd : ∀ H, Same H1 H → H D = some (.lst (zs.filterMap _root_.id)) → Qd H) :
    ∃ W : Nat → Nat → Hp → Prop, (∃ m, W 0 m (upd H1 D (.lst []))) ∧ ∀ i m H, W i m H →
      (J.stop i H ∧ Qd H) ∨ (J.go i H ∧ ∃ Nx : Hp → Prop, (∀ H', Nx H' → ∃ m', m' < m ∧ W (i + 1) m' H') ∧ ∀ x H', J.yld i H x H' → g x (wipe σ vs) H' fun σ2 H2 => wipe σ2 vs = wipe σ vs ∧ tt σ2 H2 fun b H3 =>
        if b = true then te σ2 H3 fun y H4 => ∃ acc, H4 D = some (.lst acc) ∧ acc.length < sizeLine ∧ Nx (upd H4 D (.lst (acc ++ [y]))) else Nx H3) := by
  refine lc_it w (fun i H => Same H1 H ∧ H D = some (.lst ((zs.take i).filterMap _root_.id))) ⟨same1 hD, upd_same⟩ (fun i H _ p => hGs _ _ hG p.1) (fun i x H H' hi p y => ?_) (fun H p => hd H p.1 ?_)
  · have hi2 : i < zs.length := by omega
    have tk : ∀ z, zs[i]? = some z → (zs.take (i + 1)).filterMap _root_.id = (zs.take i).filterMap _root_.id ++ z.toList := fun z e => by
      rw [List.take_add_one, e, List.filterMap_append]
      cases z <;> rfl
    have ez : zs[i]? = some zs[i] := List.getElem?_eq_getElem hi2
    refine hs i x H H' zs[i] _ _ hi ez p.1 y (fun v H4 e s4 => ⟨_, s4 _ _ p.2, ?_, ?_, ?_⟩) (fun H4 e s4 => ⟨p.1.trans s4, ?_⟩)
    · refine Nat.lt_of_le_of_lt (List.length_filterMap_le _ _) ?_
      rw [List.length_take]; omega
    · intro c o ec
      rw [upd_ne (ne_of_none ec hD)]
      exact s4 _ _ (p.1 _ _ ec)
    · rw [upd_same, tk _ ez, e]
      rfl
    · rw [tk _ ez, e, Option.toList_none, List.append_nil]
      exact s4 _ _ p.2
  · have e := p.2
    rw [← hlen, List.take_length] at e
    exact e
/-- the elements are told by what holds of them -/
theorem lcr (w : Walk J n G Y) (hGs : ∀ H H', G H → Same H H' → G H') (R : Nat → Hp → V → Prop) (hR : ∀ i H H' y, R i H y → Nl H H' → R i H' y) (hz : n < sizeLine) (hG : G H1) (hD : H1 D = none)
    (hs : ∀ (i : Nat) (x : V) (H H' : Hp) (N : VK) (M : Hp → Prop), i < n → Same H1 H → Y i H x H' → (∀ y H4, Same H H4 → R i H4 y → N y H4) →
      g x (wipe σ vs) H' fun σ2 H2 => wipe σ2 vs = wipe σ vs ∧ tt σ2 H2 fun b H3 => if b = true then te σ2 H3 N else M H3)
    (hd : ∀ H ys, Same H1 H → H D = some (.lst ys) → ys.length = n → (∀ i y, ys[i]? = some y → R i H y) → Qd H) :
    ∃ W : Nat → Nat → Hp → Prop, (∃ m, W 0 m (upd H1 D (.lst []))) ∧ ∀ i m H, W i m H →
      (J.stop i H ∧ Qd H) ∨ (J.go i H ∧ ∃ Nx : Hp → Prop, (∀ H', Nx H' → ∃ m', m' < m ∧ W (i + 1) m' H') ∧ ∀ x H', J.yld i H x H' → g x (wipe σ vs) H' fun σ2 H2 => wipe σ2 vs = wipe σ vs ∧ tt σ2 H2 fun b H3 =>
        if b = true then te σ2 H3 fun y H4 => ∃ acc, H4 D = some (.lst acc) ∧ acc.length < sizeLine ∧ Nx (upd H4 D (.lst (acc ++ [y]))) else Nx H3) := by
  refine lc_it w (fun i H => Same H1 H ∧ ∃ ys, H D = some (.lst ys) ∧ ys.length = i ∧ ∀ j y, ys[j]? = some y → R j H y) ⟨same1 hD, [], upd_same, rfl, fun j y hy => by simp at hy⟩ (fun i H _ p => hGs _ _ hG p.1) (fun i x H H' hi p y => ?_) (fun H p => ?_)
  · obtain ⟨s1, ys, h1, h2, h3⟩ := p
    refine hs i x H H' _ _ hi s1 y (fun v H4 s4 r4 => ⟨ys, s4 _ _ h1, by omega, ?_, ys ++ [v], upd_same, by rw [List.length_append, h2]; rfl, ?_⟩)
    · intro c o ec
      rw [upd_ne (ne_of_none ec hD)]
      exact s4 _ _ (s1 _ _ ec)
    · intro j z hj
      have n4 : Nl H4 (upd H4 D (.lst (ys ++ [v]))) := Nl.put (s4 _ _ h1)
      by_cases hlt : j < ys.length
      · rw [List.getElem?_append_left hlt] at hj
        exact hR _ _ _ _ (hR _ _ _ _ (h3 j z hj) (Nl.of s4)) n4
      · have hj2 : j = ys.length := by
          have := (List.getElem?_eq_some_iff.mp hj).1
          rw [List.length_append, List.length_singleton] at this
          omega
        subst hj2
        rw [List.getElem?_append_right (Nat.le_refl _), Nat.sub_self] at hj
        cases hj
        rw [h2]
        exact hR _ _ _ _ r4 n4
  · obtain ⟨s1, ys, h1, h2, h3⟩ := p
    exact hd H ys s1 h1 h2 h3
end
/-! ### several Measures -/
/-- the values ps are Measures of the fractions zs -/
structure Mks (C : Addr) (H : Hp) (k : Nat) (ps : List V) (zs : List Q2) : Prop where
  len : ps.length = zs.length
  all : ∀ (i : Nat) (v : V) (z : Q2), ps[i]? = some v → zs[i]? = some z → ∃ p, v = V.ref p ∧ QAt C H p k z
section
variable {C : Addr} {H H' : Hp} {k : Nat} {ps : List V} {zs : List Q2} {v : V}
theorem Mks.same (m : Mks C H k ps zs) (s : Same H H') : Mks C H' k ps zs := ⟨m.len, fun i v z h1 h2 => by
  obtain ⟨p, e, q⟩ := m.all i v z h1 h2
  exact ⟨p, e, q.same s⟩⟩
theorem Mks.kp {hd : Addr} {n : Nat} (m : Mks C H k ps zs) (hh : HandAt H hd n) (s : Kp hd H H') : Mks C H' k ps zs := ⟨m.len, fun i v z h1 h2 => by
  obtain ⟨p, e, q⟩ := m.all i v z h1 h2
  exact ⟨p, e, q.kp hh s⟩⟩
theorem Mks.at (m : Mks C H k ps zs) {i : Nat} {z : Q2} (h : zs[i]? = some z) : ∃ p, ps[i]? = some (.ref p) ∧ QAt C H p k z := by
  have hi : i < ps.length := by rw [m.len]; exact (List.getElem?_eq_some_iff.mp h).1
  obtain ⟨p, e, q⟩ := m.all i _ z (List.getElem?_eq_getElem hi) h
  exact ⟨p, by rw [List.getElem?_eq_getElem hi, e], q⟩
theorem Mks.of (m : Mks C H k ps zs) {i : Nat} {v : V} (h : ps[i]? = some v) : ∃ p z, v = .ref p ∧ zs[i]? = some z ∧ QAt C H p k z := by
  have hi : i < zs.length := by rw [← m.len]; exact (List.getElem?_eq_some_iff.mp h).1
  obtain ⟨p, e, q⟩ := m.all i v _ h (List.getElem?_eq_getElem hi)
  exact ⟨p, _, e, List.getElem?_eq_getElem hi, q⟩
/-- None, or a Measure -/
def QO (C : Addr) (H : Hp) (k : Nat) (v : V) : Option Q2 → Prop
  | none => v = .non
  | some z => ∃ p, v = .ref p ∧ QAt C H p k z
theorem QO.same : ∀ {e : Option Q2}, QO C H k v e → Same H H' → QO C H' k v e
  | none, h, _ => h
  | some _, ⟨p, h1, h2⟩, s => ⟨p, h1, h2.same s⟩
theorem QO.kp {hd : Addr} {n : Nat} : ∀ {e : Option Q2}, QO C H k v e → HandAt H hd n → Kp hd H H' → QO C H' k v e
  | none, h, _, _ => h
  | some _, ⟨p, h1, h2⟩, hh, s => ⟨p, h1, h2.kp hh s⟩
/-- the exact numbers of such a Measure -/
theorem QAt.low {p : Addr} {z : Q2} (q : QAt C H p k z) (l : k ≤ 4000) : ∃ a : Q2, MAt C H p a.1 a.2 ∧ Low a ∧ Re a z := by
  obtain ⟨⟨t, u, m, f⟩, h1, h2, h3⟩ := q
  exact ⟨(t, u), m, ⟨f.pos, f.co, (h2.le f.lt).mono l, (h3.le f.lu).mono l⟩, f.pos, h1, f.eq⟩
theorem QO.low (l : k ≤ 4000) : ∀ {e : Option Q2}, QO C H k v e → ∃ m, MsV C H v m ∧ LowO m ∧ ReO m e
  | none, h => ⟨none, h, trivial, trivial⟩
  | some _, ⟨p, h1, h2⟩ => by
    obtain ⟨a, ma, la, ra⟩ := h2.low l
    exact ⟨some a, ⟨p, h1, ma⟩, la, ra⟩
theorem QAt.of {p : Addr} {a z : Q2} (m : MAt C H p a.1 a.2) (l : Low a) (r : Re a z) (s1 : Sz k z.1) (s2 : Sz k z.2) : QAt C H p k z :=
  ⟨⟨a.1, a.2, m, fr_of l.pos l.co r.2.1 r.2.2⟩, r.2.1, s1, s2⟩
end
/-! ### a Ladder -/
def lf (T : V) (r : Str) (l h : V) : List (Str × V) := [("marks", T), ("rule", .str r), ("least", l), ("most", h)]
theorem lf_put (T : V) (r : Str) (l h : V) : putF "most" h (putF "least" l (putF "rule" (.str r) (putF "marks" T []))) = lf T r l h := by
  have e1 : putF ("rule" : Str) (.str r) (putF ("marks" : Str) T []) = ([("marks", T), ("rule", .str r)] : List (Str × V)) := by
    show (if ("marks" : Str) = "rule" then [(("marks" : Str), V.str r)] else (("marks" : Str), T) :: putF "rule" (.str r) []) = _
    rw [if_neg (by decide +kernel)] <;> rfl
  have e2 : putF ("least" : Str) l [("marks", T), ("rule", .str r)] = ([("marks", T), ("rule", .str r), ("least", l)] : List (Str × V)) := by
    show (if ("marks" : Str) = "least" then _ else (("marks" : Str), T) :: (if ("rule" : Str) = "least" then _ else (("rule" : Str), V.str r) :: putF "least" l [])) = _
    rw [if_neg (by decide +kernel), if_neg (by decide +kernel)] <;> rfl
  have e3 : putF ("most" : Str) h [("marks", T), ("rule", .str r), ("least", l)] = lf T r l h := by
    show (if ("marks" : Str) = "most" then _ else (("marks" : Str), T) :: (if ("rule" : Str) = "most" then _ else (("rule" : Str), V.str r) :: (if ("least" : Str) = "most" then _ else (("least" : Str), l) :: putF "most" h []))) = _
    rw [if_neg (by decide +kernel), if_neg (by decide +kernel), if_neg (by decide +kernel)] <;> rfl
  rw [e1, e2, e3]
section
variable (T : V) (r : Str) (l h : V)
theorem lf_marks : (lf T r l h).lookup ("marks" : Str) = some T := by
  rw [← lf_put, lookup_putF, if_neg (by decide +kernel), lookup_putF, if_neg (by decide +kernel), lookup_putF, if_neg (by decide +kernel), lookup_putF, if_pos rfl]
theorem lf_rule : (lf T r l h).lookup ("rule" : Str) = some (.str r) := by
  rw [← lf_put, lookup_putF, if_neg (by decide +kernel), lookup_putF, if_neg (by decide +kernel), lookup_putF, if_pos rfl]
theorem lf_least : (lf T r l h).lookup ("least" : Str) = some l := by
  rw [← lf_put, lookup_putF, if_neg (by decide +kernel), lookup_putF, if_pos rfl]
theorem lf_most : (lf T r l h).lookup ("most" : Str) = some h := by
  rw [← lf_put, lookup_putF, if_pos rfl]
theorem lf_no {m : Str} (h1 : ¬ m = "marks") (h2 : ¬ m = "rule") (h3 : ¬ m = "least") (h4 : ¬ m = "most") : (lf T r l h).lookup m = none := by
  rw [← lf_put, lookup_putF, if_neg h4, lookup_putF, if_neg h3, lookup_putF, if_neg h2, lookup_putF, if_neg h1] <;> rfl
end
/-- rows that rise -/
def RiseQ (zs : List Q2) : Prop := ∀ i a b, zs[i]? = some a → zs[i + 1]? = some b → ltq a b = true
/-- the first row that isn't above the one ahead -/
def SlipQ (zs : List Q2) : Option Nat → Prop
  | none => RiseQ zs
  | some n => 1 ≤ n ∧ n < zs.length ∧ (∀ a b, zs[n - 1]? = some a → zs[n]? = some b → ltq a b = false) ∧ ∀ i a b, i + 1 < n → zs[i]? = some a → zs[i + 1]? = some b → ltq a b = true
def optI : Option Nat → V
  | none => .non
  | some n => .int (n : Int)
def leq (a b : Q2) : Bool := ltq a b || eqq a b
/-- least isn't above most -/
def spanB : Option Q2 → Option Q2 → Bool
  | some a, some b => !ltq b a
  | _, _ => true
def IsRule (r : Str) : Prop := r = "up" ∨ r = "down" ∨ r = "near"
structure LadAt (K : PySem.W.Frag) (CM CL : Addr) (H : Hp) (p : Addr) (k : Nat) (zs : List Q2) (r : Str) (lo hi : Option Q2) : Prop where
  ob : ∃ dx T ps l h, H p = some (.ins CL dx (lf (.ref T) r l h)) ∧ SqT K H T ps ∧ Mks CM H k ps zs ∧ QO CM H k l lo ∧ QO CM H k h hi
  len0 : 0 < zs.length
  len1 : zs.length ≤ 24
  rise : RiseQ zs
  rule : IsRule r
  span : spanB lo hi = true
theorem LadAt.same {K : PySem.W.Frag} {CM CL p : Addr} {H H' : Hp} {k : Nat} {zs : List Q2} {r : Str} {lo hi : Option Q2} (a : LadAt K CM CL H p k zs r lo hi) (s : Same H H') : LadAt K CM CL H' p k zs r lo hi := by
  obtain ⟨⟨dx, T, ps, l, h, h1, h2, h3, h4, h5⟩, a1, a2, a3, a4, a5⟩ := a
  exact ⟨⟨dx, T, ps, l, h, s _ _ h1, s.sqt h2, h3.same s, h4.same s, h5.same s⟩, a1, a2, a3, a4, a5⟩
theorem LadAt.raw {K : PySem.W.Frag} {CM CL p : Addr} {H : Hp} {k : Nat} {zs : List Q2} {r : Str} {lo hi : Option Q2} (a : LadAt K CM CL H p k zs r lo hi) {m : Str} (h1 : ¬ m = "marks") (h2 : ¬ m = "rule") (h3 : ¬ m = "least") (h4 : ¬ m = "most") : ∃ dx fs, H p = some (.ins CL dx fs) ∧ fs.lookup m = none := by
  obtain ⟨⟨dx, T, ps, l, h, e1, _⟩, _⟩ := a
  exact ⟨dx, _, e1, lf_no _ _ _ _ h1 h2 h3 h4⟩
/-- the midsts of neighbours -/
def midq : List Q2 → List Q2
  | a :: b :: r => qhalf a b :: midq (b :: r)
  | _ => []
def sizeR (zs : List Q2) (r : Str) (x : Q2) : Int :=
  if r = "up" then (zs.countP (fun a => ltq a x) : Nat) else if r = "down" then (zs.countP (fun a => leq a x) : Nat) - 1 else ((midq zs).countP (fun a => leq a x) : Nat)
def loOk : Option Q2 → Q2 → Bool
  | none, _ => true
  | some a, x => !ltq x a
def hiOk : Option Q2 → Q2 → Bool
  | none, _ => true
  | some b, x => !ltq b x
def inO (lo hi : Option Q2) (x : Q2) : Bool := loOk lo x && hiOk hi x
def sizeQ (zs : List Q2) (r : Str) (lo hi : Option Q2) (x : Q2) : Option Nat :=
  if inO lo hi x = true then (if 0 ≤ sizeR zs r x ∧ sizeR zs r x < zs.length then some (sizeR zs r x).toNat else none) else none
theorem midq_len : ∀ zs : List Q2, (midq zs).length = zs.length - 1
  | [] => rfl
  | [_] => rfl
  | a :: b :: r => by
    show (midq (b :: r)).length + 1 = _
    rw [midq_len (b :: r)]
    simp
theorem midq_get : ∀ (zs : List Q2) (i : Nat) (a b : Q2), zs[i]? = some a → zs[i + 1]? = some b → (midq zs)[i]? = some (qhalf a b)
  | [], i, a, b, h, _ => by simp at h
  | [x], i, a, b, _, h => by simp at h
  | x :: y :: r, 0, a, b, h1, h2 => by
    cases h1; cases h2; rfl
  | x :: y :: r, i + 1, a, b, h1, h2 => by
    have := midq_get (y :: r) i a b (by simpa using h1) (by simpa using h2)
    simpa [midq] using this
theorem atI_of {xs : List V} {z : Int} {n : Nat} {v : V} (e : z = (n : Int)) (h : xs[n]? = some v) : atI xs z = some v := by
  rw [e]; exact atI_nat h
theorem ge2 {n : Nat} {zs : List Q2} (h : n < zs.length) : ∃ a, zs[n]? = some a := ⟨_, List.getElem?_eq_getElem h⟩
/-- a constant of the module: a tuple of texts -/
def strsOf : List Value → Option (List Str)
  | [] => some []
  | .str x _ :: r => (strsOf r).map (x :: ·)
  | _ => none
theorem strsOf_ok : ∀ {l : List Value} {ss : List Str}, strsOf l = some ss → Vals (ss.map V.str) l
  | [], ss, h => by cases h; exact .nil
  | .str x t :: r, ss, h => by
    cases e : strsOf r with
    | none => simp [strsOf, e] at h
    | some l =>
      simp [strsOf, e] at h
      subst h
      exact .cons ⟨t, rfl⟩ (strsOf_ok e)
def tupB (x : Str) (ss : List Str) : PySem.W.Frag → Bool := fun K => match K.lookup (He.ga K x) with
  | some ⟨.type "tuple", _, .seq its _, _⟩ => decide (its.size ≤ sizeLine) && decide (strsOf its.toList = some ss)
  | _ => false
theorem tup_ok {x : Str} {ss : List Str} {K : PySem.W.Frag} (c : tupB x ss K = true) : ∀ H, SqT K H (He.ga K x) (ss.map V.str) := by
  intro H
  unfold tupB at c
  split at c
  · rename_i d its n sl e
    obtain ⟨c1, c2⟩ := He.ba c
    exact .inr ⟨_, its, n, e, rfl, rfl, of_decide_eq_true c1, strsOf_ok (of_decide_eq_true c2)⟩
  · cases c
theorem tyTup {K : PySem.W.Frag} {H : Hp} {T : Addr} {ps : List V} (h : SqT K H T ps) : TyX K H (.ref T) (.type "tuple") := by
  rcases h with (h | ⟨o, h⟩) | ⟨o, its, n, h, c, _⟩
  · exact .base (.tup h)
  · exact .fTuple h
  · exact .kTuple h c
/-! ### what the defs of ladders promise -/
def sp_slip (K : PySem.W.Frag) (CM : Addr) : Sp := fun vs H Q _ => ∃ (T : Addr) (k : Nat) (ps : List V) (zs : List Q2), vs = [.ref T] ∧ SqT K H T ps ∧ Mks CM H k ps zs ∧ k ≤ 9000 ∧ zs.length ≤ 1000 ∧ ∀ o, SlipQ zs o → Q (optI o) H
def sp_isendQ (CM : Addr) : Sp := fun vs H Q _ => ∃ (v : V) (k : Nat) (e : Option Q2), vs = [v] ∧ QO CM H k v e ∧ Q (.bl true) H
def sp_arem (K : PySem.W.Frag) (CM : Addr) : Sp := fun vs H Q _ => ∃ (T : Addr) (k : Nat) (ps : List V) (zs : List Q2), vs = [.ref T] ∧ SqT K H T ps ∧ Mks CM H k ps zs ∧ 0 < zs.length ∧ zs.length ≤ 24 ∧ ∀ H', Same H H' → Q (.bl true) H'
def sp_isrule : Sp := fun vs H Q _ => ∃ r : Str, vs = [.str r] ∧ IsRule r ∧ Q (.bl true) H
def sp_linit (K : PySem.W.Frag) (CM CL : Addr) : Sp := fun vs H Q _ => ∃ (p dx T : Addr) (k : Nat) (ps : List V) (zs : List Q2) (r : Str) (l h : V) (lo hi : Option Q2), vs = [.ref p, .ref T, .str r, l, h] ∧ H p = some (.ins CL dx []) ∧ SqT K H T ps ∧ Mks CM H k ps zs ∧ k ≤ 4000 ∧ 0 < zs.length ∧ zs.length ≤ 24 ∧ RiseQ zs ∧ IsRule r ∧
  QO CM H k l lo ∧ QO CM H k h hi ∧ spanB lo hi = true ∧ ∀ H', H' p = some (.ins CL dx (lf (.ref T) r l h)) → (∀ q o, H q = some o → q ≠ p → H' q = some o) → Q .non H'
/-- a Ladder is made -/
theorem lad_made {K : PySem.W.Frag} {CM CL T : Addr} {H : Hp} {Qa : Addr → Hp → Prop} {E : XK} {k : Nat} {ps : List V} {zs : List Q2} {r : Str} {l h : V} {lo hi : Option Q2} (hT : SqT K H T ps) (hm : Mks CM H k ps zs) (hk : k ≤ 4000) (l0 : 0 < zs.length) (l1 : zs.length ≤ 24) (ri : RiseQ zs) (ru : IsRule r)
    (q1 : QO CM H k l lo) (q2 : QO CM H k h hi) (sp : spanB lo hi = true) (f : ∀ (p : Addr) (H' : Hp), H p = none → Same H H' → LadAt K CM CL H' p k zs r lo hi → (∃ dx, H' p = some (.ins CL dx (lf (.ref T) r l h))) → Qa p H') :
    ∀ x dx, H x = none → H dx = none → dx ≠ x → sp_linit K CM CL [.ref x, .ref T, .str r, l, h] (upd (upd H dx (.own x)) x (.ins CL dx [])) (fun v H2 => v = .non ∧ Qa x H2) E := by
  intro x dx nx nd ne
  have s0 : Same H (upd (upd H dx (.own x)) x (.ins CL dx [])) := fun c o e => by
    rw [upd_ne (ne_of_none e nx)]
    exact up1 nd e
  refine ⟨x, dx, T, k, ps, zs, r, l, h, lo, hi, rfl, upd_same, s0.sqt hT, hm.same s0, hk, l0, l1, ri, ru, q1.same s0, q2.same s0, sp, fun H' hx kp => ⟨rfl, ?_⟩⟩
  have s1 : Same H H' := made_same nx nd kp
  exact f x H' nx s1 ⟨⟨dx, T, ps, l, h, hx, s1.sqt hT, hm.same s1, q1.same s1, q2.same s1⟩, l0, l1, ri, ru, sp⟩ ⟨dx, hx⟩
theorem iteDT {c A B : Prop} [Decidable c] (hc : c) (h : A) : if decide c = true then A else B := by
  rw [if_pos (decide_eq_true hc)]; exact h
theorem iteDF {c A B : Prop} [Decidable c] (hc : ¬ c) (h : B) : if decide c = true then A else B := by
  rw [if_neg (by simpa using hc)]; exact h
theorem iteNT {c A B : Prop} [Decidable c] (hc : ¬ c) (h : A) : if (!decide c) = true then A else B := by
  rw [if_pos (by simpa using hc)]; exact h
section
variable {C H p k} {m : Str} {R : Prop}
theorem meth_q {x : Q2} (q : QAt C H p k x) (h1 : ¬ m = "top") (h2 : ¬ m = "bottom") (h : R) : ∃ a dx fs, V.ref p = .ref a ∧ H a = some (.ins C dx fs) ∧ fs.lookup m = none ∧ R := by
  obtain ⟨dx, fs, e1, e2⟩ := q.raw h1 h2
  exact ⟨p, dx, fs, rfl, e1, e2, h⟩
theorem meth_l {K : PySem.W.Frag} {CM : Addr} {zs : List Q2} {r : Str} {lo hi : Option Q2} (q : LadAt K CM C H p k zs r lo hi) (h1 : ¬ m = "marks") (h2 : ¬ m = "rule") (h3 : ¬ m = "least") (h4 : ¬ m = "most") (h : R) : ∃ a dx fs, V.ref p = .ref a ∧ H a = some (.ins C dx fs) ∧ fs.lookup m = none ∧ R := by
  obtain ⟨dx, fs, e1, e2⟩ := q.raw h1 h2 h3 h4
  exact ⟨p, dx, fs, rfl, e1, e2, h⟩
theorem meth_s {CM : Addr} {lo hi : Option Q2} {li hj : Bool} (q : StAt CM C H p lo hi li hj) (h1 : ¬ m = "low") (h2 : ¬ m = "high") (h3 : ¬ m = "low_in") (h4 : ¬ m = "high_in") (h : R) : ∃ a dx fs, V.ref p = .ref a ∧ H a = some (.ins C dx fs) ∧ fs.lookup m = none ∧ R := by
  obtain ⟨dx, fs, e1, e2⟩ := q.raw h1 h2 h3 h4
  exact ⟨p, dx, fs, rfl, e1, e2, h⟩
end
end My
namespace My
open PySem PySem.Spec PyProof.Rows L2
/-! ### enumerate of a tuple -/
section
variable {X : Cx}
/-! ### len of an own object -/
theorem call_lenO {CX : CXT} {n : Nat} {C f : Addr} {fd : FuncData} {ps : List Str} {sp : Sp} {E : XK} (F : FnOk X.prog X.w X.K X.mg X.base CX n f fd ps sp) (hm : Meth X.K C "__len__" f) (hb : Binds X.K fd ps []) (hx : Passes CX X E) (hr : Room (n + 1) X.A) :
    CallR X (.builtin "len") (fun xs H Q => ∃ x a dx fs, xs = [x] ∧ x = .ref a ∧ H a = some (.ins C dx fs) ∧ sp [.ref a] H (fun v H' => ∃ k : Nat, v = .int (k : Int) ∧ k < 1000 ∧ Q (.int (k : Int)) H') E) := by
  intro pins s σ H xs us Q I r h
  obtain ⟨x, a, dx, fs, rfl, rfl, ha, h⟩ := h
  obtain ⟨u, rfl, r1⟩ := vals1 r
  cases (show u = Value.ref a from r1)
  obtain ⟨mA, J, _⟩ := ins_get I.hok ha
  obtain ⟨od, J, _⟩ := J.look
  obtain ⟨m, hF⟩ := I.fr
  have sb : Sub X (n + 1) X.A := ⟨hr, rfl⟩
  refine PySem.W.len_K hF I.ok.mod.kin J hm.at_ hm.fn ?_
  refine thn (fn_at F hb hx sb.in1 I (vs := [.ref a]) (.cons rfl .nil) h) fun u s' q => ?_
  obtain ⟨v, H', I', rv, k, rfl, hk, q⟩ := q
  obtain ⟨t, rfl⟩ := rv
  exact ⟨⟨by omega, by omega⟩, .int (k : Int), H', I'.tok _, ⟨_, rfl⟩, q⟩
end
/-! ### max and min with a default -/
section
variable {X : Cx} {K : PySem.W.Frag}
/-! ### xs[::k] -/
def rTupL (K : PySem.W.Frag) : List V → Hp → VK → Prop := fun xs H Q => ∃ (p : Addr) (ys : List V), xs = [.ref p] ∧ SqL K H p ys ∧ ∀ l, H l = none → Q (.ref l) (upd H l (.tup ys))
theorem tupleL (hK : X.K = K := by rfl) : CallR X (.type "tuple") (rTupL K) := by
  subst hK
  intro pins s σ H xs us Q I r h
  obtain ⟨p, ys, e, h1, h2⟩ := h
  exact call_tuple_of pins s σ H xs us Q I r ⟨p, ys, e, .inl ⟨h1, h2⟩⟩
end
theorem logS {m : Int} (h : m.natAbs < 2 ^ 60) : m.natAbs.log2 < 9000 := Nat.lt_of_lt_of_le (PySem.Flt.log2_lt_of (by decide) h) (by decide)
theorem szl {n : Nat} (h : n ≤ 1000) : n ≤ sizeLine := Nat.le_trans h (by decide)
theorem szb {n : Nat} (h : Nat.ble n 1000 = true) : n ≤ sizeLine := szl (Nat.le_of_ble_eq_true h)
theorem szs {n : Nat} (h : n < 1000) : n < sizeLine := Nat.lt_of_lt_of_le h (by decide)
theorem atI_end {xs : List V} {n : Nat} {v : V} (hn : n + 1 = xs.length) (h : xs[n]? = some v) : atI xs (-1) = some v := by
  have e : ixN xs.length (-1) = some n := by
    unfold ixN
    rw [if_neg (by decide), if_pos (by omega)]
    exact congrArg some (by omega)
  unfold atI
  rw [e]
  exact h
theorem qmk_pos {a b : Int} (h : 0 < b) : qmk a b = (a, b) := by
  have e : sgn b = 1 := by unfold sgn; rw [if_pos h]
  unfold qmk
  rw [e, Int.mul_one, Int.mul_one]
/-- a Measure is made -/
theorem q_made {C : Addr} {H : Hp} {Qa : Addr → Hp → Prop} {E : XK} {k : Nat} {a b : Int} (hb : 0 < b) (sa : Sz k a) (sb : Sz k b) (k0 : 0 < k) (k1 : k ≤ 8900) (f : ∀ (p : Addr) (H' : Hp), Same H H' → QAt C H' p k (a, b) → Qa p H') :
    ∀ x dx, H x = none → H dx = none → dx ≠ x → sp_minit C [.ref x, .int a, .int b] (upd (upd H dx (.own x)) x (.ins C dx [])) (fun v H2 => v = .non ∧ Qa x H2) E := by
  intro x dx nx nd ne
  refine ⟨x, dx, a, b, rfl, upd_same, by omega, Sz.log sb k0 (by omega), fun t u H' fr hx kp => ⟨rfl, ?_⟩⟩
  have q := q_mk (k := k) ⟨dx, hx⟩ fr (by omega) sa sb
  rw [qmk_pos hb] at q
  exact f x H' (made_same nx nd kp) q
/-! ### draws -/
/-- one of a list -/
def sp_of (K : PySem.W.Frag) : Sp := fun vs H Q _ => ∃ (h l : Addr) (n : Nat) (xs : List V), vs = [.ref h, .ref l] ∧ HandAt H h n ∧ n < 100000 ∧ SqL K H l xs ∧ l ≠ h ∧ 0 < xs.length ∧ xs.length ≤ 1000 ∧
  ∀ (i : Nat) (x : V) (H' : Hp), xs[i]? = some x → HandAt H' h (n + 1) → Kp h H H' → Q x H'
end My
namespace My
open PySem PySem.Spec PyProof.Rows L2
theorem HandAt.put {H : Hp} {h l : Addr} {u : HO} {n : Nat} (a : HandAt H h n) (ne : l ≠ h) : HandAt (upd H l u) h n := by
  obtain ⟨x, y, z, h1, h2⟩ := a
  exact ⟨x, y, z, by rw [upd_ne ne.symm]; exact h1, h2⟩
theorem Kp.fresh {h l : Addr} {H H1 : Hp} (k : Kp h H H1) (hn : H1 l = none) (ne : l ≠ h) : H l = none := by
  cases e : H l with
  | none => rfl
  | some o => rw [k l o e ne] at hn; cases hn
theorem Kp.putN {h l : Addr} {H H1 : Hp} {u : HO} (k : Kp h H H1) (hn : H l = none) : Kp h H (upd H1 l u) := fun c o e n => by
  rw [upd_ne (ne_of_none e hn)]; exact k c o e n
theorem geI {n : Nat} {zs : List Int} (h : n < zs.length) : ∃ a, zs[n]? = some a := ⟨_, List.getElem?_eq_getElem h⟩
theorem mapI {ms : List Int} {n : Nat} {a : Int} (h : ms[n]? = some a) : (ms.map V.int)[n]? = some (.int a) := by rw [List.getElem?_map, h]; rfl
def optZ : Option Int → V
  | none => .non
  | some z => .int z
/-- a ladder in whole parts, as the laws draw it -/
structure LawL (H : Hp) (p : Addr) (part : Int) (ms : List Int) (r : Str) (lo hi : Option Int) : Prop where
  ob : ∃ T, H p = some (.tup [.int part, .ref T, .str r, optZ lo, optZ hi]) ∧ H T = some (.tup (ms.map V.int))
  p0 : 0 < part
  p1 : part ≤ 10007
  len0 : 0 < ms.length
  len1 : ms.length ≤ 24
  rise : ∀ (i : Nat) (a b : Int), ms[i]? = some a → ms[i + 1]? = some b → a < b
  four : ∀ m ∈ ms, m % 4 = 0
  bnd : ∀ m ∈ ms, -4000000 ≤ m ∧ m ≤ 4000000
  blo : ∀ z, lo = some z → -4000040 ≤ z ∧ z ≤ 4000040
  bhi : ∀ z, hi = some z → -4000040 ≤ z ∧ z ≤ 4000040
  rule : IsRule r
  span : ∀ a b, lo = some a → hi = some b → a ≤ b
section
variable {H H' : Hp} {p : Addr} {part : Int} {ms : List Int} {r : Str} {lo hi : Option Int}
theorem LawL.same (a : LawL H p part ms r lo hi) (s : Same H H') : LawL H' p part ms r lo hi := by
  obtain ⟨⟨T, h1, h2⟩, a1⟩ := a
  exact ⟨⟨T, s _ _ h1, s _ _ h2⟩, by assumption, by assumption, by assumption, by assumption, by assumption, by assumption, by assumption, by assumption, by assumption, by assumption, by assumption⟩
/-- the parts as fractions -/
def zq (d : Int) (ms : List Int) : List Q2 := ms.map fun m => (m, d)
def oq (d : Int) (o : Option Int) : Option Q2 := o.map fun m => (m, d)
theorem zq_len (d : Int) (ms : List Int) : (zq d ms).length = ms.length := List.length_map ..
theorem zq_get {d : Int} {ms : List Int} {i : Nat} {z : Q2} (h : (zq d ms)[i]? = some z) : ∃ m, ms[i]? = some m ∧ z = (m, d) := by
  unfold zq at h
  rw [List.getElem?_map] at h
  cases e : ms[i]? with
  | none => rw [e] at h; cases h
  | some m => rw [e] at h; exact ⟨m, rfl, (Option.some.inj h).symm⟩
theorem ltq_d {d a b : Int} (h : 0 < d) : ltq (a, d) (b, d) = decide (a < b) := by
  unfold ltq
  refine decide_eq_decide.mpr ⟨fun z => Int.lt_of_mul_lt_mul_right z (Int.le_of_lt h), fun z => Int.mul_lt_mul_of_pos_right z h⟩
theorem LawL.riseQ (a : LawL H p part ms r lo hi) : RiseQ (zq (4 * part) ms) := by
  intro i x y hx hy
  obtain ⟨m, hm, rfl⟩ := zq_get hx
  obtain ⟨m', hm', rfl⟩ := zq_get hy
  have := a.p0
  rw [ltq_d (by omega)]
  exact decide_eq_true (a.rise i m m' hm hm')
theorem LawL.spanQ (a : LawL H p part ms r lo hi) : spanB (oq (4 * part) lo) (oq (4 * part) hi) = true := by
  cases lo with
  | none => cases hi <;> rfl
  | some x =>
    cases hi with
    | none => rfl
    | some y =>
      have := a.p0
      have h := a.span x y rfl rfl
      show (!ltq (y, 4 * part) (x, 4 * part)) = true
      rw [ltq_d (by omega), decide_eq_false (by omega)]
      rfl
end
theorem rise_snoc {ms : List Int} {x : Int} (h : ∀ (i : Nat) (a b : Int), ms[i]? = some a → ms[i + 1]? = some b → a < b) (hx : ∀ m ∈ ms, m < x) : ∀ (i : Nat) (a b : Int), (ms ++ [x])[i]? = some a → (ms ++ [x])[i + 1]? = some b → a < b := by
  intro i a b ha hb
  have l1 := (List.getElem?_eq_some_iff.mp hb).1
  rw [List.length_append, List.length_singleton] at l1
  rw [List.getElem?_append_left (by omega)] at ha
  by_cases hi : i + 1 < ms.length
  · rw [List.getElem?_append_left hi] at hb
    exact h i a b ha hb
  · have e : i + 1 = ms.length := by omega
    rw [e, List.getElem?_append_right (Nat.le_refl _), Nat.sub_self] at hb
    have eb : x = b := by simpa using hb
    rw [← eb]
    exact hx a (List.mem_of_getElem? ha)
theorem map_snoc (ms : List Int) (x : Int) : ms.map V.int ++ [V.int x] = (ms ++ [x]).map V.int := by simp
/-- whole numbers within a bound -/
def IntsB (B : Int) (xs : List V) : Prop := ∀ x ∈ xs, ∃ z : Int, x = .int z ∧ -B ≤ z ∧ z ≤ B
theorem IntsB.mono {B B' : Int} {xs : List V} (a : IntsB B xs) (l : B ≤ B') : IntsB B' xs := fun x h => by
  obtain ⟨z, e, h1, h2⟩ := a x h
  exact ⟨z, e, by omega, by omega⟩
theorem IntsB.ints {B : Int} : ∀ {xs : List V}, IntsB B xs → ∃ ys : List Int, xs = ys.map V.int ∧ ∀ y ∈ ys, -B ≤ y ∧ y ≤ B
  | [], _ => ⟨[], rfl, fun y h => by simp at h⟩
  | x :: xs, a => by
    obtain ⟨z, rfl, h1⟩ := a x (by simp)
    obtain ⟨ys, e, h2⟩ := IntsB.ints (xs := xs) fun w hw => a w (by simp [hw])
    refine ⟨z :: ys, by rw [e]; rfl, fun y hy => ?_⟩
    rcases List.mem_cons.mp hy with e | e
    · rw [e]; exact h1
    · exact h2 y e
theorem IntsB.of {B : Int} {ms : List Int} (h : ∀ m ∈ ms, -B ≤ m ∧ m ≤ B) : IntsB B (ms.map V.int) := fun x hx => by
  obtain ⟨m, hm, rfl⟩ := List.mem_map.mp hx
  exact ⟨m, rfl, h m hm⟩
/-! ### sizes by whole numbers -/
abbrev RiseI (ms : List Int) : Prop := ∀ (i : Nat) (a b : Int), ms[i]? = some a → ms[i + 1]? = some b → a < b
theorem RiseI.tail {x : Int} {ms : List Int} (h : RiseI (x :: ms)) : RiseI ms := fun i a b h1 h2 => h (i + 1) a b (by simpa using h1) (by simpa using h2)
theorem RiseI.head : ∀ {ms : List Int} {x : Int}, RiseI (x :: ms) → ∀ m ∈ ms, x < m
  | [], _, _, m, hm => by simp at hm
  | y :: ms, x, h, m, hm => by
    have h0 : x < y := h 0 x y rfl rfl
    rcases List.mem_cons.mp hm with e | e
    · rw [e]; exact h0
    · have := RiseI.head h.tail m e
      omega
theorem RiseI.lt {ms : List Int} (h : RiseI ms) : ∀ {j : Nat} {i : Nat} {a b : Int}, i < j → ms[i]? = some a → ms[j]? = some b → a < b
  | 0, _, _, _, hi, _, _ => by omega
  | j + 1, i, a, b, hi, ha, hb => by
    obtain ⟨c, hc⟩ := geI (zs := ms) (n := j) (by have := (List.getElem?_eq_some_iff.mp hb).1; omega)
    have h1 := h j c b hc hb
    by_cases e : i = j
    · subst e
      rw [ha] at hc
      cases hc
      exact h1
    · have := RiseI.lt h (show i < j by omega) ha hc
      omega
section
variable {ms : List Int} {d z : Int} {lo hi : Option Q2}
end
theorem rep_fm (n : Nat) : (List.replicate n (some (V.bl true))).filterMap _root_.id = (List.replicate n true).map V.bl := by
  induction n with
  | zero => rfl
  | succ n ih => rw [List.replicate_succ, List.replicate_succ]; simpa using ih
theorem rep_all (n : Nat) : (List.replicate n true).all _root_.id = true := by
  induction n with
  | zero => rfl
  | succ n ih => rw [List.replicate_succ]; simpa using ih
/-! ### what the laws' own defs promise -/
def sp_lmeas (CM : Addr) : Sp := fun vs H Q _ => ∃ (part z : Int), vs = [.int part, .int z] ∧ 0 < part ∧ part ≤ 10007 ∧ Sz 40 z ∧
  ∀ (q : Addr) (H' : Hp), Same H H' → QAt CM H' q 40 (z, 4 * part) → Q (.ref q) H'
def sp_lend (CM : Addr) : Sp := fun vs H Q _ => ∃ (part : Int) (o : Option Int), vs = [.int part, optZ o] ∧ 0 < part ∧ part ≤ 10007 ∧ (∀ z, o = some z → Sz 40 z) ∧
  ∀ (v : V) (H' : Hp), Same H H' → QO CM H' 40 v (oq (4 * part) o) → Q v H'
end My
namespace My
open PySem PySem.Spec PyProof.Rows L2
/-! ### the stretches of a ladder's sizes -/
section
variable {X : Cx} {K : PySem.W.Frag}
/-- an item of a list or a tuple -/
def rIxLT (K : PySem.W.Frag) : R2 := fun x y H Q => ∃ (p : Addr) (xs : List V) (i : Int) (v : V), x = .ref p ∧ y = .int i ∧ (SqL K H p xs ∨ SqT K H p xs) ∧ atI xs i = some v ∧ Q v H
theorem ixs (hK : X.K = K := by rfl) : IxR X (rIxLT K) := by
  subst hK
  intro value slice pins s σ H x y v u Q I rx ry h hs
  obtain ⟨p, xs, i, w, e1, e2, hq | hq, h3, h4⟩ := h
  · exact ix_list value slice pins s σ H x y v u Q I rx ry ⟨p, xs, i, w, e1, e2, hq, h3, h4⟩ hs
  · exact ix_tup value slice pins s σ H x y v u Q I rx ry ⟨p, xs, i, w, e1, e2, hq, h3, h4⟩ hs
end
def endQ (zs : List Q2) (i : Int) : Option Q2 := if 0 ≤ i ∧ i < zs.length then zs[i.toNat]? else none
/-- both ends of a size by the rule alone, and whether they are in -/
def rulE (zs : List Q2) (r : Str) (n : Nat) : (Option Q2 × Bool) × (Option Q2 × Bool) :=
  if r = "up" then ((endQ zs ((n : Int) - 1), false), (zs[n]?, true)) else if r = "down" then ((zs[n]?, true), (endQ zs ((n : Int) + 1), false)) else ((endQ (midq zs) ((n : Int) - 1), true), (endQ (midq zs) n, false))
/-- a Stretch whose ends are these fractions -/
def StQ (CM CS : Addr) (H : Hp) (p : Addr) (x y : Option Q2 × Bool) : Prop := ∃ lo hi, StAt CM CS H p lo hi (x.2 && x.1.isSome) (y.2 && y.1.isSome) ∧ ReO lo x.1 ∧ ReO hi y.1
theorem StQ.same {CM CS p : Addr} {H H' : Hp} {x y : Option Q2 × Bool} (a : StQ CM CS H p x y) (s : Same H H') : StQ CM CS H' p x y := by
  obtain ⟨lo, hi, h1, h2, h3⟩ := a
  exact ⟨lo, hi, h1.same s, h2, h3⟩
def CutQ (CM CS : Addr) (H : Hp) (v : V) (x y : Option Q2 × Bool) : Prop := ∃ x' y', CutV CM CS H v x' y' ∧ Alike x' x ∧ Alike y' y
theorem CutQ.same {CM CS : Addr} {H H' : Hp} {v : V} {x y : Option Q2 × Bool} (a : CutQ CM CS H v x y) (s : Same H H') : CutQ CM CS H' v x y := by
  obtain ⟨x', y', h1, h2, h3⟩ := a
  exact ⟨x', y', h1.same s, h2, h3⟩
/-- both ends of a size's stretch -/
def sizE (zs : List Q2) (r : Str) (lo hi : Option Q2) (n : Nat) : (Option Q2 × Bool) × (Option Q2 × Bool) :=
  (cutLo (rulE zs r n).1.1 (rulE zs r n).1.2 lo true, cutHi (rulE zs r n).2.1 (rulE zs r n).2.2 hi true)
def sp_llen (K : PySem.W.Frag) (CM CL : Addr) : Sp := fun vs H Q _ => ∃ (p : Addr) (k : Nat) (zs : List Q2) (r : Str) (lo hi : Option Q2), vs = [.ref p] ∧ LadAt K CM CL H p k zs r lo hi ∧ Q (.int (zs.length : Nat)) H
/-! between neighbours there is something -/
theorem some_lt {a b : Q2} {i j : Bool} (h : ltq a b = true) : someB (some a) (some b) i j = true := by
  unfold someB
  first
    | (rw [h]; rfl)
    | (simp [h])
theorem mids_lt {a b c : Q2} (ha : 0 < a.2) (hb : 0 < b.2) (hc : 0 < c.2) (h1 : ltq a b = true) (h2 : ltq b c = true) : ltq (qhalf a b) (qhalf b c) = true := by
  have e1 := (half_lo ha hb).2.1
  have e2 := (half_lo hb hc).1
  rw [h1] at e1
  rw [h2] at e2
  have p1 : 0 < (qhalf a b).2 := by rw [qhalf_eq]; exact Int.mul_pos (Int.mul_pos ha hb) (by decide)
  have p2 : 0 < (qhalf b c).2 := by rw [qhalf_eq]; exact Int.mul_pos (Int.mul_pos hb hc) (by decide)
  exact ltq_trans hb p1 p2 e1 e2
/-- the fractions' bottoms are above nought -/
def PosL (zs : List Q2) : Prop := ∀ z ∈ zs, 0 < z.2
theorem endQ_in {zs : List Q2} {i : Int} {n : Nat} (e : i = (n : Int)) : endQ zs i = zs[n]? := by
  subst e
  unfold endQ
  by_cases h : n < zs.length
  · rw [if_pos (by omega)]; rfl
  · rw [if_neg (by omega)]
    exact (List.getElem?_eq_none (by omega)).symm
theorem endQ_none {zs : List Q2} {i : Int} (h : i < 0) : endQ zs i = none := by
  unfold endQ
  rw [if_neg (by omega)]
theorem some_up {zs : List Q2} {n : Nat} (hr : RiseQ zs) {i j : Bool} : someB (endQ zs ((n : Int) - 1)) zs[n]? i j = true := by
  cases n with
  | zero => rw [endQ_none (by omega)]; rfl
  | succ n =>
    rw [endQ_in (n := n) (by omega)]
    cases e1 : zs[n]? with
    | none => rfl
    | some a =>
      cases e2 : zs[n + 1]? with
      | none => rfl
      | some b => exact some_lt (hr n a b e1 e2)
theorem some_dn {zs : List Q2} {n : Nat} (hr : RiseQ zs) {i j : Bool} : someB zs[n]? (endQ zs ((n : Int) + 1)) i j = true := by
  rw [endQ_in (n := n + 1) (by omega)]
  cases e1 : zs[n]? with
  | none => rfl
  | some a =>
    cases e2 : zs[n + 1]? with
    | none => rfl
    | some b => exact some_lt (hr n a b e1 e2)
theorem midq_rise {zs : List Q2} (hr : RiseQ zs) (hp : PosL zs) : RiseQ (midq zs) := by
  intro i x y hx hy
  have l := (List.getElem?_eq_some_iff.mp hy).1
  rw [midq_len] at l
  obtain ⟨a, ha⟩ := ge2 (zs := zs) (n := i) (by omega)
  obtain ⟨b, hb⟩ := ge2 (zs := zs) (n := i + 1) (by omega)
  obtain ⟨c, hc⟩ := ge2 (zs := zs) (n := i + 1 + 1) (by omega)
  rw [midq_get zs i a b ha hb] at hx
  rw [midq_get zs (i + 1) b c hb hc] at hy
  cases hx; cases hy
  exact mids_lt (hp a (List.mem_of_getElem? ha)) (hp b (List.mem_of_getElem? hb)) (hp c (List.mem_of_getElem? hc)) (hr i a b ha hb) (hr (i + 1) b c hb hc)
theorem some_nr {zs : List Q2} {n : Nat} (hr : RiseQ zs) {i j : Bool} : someB (endQ zs ((n : Int) - 1)) (endQ zs (n : Int)) i j = true := by
  rw [endQ_in (n := n) rfl]
  exact some_up hr
end My
namespace My
open PySem PySem.Spec PyProof.Rows L2
/-! ### defs that are called where no text of a list or tuple is under way -/
structure FnG (P : Program) (w : World) (K : PySem.W.Frag) (mg : Str → Option Value) (base : Heap) (CX : CXT) (k : Nat) (f : Addr) (fd : FuncData) (ps : List Str) (sp : Sp) : Prop where
  lenG : ∀ vs H Q E, sp vs H Q E → vs.length = ps.length
  runG : ∀ (A : Around) (outer : List Env) (s : Shared) (H : Hp) (args : Args) (us : List Value) (vs : List V) (Q : VK) (E : XK), Room k A → A.guards = some [] → Env0 P w K mg base A outer s H → BindsTo s fd args (ps.zip us) → Vals vs us → sp vs H Q E →
    codeAny (model P w) A (.call (.ref f) args) (CR CX outer P w H s Q E) s
section
variable {P : Program} {w : World} {K : PySem.W.Frag} {mg : Str → Option Value} {base : Heap} {x qual : Str} {params : Arguments} {body : List Stmt} {scope : Scope} {dvs : List V} {kws : List (Str × V)} {f : Addr} {fd : FuncData}
theorem okG {CX : CXT} {N ps : List Str} {k : Nat} {sp : Sp} (F : FunD K x qual params body scope dvs kws f fd) (S : FnScope N ps scope) (hlen : ∀ vs H Q E, sp vs H Q E → vs.length = ps.length)
    (hbody : ∀ (cdv : Value) (A : Around) (outer : List Env) (s : Shared) (H : Hp) (vs : List V) (Q : VK) (E : XK), Room k (A.deeper (envOfC qual scope s.heap.objs.size f cdv)) → A.guards = some [] → sp vs H Q E →
      ∃ t, PSs (cxOf CX P w K mg base N qual scope f cdv A outer s H E) body t ∧ t { nx := fun _ H' => Q .non H', rt := Q } (start N vs) H) : FnG P w K mg base CX (k + 1) f fd ps sp := by
  obtain ⟨oc, od, dV, kV, doc, pm, an, cdv, ct, osl, rfl, lk, hcd, _, _⟩ := F.ex
  refine ⟨hlen, fun A outer s H args us vs Q E room gd en bd rl hs => ?_⟩
  have lv := hlen _ _ _ _ hs
  have kin : K.In s.heap := en.mod.kin.keeps fun b o q => (en.bs b o q).1
  have noL : s.heap.NoLimit := en.mod.nolimit.keeps fun b o q => (en.bs b o q).1
  have kinds : ∀ y ∈ ps.zip us, scope.names.lookup y.1 = some .local ∨ (scope.names.lookup y.1 = some .cell ∧ ((cellsFrom (s.heap.objs.size + 1) scope.names []).lookup y.1).isSome = true) := fun ⟨n, v⟩ hy => by
    rcases S.par n (List.of_mem_zip hy).1 with q | q
    · exact .inl q
    · exact .inr ⟨q, PySem.W.cellsFrom_some _ _ _ (.inl q)⟩
  refine codeAny_call_function room.depth (kin _ _ lk) rfl S.co S.gen rfl (PySem.W.codeRec_of kin hcd) (bd _ _ _ _ ?_)
  refine wpAny_newFunctionEnv_cells S.kind kinds fun env ee s1 ic => ?_
  subst ee
  refine ⟨noL.keeps ic.toInCall.keep, codeAny_func ?_⟩
  obtain ⟨t, ht, hq⟩ := hbody cdv A outer s H vs Q E (room.deeper _) gd hs
  have J0 : Inv (cxOf CX P w K mg base N qual scope f cdv A outer s H E) [] (start N vs) H s1 := inv_start S room.hd en lv rl ic
  refine wpAny_mono (ht.run [] s1 (start N vs) H _ J0 hq) (fun fl s' hz => ?_) fun e s' hz => hz
  cases fl with
  | ret u =>
    obtain ⟨v, σ', H', J, rv, q⟩ := hz
    exact ⟨v, H', J.os, J.bare, J.base, J.hok, rv, q⟩
  | next =>
    obtain ⟨σ', H', J, q⟩ := hz
    exact ⟨V.non, H', J.os, J.bare, J.base, J.hok, rfl, q⟩
  | brk =>
    obtain ⟨_, _, _, q⟩ := hz
    exact False.elim q
  | cont =>
    obtain ⟨_, _, _, q⟩ := hz
    exact False.elim q
end
section
variable {X : Cx} {CX : CXT} {k : Nat} {f : Addr} {fd : FuncData} {ps : List Str} {sp : Sp} {dvs : List V} {ds : List Value} {E : XK} {x : Str} {p pos : Pos} {e : Expr} {es : List Expr} {t : TA}
theorem pe_callG (F : FnG X.prog X.w X.K X.mg X.base CX k f fd ps sp) (gd : X.A.guards = some []) (hr : Room k X.A) (hg : Gl X x) (hm : X.mg x = some (.ref f)) (hk : PySem.W.keepIn X.K (.ref f) = true) (hb : Binds X.K fd ps ds) (hd : Vals dvs ds) (hx : Passes CX X E)
    (ha : PA X (e :: es) t) (hdb : (x == ("__debug__" : Str)) = false := by decide) (he : starEach (e :: es) X.env = (false, eval e X.env) :: starEach es X.env := by rfl) (hpl : (backTo pos (starEach es X.env)).any (·.1) = false := by rfl) :
    PE X (.Call (.Name x p) (e :: es) [] pos) (tCall sp dvs E t) := by
  refine ⟨fun pins s σ H Q I hw => ?_⟩
  refine wpAny_Call_Name_kw (ld_glob I hg hm ?_ hdb)
  refine PySem.W.callWith_K (h₀ := X.base) I.ok.mod.kin hk (thn (ha.run pos pins s σ H _ I hw) fun us s1 ⟨vs, H1, I1, rl, q⟩ => ⟨I1.kIn, ?_⟩) he hpl
  have r2 : Vals (vs ++ dvs) (us ++ ds) := rl.append hd
  have hl : (us ++ ds).length = ps.length := by rw [← r2.length]; exact F.lenG _ _ _ _ q
  refine wpAny_call (codeAny_mono (F.runG X.A X.stack s1 H1 ⟨us, []⟩ (us ++ ds) (vs ++ dvs) Q E hr gd I1.env0 (hb s1 us I1.kIn hl) r2 q) fun rr s' hq => ?_)
  cases rr with
  | error e => exact hx pins σ H1 s1 e s' I1 hq
  | ok fl =>
    cases fl with
    | ret u => exact I1.after hq
    | next => exact False.elim hq
    | brk => exact False.elim hq
    | cont => exact False.elim hq
/-- repr of data -/
theorem call_reprD {n : Nat} (gd : X.A.guards = some []) (hr : Room n X.A) : CallR X (.builtin "repr") (fun xs H Q => ∃ x d, xs = [x] ∧ Dp X.K H x d ∧ d.showable = true ∧ d.hasDict = false ∧ d.depth ≤ 60 ∧ d.shown.length ≤ sizeLine ∧ Q (.str d.shown) H) := by
  intro pins s σ H xs us Q I r h
  obtain ⟨x, d, rfl, hd, hs, hn, hp, hz, q⟩ := h
  obtain ⟨u, rfl, rx⟩ := vals1 r
  obtain ⟨as, rd⟩ := Dp.reads I d x u hd rx
  have hu := hr.un
  cases hd with
  | non =>
    cases (show u = Value.none from rx)
    exact PySem.P.repr_of_none ⟨.str _, H, I.tok _, ⟨_, rfl⟩, q⟩
  | bl b =>
    cases (show u = Value.bool b from rx)
    exact PySem.P.repr_of_bool ⟨.str _, H, I.tok _, ⟨_, rfl⟩, q⟩
  | int i =>
    obtain ⟨t, rfl⟩ := rx
    have hi : i.natAbs.log2 < 1920 := by simpa [PyData.showable] using hs
    simp only [PyData.shown] at q
    exact PySem.P.repr_of_int hi ⟨.str _, H, I.tok _, ⟨_, rfl⟩, q⟩
  | str z =>
    obtain ⟨t, rfl⟩ := rx
    exact PySem.P.repr_of_str ⟨.str _, H, I.tok _, ⟨_, rfl⟩, q⟩ hz
  | lst hq ha =>
    cases (show u = Value.ref _ from rx)
    exact repr_of_reads' rd hs (fun e => by rw [hn] at e; cases e) gd (by omega) (fun _ _ e => e) (fun h' t tk hk => ⟨.str _, H, I.kept hk, ⟨t, rfl⟩, q⟩) hz
  | tup hq ha =>
    cases (show u = Value.ref _ from rx)
    exact repr_of_reads' rd hs (fun e => by rw [hn] at e; cases e) gd (by omega) (fun _ _ e => e) (fun h' t tk hk => ⟨.str _, H, I.kept hk, ⟨t, rfl⟩, q⟩) hz
end
/-! ### the law is called where none is under way -/
theorem law_G {P : Program} {w : World} {K : PySem.W.Frag} {mg mb : Str → Option Value} {CX : CXT} {k : Nat} {fa a : Addr} {fd : FuncData} {x : Str} {sp : Sp} {s1 : Shared} {vs : List Value} {ns : List Int}
    (kin : K.In s1.heap) (hns : s1.heap.Ns mainGlobals mg) (hb : s1.heap.Ns builtinsNs mb) (hbb : ∀ y : Str, y ≠ "__name__" → mb y = bootBuiltins y) (hlim : s1.heap.NoLimit) (hgen : s1.gens = #[])
    (ha : s1.heap.get? a = some { cls := .type "list", data := .seq vs.toArray }) (hi : IntsAre vs ns) (hl : ns.length ≤ sizeLine) (hr : Room k callerA)
    (F : ∀ base : Heap, K.In base → base.Ns mainGlobals mg → FnG P w K mg base CX k fa fd [x] sp) (hbind : ∀ (s : Shared) (u : Value), BindsTo s fd ⟨[u], []⟩ [(x, u)])
    (hsp : ∀ H : Hp, Only H → SqL K H a (ns.map V.int) → sp [.ref a] H (fun v _ => v = .bl true) fun _ _ _ => False)
    (hCX : ∀ H e s', CX [] H s1 (fun _ _ _ => False) e s' → False) :
    codeAny (model P w) callerA (.call (.ref fa) ⟨[.ref a], []⟩) (fun r s' => r = .ok (.ret (.bool true)) ∧ OldK s1.heap s'.heap ∧ s'.os = s1.os ∧ AllBare s'.gens) s1 := by
  have rv := vals_ints hi
  have lenV := hi.length
  have core : ∀ H : Hp, Only H → SqL K H a (ns.map V.int) → HOk P w H s1.heap → (∀ b, H b ≠ none → b = a) → (H a ≠ none → K.lookup a = none) →
      codeAny (model P w) callerA (.call (.ref fa) ⟨[.ref a], []⟩) (fun r s' => r = .ok (.ret (.bool true)) ∧ OldK s1.heap s'.heap ∧ s'.os = s1.os ∧ AllBare s'.gens) s1 := by
    intro H only seq hok one free
    have inB : ∀ {b : Addr} {o : Obj}, s1.heap.get? b = some o → H b = none → (hidT s1.heap H).get? b = some o := fun q n => hidT_get q n
    have apart : ∀ {b : Addr} {o : Obj} {es : Array DictEntry} {ep : Nat}, s1.heap.get? b = some o → o.data = .dict es ep → H b = none := fun {b o es ep} q dd => by
      cases z : H b with
      | none => rfl
      | some u =>
        have eb : b = a := one b (by rw [z]; simp)
        subst eb
        rw [ha] at q; cases q
        have d' : Data.seq vs.toArray _ = Data.dict es ep := dd
        cases d'
    have nsB : ∀ {b : Addr} {m : Str → Option Value}, s1.heap.Ns b m → (hidT s1.heap H).Ns b m := fun {b m} ⟨o, es, ep, q, dd, r⟩ => ⟨o, es, ep, inB q (apart q dd), dd, r⟩
    have kinB : K.In (hidT s1.heap H) := fun b o q => inB (kin b o q) (by
      cases z : H b with
      | none => rfl
      | some u =>
        have eb : b = a := one b (by rw [z]; simp)
        subst eb
        rw [free (by rw [z]; simp)] at q; cases q)
    have md : Mod K mg (hidT s1.heap H) := ⟨kinB, nsB hns, ⟨mb, nsB hb, hbb⟩, let ⟨mc, h1, h2⟩ := hlim; ⟨mc, nsB h1, h2⟩⟩
    have en : Env0 P w K mg (hidT s1.heap H) callerA [] s1 H := ⟨rfl, md, fun b o q => of_hidT q, Nat.le_of_eq (hidT_size _ _), trivial, fun b hb => absurd (show b ∈ ([] : List Addr) from hb) (by simp), hok, .of_eq hgen⟩
    refine codeAny_mono ((F _ kinB (nsB hns)).runG callerA [] s1 H ⟨[.ref a], []⟩ [.ref a] [.ref a] _ _ hr rfl en (hbind s1 (.ref a)) (.cons rfl .nil) (hsp H only seq)) fun r s' h => ?_
    cases r with
    | error e => exact (hCX H e s' h).elim
    | ok fl =>
      cases fl with
      | next => exact False.elim h
      | brk => exact False.elim h
      | cont => exact False.elim h
      | ret u =>
        obtain ⟨v, H', os, bare, un, hok', r', q⟩ := h
        cases (show v = .bl true from q)
        cases (show u = Value.bool true from r')
        refine ⟨rfl, OldK.of_keep fun b o eo => ?_, os, bare⟩
        cases z : H b with
        | none => exact un.keep b o eo z (fun y => absurd (show b ∈ ([] : List Addr) from y) (by simp)) (by simp)
        | some u =>
          rcases only b with y | ⟨ob, xs, y⟩
          · rw [z] at y; cases y
          · obtain ⟨e1, _⟩ := hok b _ y
            obtain ⟨e2, _⟩ := hok' b _ (un.frzs b ob _ y)
            rw [eo] at e1; cases e1
            exact e2
  cases hk : K.lookup a with
  | some o =>
    have eo := kin a o hk
    rw [ha] at eo
    cases eo
    exact core (fun _ => none) (fun _ => .inl rfl) (.inr ⟨_, vs.toArray, _, hk, rfl, rfl, rfl, by rw [List.size_toArray, lenV]; exact hl, by simpa using rv⟩) (fun b u z => nomatch (show (none : Option HO) = some u from z)) (fun b z => absurd rfl z) fun z => absurd rfl z
  | none =>
    refine core (fun b => if b = a then some (.frz { cls := .type "list", data := .seq vs.toArray } (.lst (ns.map V.int))) else none) (fun b => ?_) (.inl (.inr ⟨{ cls := .type "list", data := .seq vs.toArray }, if_pos rfl⟩)) (fun b u z => ?_) (fun b z => ?_) fun _ => hk
    · by_cases eb : b = a
      · exact .inr ⟨_, _, if_pos eb⟩
      · exact .inl (if_neg eb)
    · by_cases eb : b = a
      · have y := (if_pos eb).symm.trans z
        cases y
        subst eb
        exact ⟨ha, by rw [List.length_map]; exact hl, vs, _, rv, ha⟩
      · have y := (if_neg eb).symm.trans z
        cases y
    · by_cases eb : b = a
      · exact eb
      · exact absurd (if_neg eb) z
theorem walk_G {l : PySem.W.OpenLaw} {n k : Nat} {q : Program} {loose : List Str} {XP : (Str → Option Value) → Heap → Prop} {YP : World → Heap → Prop} {d : DefRec} {CX : CXT} {x : Str}
    (hn : l.most = some n) (hn2 : n ≤ sizeLine) (hdf : d.params.defaults = []) (hr : Room k callerA)
    (F : ∀ (w : World) (mg : Str → Option Value) (fa : Addr) (h : Heap), YP w h → h.Ns mainGlobals mg → mg d.name = some (.ref fa) →
      ∃ (K : PySem.W.Frag) (fd : FuncData) (sp : Sp), K.In h ∧ (∀ (s : Shared) (u : Value), BindsTo s fd ⟨[u], []⟩ [(x, u)]) ∧
        (∀ (H : Hp) (a : Addr) (ns : List Int), ns.length ≤ n → Only H → SqL K H a (ns.map V.int) → sp [.ref a] H (fun v _ => v = .bl true) fun _ _ _ => False) ∧
        ∀ base : Heap, K.In base → base.Ns mainGlobals mg → FnG l.prog w K mg base CX k fa fd [x] sp)
    (hCX : ∀ (H : Hp) (s : Shared) (e : Value) (s' : Shared), CX [] H s (fun _ _ _ => False) e s' → False) :
    PySem.W.WalkO q loose XP YP l.row.toRowW d [] (fun f vs => PySem.call f vs) := by
  refine Att.attach_call hn hdf fun w s₀ s1 mg mb fa o pm cd doc a vs ns G Y ho hd hcd hmg hobj hints hlen hgen => ?_
  obtain ⟨K, fd, sp, KX, hb, hsp, hF⟩ := F w mg fa _ Y G.T.g hmg
  exact law_G KX G.T.g G.T.b G.T.builtins G.T.nolimit hgen hobj hints (Nat.le_trans hlen hn2) hr hF hb (fun H hO hS => hsp H a ns hlen hO hS) fun H e s' => hCX H s1 e s'
end My
namespace My
open PySem PySem.Spec PyProof.Rows L2
/-! ### tuples: sums and slices, whatever their lengths -/
section
variable {X : Cx} {K : PySem.W.Frag}
end
theorem cutV_take (xs : List V) {i : Int} {n : Nat} (e : i = (n : Int)) : cutV xs none (some i) = xs.take n := by
  subst e
  unfold cutV
  rw [HT.sIx_none, HT.sIx_nat, List.drop_zero, Nat.sub_zero]
  by_cases h : n ≤ xs.length
  · rw [Nat.min_eq_left h]
  · rw [Nat.min_eq_right (by omega), List.take_length, List.take_of_length_le (by omega)]
theorem cutV_drop (xs : List V) {i : Int} {n : Nat} (e : i = (n : Int)) : cutV xs (some i) none = xs.drop n := by
  subst e
  unfold cutV
  rw [HT.sIx_none, HT.sIx_nat]
  by_cases h : n ≤ xs.length
  · rw [Nat.min_eq_left h, List.take_of_length_le (by rw [List.length_drop]; omega)]
  · rw [Nat.min_eq_right (by omega), Nat.sub_self, List.take_zero, List.drop_eq_nil_of_le (by omega)]
/-! ### rows, as the laws draw them -/
structure RowsL (H : Hp) (p : Addr) (part : Int) (ts : List Int) : Prop where
  ob : ∃ T, H p = some (.tup [.int part, .ref T]) ∧ H T = some (.tup (ts.map V.int))
  p0 : 0 < part
  p1 : part ≤ 10007
  len0 : 0 < ts.length
  len1 : ts.length ≤ 24
  bnd : ∀ t ∈ ts, -2000000 ≤ t ∧ t ≤ 2000000
theorem RowsL.same {H H' : Hp} {p : Addr} {part : Int} {ts : List Int} (a : RowsL H p part ts) (s : Same H H') : RowsL H' p part ts := by
  obtain ⟨⟨T, h1, h2⟩, a1, a2, a3, a4, a5⟩ := a
  exact ⟨⟨T, s _ _ h1, s _ _ h2⟩, a1, a2, a3, a4, a5⟩
/-! ### tuples of whole numbers as data -/
def intsD (zs : List Int) : PyData := .tuple (zs.map PyData.int)
theorem dpI {K : PySem.W.Frag} {H : Hp} : ∀ zs : List Int, DpAll K H (zs.map V.int) (zs.map PyData.int)
  | [] => .nil
  | z :: zs => .cons (.int z) (dpI zs)
theorem dpT {K : PySem.W.Frag} {H : Hp} {p : Addr} {zs : List Int} (h : H p = some (.tup (zs.map V.int))) : Dp K H (.ref p) (intsD zs) := .tup (SqT.of h) (dpI zs)
end My
namespace My
open PySem PySem.Spec PyProof.Rows L2
/-! ### a list or a tuple, walked -/
section
variable {X : Cx} {tg : Expr}
end
/-- a def that calls itself, ahead of its own promise -/
theorem fn_never {P : Program} {w : World} {K : PySem.W.Frag} {mg : Str → Option Value} {base : Heap} {CX : CXT} {k : Nat} {f : Addr} {fd : FuncData} {ps : List Str} : FnOk P w K mg base CX k f fd ps (fun _ _ _ _ => False) :=
  ⟨fun _ _ _ _ h => h.elim, fun _ _ _ _ _ _ _ _ _ _ _ _ _ h => h.elim⟩
/-! ### fractions as pairs of whole numbers -/
def TQ (H : Hp) (v : V) (k : Nat) (z : Q2) : Prop := ∃ p, v = .ref p ∧ H p = some (.tup [.int z.1, .int z.2]) ∧ 0 < z.2 ∧ Sz k z.1 ∧ Sz k z.2
section
variable {H H' : Hp} {v : V} {k j : Nat} {z : Q2}
theorem TQ.same (a : TQ H v k z) (s : Same H H') : TQ H' v k z := by
  obtain ⟨p, h1, h2, h3⟩ := a
  exact ⟨p, h1, s _ _ h2, h3⟩
theorem TQ.nl (a : TQ H v k z) (s : Nl H H') : TQ H' v k z := by
  obtain ⟨p, h1, h2, h3⟩ := a
  exact ⟨p, h1, s _ _ h2 rfl, h3⟩
theorem TQ.kp {h : Addr} {n : Nat} (a : TQ H v k z) (hh : HandAt H h n) (s : Kp h H H') : TQ H' v k z := by
  obtain ⟨p, h1, h2, h3⟩ := a
  exact ⟨p, h1, s.get hh h2 rfl, h3⟩
theorem TQ.mono (a : TQ H v k z) (l : k ≤ j) : TQ H v j z := by
  obtain ⟨p, h1, h2, h3, h4, h5⟩ := a
  exact ⟨p, h1, h2, h3, h4.mono l, h5.mono l⟩
theorem TQ.pos (a : TQ H v k z) : 0 < z.2 := by
  obtain ⟨p, h1, h2, h3, h4, h5⟩ := a
  exact h3
theorem TQ.mk {p : Addr} {a b : Int} (h : H p = some (.tup [.int a, .int b])) (hb : 0 < b) (s1 : Sz k a) (s2 : Sz k b) : TQ H (.ref p) k (a, b) := ⟨p, rfl, h, hb, s1, s2⟩
end
structure Tqs (H : Hp) (k : Nat) (vs : List V) (zs : List Q2) : Prop where
  len : vs.length = zs.length
  all : ∀ (i : Nat) (v : V) (z : Q2), vs[i]? = some v → zs[i]? = some z → TQ H v k z
section
variable {H H' : Hp} {k j : Nat} {vs : List V} {zs : List Q2}
theorem Tqs.same (m : Tqs H k vs zs) (s : Same H H') : Tqs H' k vs zs := ⟨m.len, fun i v z h1 h2 => (m.all i v z h1 h2).same s⟩
theorem Tqs.nl (m : Tqs H k vs zs) (s : Nl H H') : Tqs H' k vs zs := ⟨m.len, fun i v z h1 h2 => (m.all i v z h1 h2).nl s⟩
theorem Tqs.kp {h : Addr} {n : Nat} (m : Tqs H k vs zs) (hh : HandAt H h n) (s : Kp h H H') : Tqs H' k vs zs := ⟨m.len, fun i v z h1 h2 => (m.all i v z h1 h2).kp hh s⟩
theorem Tqs.mono (m : Tqs H k vs zs) (l : k ≤ j) : Tqs H j vs zs := ⟨m.len, fun i v z h1 h2 => (m.all i v z h1 h2).mono l⟩
theorem Tqs.at (m : Tqs H k vs zs) {i : Nat} {z : Q2} (h : zs[i]? = some z) : ∃ v, vs[i]? = some v ∧ TQ H v k z := by
  have hi : i < vs.length := by rw [m.len]; exact (List.getElem?_eq_some_iff.mp h).1
  exact ⟨_, List.getElem?_eq_getElem hi, m.all i _ z (List.getElem?_eq_getElem hi) h⟩
theorem Tqs.of (m : Tqs H k vs zs) {i : Nat} {v : V} (h : vs[i]? = some v) : ∃ z, zs[i]? = some z ∧ TQ H v k z := by
  have hi : i < zs.length := by rw [← m.len]; exact (List.getElem?_eq_some_iff.mp h).1
  exact ⟨_, List.getElem?_eq_getElem hi, m.all i v _ h (List.getElem?_eq_getElem hi)⟩
theorem Tqs.snoc (m : Tqs H k vs zs) {v : V} {z : Q2} (t : TQ H v k z) : Tqs H k (vs ++ [v]) (zs ++ [z]) := by
  refine ⟨by rw [List.length_append, List.length_append, m.len]; rfl, fun i w y h1 h2 => ?_⟩
  by_cases hi : i < vs.length
  · rw [List.getElem?_append_left hi] at h1
    rw [List.getElem?_append_left (by rw [← m.len]; exact hi)] at h2
    exact m.all i w y h1 h2
  · have l1 := (List.getElem?_eq_some_iff.mp h1).1
    rw [List.length_append, List.length_singleton] at l1
    have e : i = vs.length := by omega
    rw [e, List.getElem?_append_right (Nat.le_refl _), Nat.sub_self] at h1
    rw [e, m.len, List.getElem?_append_right (Nat.le_refl _), Nat.sub_self] at h2
    cases h1; cases h2
    exact t
theorem Tqs.one {v : V} {z : Q2} (t : TQ H v k z) : Tqs H k [v] [z] := (⟨rfl, fun i w y h1 => by simp at h1⟩ : Tqs H k [] []).snoc t
theorem Tqs.cons (m : Tqs H k vs zs) {v : V} {z : Q2} (t : TQ H v k z) : Tqs H k (v :: vs) (z :: zs) := by
  refine ⟨by rw [List.length_cons, List.length_cons, m.len], fun i w y h1 h2 => ?_⟩
  cases i with
  | zero => cases h1; cases h2; exact t
  | succ i => exact m.all i w y (by simpa using h1) (by simpa using h2)
theorem Tqs.nil : Tqs H k [] [] := ⟨rfl, fun i w y h1 => by simp at h1⟩
theorem Mks.mono {C : Addr} {ps : List V} (m : Mks C H k ps zs) (l : k ≤ j) : Mks C H j ps zs := ⟨m.len, fun i v z h1 h2 => by
  obtain ⟨p, e, q⟩ := m.all i v z h1 h2
  exact ⟨p, e, q.mono l⟩⟩
theorem QO.mono {C : Addr} {v : V} (l : k ≤ j) : ∀ {e : Option Q2}, QO C H k v e → QO C H j v e
  | none, h => h
  | some _, ⟨p, h1, h2⟩ => ⟨p, h1, h2.mono l⟩
end
theorem leq_not {a b : Q2} : leq a b = !ltq b a := by
  unfold leq ltq eqq
  rw [← Bool.decide_or, ← decide_not]
  exact decide_eq_decide.mpr ⟨fun h => by omega, fun h => by omega⟩
theorem span_leq (a b : Q2) : spanB (some a) (some b) = (ltq a b || eqq a b) := by
  show (!ltq b a) = leq a b
  rw [leq_not]
/-! ### what the defs of pairs promise -/
def sp_span (CM : Addr) : Sp := fun vs H Q _ => ∃ (l h : V) (k : Nat) (lo hi : Option Q2), vs = [l, h] ∧ QO CM H k l lo ∧ QO CM H k h hi ∧ k ≤ 9000 ∧ Q (.bl (spanB lo hi)) H
theorem rise_ltq {zs : List Q2} (h : RiseQ zs) (hp : ∀ z ∈ zs, 0 < z.2) : ∀ {j i : Nat} {a b : Q2}, i < j → zs[i]? = some a → zs[j]? = some b → ltq a b = true
  | 0, _, _, _, hi, _, _ => by omega
  | j + 1, i, a, b, hi, ha, hb => by
    obtain ⟨c, hc⟩ := ge2 (zs := zs) (n := j) (by have := (List.getElem?_eq_some_iff.mp hb).1; omega)
    have h1 := h j c b hc hb
    by_cases e : i = j
    · subst e
      rw [ha] at hc
      cases hc
      exact h1
    · exact ltq_trans (hp c (List.mem_of_getElem? hc)) (hp a (List.mem_of_getElem? ha)) (hp b (List.mem_of_getElem? hb)) (rise_ltq h hp (show i < j by omega) ha hc) h1
/-- None, or a pair -/
def TOq (H : Hp) (k : Nat) (v : V) : Option Q2 → Prop
  | none => v = .non
  | some z => TQ H v k z
theorem TOq.same {H H' : Hp} {k : Nat} {v : V} : ∀ {e : Option Q2}, TOq H k v e → Same H H' → TOq H' k v e
  | none, h, _ => h
  | some _, h, s => TQ.same h s
theorem TOq.kp {H H' : Hp} {k n : Nat} {h : Addr} {v : V} : ∀ {e : Option Q2}, TOq H k v e → HandAt H h n → Kp h H H' → TOq H' k v e
  | none, h, _, _ => h
  | some _, h, hh, s => TQ.kp h hh s
theorem QO.nl {C : Addr} {H H' : Hp} {k : Nat} {v : V} (s : Nl H H') : ∀ {e : Option Q2}, QO C H k v e → QO C H' k v e
  | none, h => h
  | some _, ⟨p, h1, h2⟩ => ⟨p, h1, h2.nl s⟩
theorem sqt_kp {K : PySem.W.Frag} {H H' : Hp} {h a : Addr} {n : Nat} {xs : List V} (s : SqT K H a xs) (hh : HandAt H h n) (k : Kp h H H') : SqT K H' a xs := by
  rcases s with (s | ⟨o, s⟩) | s
  · exact .inl (.inl (k.get hh s rfl))
  · exact .inl (.inr ⟨o, k.get hh s rfl⟩)
  · exact .inr s
theorem LadAt.kp {K : PySem.W.Frag} {CM CL p h : Addr} {H H' : Hp} {k n : Nat} {zs : List Q2} {r : Str} {lo hi : Option Q2} (a : LadAt K CM CL H p k zs r lo hi) (hh : HandAt H h n) (s : Kp h H H') : LadAt K CM CL H' p k zs r lo hi := by
  obtain ⟨⟨dx, T, ps, l, u, h1, h2, h3, h4, h5⟩, a1, a2, a3, a4, a5⟩ := a
  exact ⟨⟨dx, T, ps, l, u, s.get hh h1 rfl, sqt_kp h2 hh s, h3.kp hh s, h4.kp hh s, h5.kp hh s⟩, a1, a2, a3, a4, a5⟩
end My
namespace My
open PySem PySem.Spec PyProof.Rows L2
/-! ### comprehensions that draw -/
theorem Kp.nlh {h : Addr} {H H' : Hp} {n : Nat} (k : Kp h H H') (hh : HandAt H h n) : Nl H H' := fun c o e no => k c o e (hh.apart e no)
/-! ### things that are the same, one within another -/
def AtomV (x : V) : Prop := (∃ z : Int, x = .int z) ∨ (∃ s : Str, x = .str s) ∨ x = .non ∨ ∃ b : Bool, x = .bl b
def SameV (K : PySem.W.Frag) (H : Hp) : Nat → V → V → Prop
  | 0, x, y => x = y ∧ AtomV x
  | n + 1, x, y => (x = y ∧ AtomV x) ∨ ∃ p q xs ys, x = .ref p ∧ y = .ref q ∧ SqT K H p xs ∧ SqT K H q ys ∧ xs.length = ys.length ∧ xs.length ≤ 900 ∧ ∀ (i : Nat) (a b : V), xs[i]? = some a → ys[i]? = some b → SameV K H n a b
theorem SameV.same {K : PySem.W.Frag} {H H' : Hp} (s : Same H H') : ∀ {n : Nat} {x y : V}, SameV K H n x y → SameV K H' n x y
  | 0, _, _, h => h
  | n + 1, _, _, .inl h => .inl h
  | n + 1, _, _, .inr ⟨p, q, xs, ys, h1, h2, h3, h4, h5, h6, h7⟩ => .inr ⟨p, q, xs, ys, h1, h2, s.sqt h3, s.sqt h4, h5, h6, fun i a b ha hb => SameV.same s (h7 i a b ha hb)⟩
theorem SameV.atom {K : PySem.W.Frag} {H : Hp} {x : V} (a : AtomV x) : ∀ n, SameV K H n x x
  | 0 => ⟨rfl, a⟩
  | _ + 1 => .inl ⟨rfl, a⟩
theorem SameV.ints {K : PySem.W.Frag} {H : Hp} {p q : Addr} {ss : List Int} (n : Nat) (hp : SqT K H p (ss.map V.int)) (hq : SqT K H q (ss.map V.int)) (l : ss.length ≤ 900) : SameV K H (n + 1) (.ref p) (.ref q) :=
  .inr ⟨p, q, _, _, rfl, rfl, hp, hq, rfl, by rw [List.length_map]; exact l, fun i a b ha hb => by
    rw [ha] at hb
    cases hb
    obtain ⟨s, _, rfl⟩ := List.mem_map.mp (List.mem_of_getElem? ha)
    exact SameV.atom (.inl ⟨s, rfl⟩) n⟩
/-! ### a Grid -/
def gf (a b c : V) : List (Str × V) := [("lengths", a), ("breadths", b), ("grade", c)]
section
variable (a b c : V)
end
structure GrdAt (K : PySem.W.Frag) (CM CL CG : Addr) (H : Hp) (p : Addr) (k : Nat) (L1 L2 : Addr) (g : Q2) : Prop where
  ob : ∃ dx q, H p = some (.ins CG dx (gf (.ref L1) (.ref L2) (.ref q))) ∧ QAt CM H q k g
theorem GrdAt.same {K : PySem.W.Frag} {CM CL CG : Addr} {H H' : Hp} {p : Addr} {k : Nat} {L1 L2 : Addr} {g : Q2} (a : GrdAt K CM CL CG H p k L1 L2 g) (s : Same H H') : GrdAt K CM CL CG H' p k L1 L2 g := by
  obtain ⟨dx, q, h1, h2⟩ := a.ob
  exact ⟨dx, q, s _ _ h1, h2.same s⟩
theorem GrdAt.kp {K : PySem.W.Frag} {CM CL CG : Addr} {H H' : Hp} {p h : Addr} {k n : Nat} {L1 L2 : Addr} {g : Q2} (a : GrdAt K CM CL CG H p k L1 L2 g) (hh : HandAt H h n) (s : Kp h H H') : GrdAt K CM CL CG H' p k L1 L2 g := by
  obtain ⟨dx, q, h1, h2⟩ := a.ob
  exact ⟨dx, q, s.get hh h1 rfl, h2.kp hh s⟩
/-! ### the laws' sides of a grid -/
structure SidesAt (H : Hp) (h p : Addr) (k : Nat) (zs ys : List Q2) (g : Q2) : Prop where
  ob : ∃ l1 l2 v us ws, H p = some (.lst [.ref l1, .ref l2, v]) ∧ H l1 = some (.lst us) ∧ H l2 = some (.lst ws) ∧ Tqs H k us zs ∧ Tqs H k ws ys ∧ TQ H v 20 g ∧ p ≠ h ∧ l1 ≠ h ∧ l2 ≠ h
  l0 : 0 < zs.length
  l1 : zs.length ≤ 8
  m0 : 0 < ys.length
  m1 : ys.length ≤ 8
theorem SidesAt.same {H H' : Hp} {h p : Addr} {k : Nat} {zs ys : List Q2} {g : Q2} (a : SidesAt H h p k zs ys g) (s : Same H H') : SidesAt H' h p k zs ys g := by
  obtain ⟨⟨l1, l2, v, us, ws, a1, a2, a3, a4, a5, a6, a7⟩, b1, b2, b3, b4⟩ := a
  exact ⟨⟨l1, l2, v, us, ws, s _ _ a1, s _ _ a2, s _ _ a3, a4.same s, a5.same s, a6.same s, a7⟩, b1, b2, b3, b4⟩
theorem SidesAt.kp {H H' : Hp} {h p : Addr} {k n : Nat} {zs ys : List Q2} {g : Q2} (a : SidesAt H h p k zs ys g) (hh : HandAt H h n) (s : Kp h H H') : SidesAt H' h p k zs ys g := by
  obtain ⟨⟨l1, l2, v, us, ws, a1, a2, a3, a4, a5, a6, a7, a8, a9⟩, b1, b2, b3, b4⟩ := a
  exact ⟨⟨l1, l2, v, us, ws, s _ _ a1 a7, s _ _ a2 a8, s _ _ a3 a9, a4.kp hh s, a5.kp hh s, a6.kp hh s, a7, a8, a9⟩, b1, b2, b3, b4⟩
theorem sqt_nl {K : PySem.W.Frag} {H H' : Hp} {a : Addr} {xs : List V} (s : SqT K H a xs) (k : Nl H H') : SqT K H' a xs := by
  rcases s with (s | ⟨o, s⟩) | s
  · exact .inl (.inl (k _ _ s rfl))
  · exact .inl (.inr ⟨o, k _ _ s rfl⟩)
  · exact .inr s
end My
namespace My
open PySem PySem.Spec PyProof.Rows L2
/-! ### sizes by fractions -/
/-- f holds of the first ones alone -/
def DownQ (f : Q2 → Bool) (zs : List Q2) : Prop := ∀ (i j : Nat) (a b : Q2), i < j → zs[i]? = some a → zs[j]? = some b → f b = true → f a = true
theorem DownQ.tail {f : Q2 → Bool} {x : Q2} {zs : List Q2} (h : DownQ f (x :: zs)) : DownQ f zs := fun i j a b hij ha hb hf => h (i + 1) (j + 1) a b (by omega) (by simpa using ha) (by simpa using hb) hf
theorem cntQ (f : Q2 → Bool) : ∀ {zs : List Q2}, DownQ f zs → ∀ (k : Nat) (a : Q2), zs[k]? = some a → (f a = true ↔ k < zs.countP f)
  | [], _, k, a, h => by simp at h
  | x :: zs, hd, k, a, h => by
    rw [List.countP_cons]
    cases e : f x with
    | true =>
      rw [if_pos rfl]
      cases k with
      | zero =>
        have : x = a := by simpa using h
        subst this
        simp [e]
      | succ k =>
        have := cntQ f hd.tail k a (by simpa using h)
        rw [this]
        omega
    | false =>
      rw [if_neg (by simp)]
      have z0 : zs.countP f = 0 := by
        rw [List.countP_eq_zero]
        intro y hy q
        obtain ⟨n, hn⟩ := List.mem_iff_getElem?.mp hy
        have := hd 0 (n + 1) x y (by omega) rfl (by simpa using hn) q
        rw [e] at this
        cases this
      rw [z0]
      have fa : f a = false := by
        cases k with
        | zero =>
          have : x = a := by simpa using h
          rw [← this]; exact e
        | succ k =>
          cases q : f a with
          | false => rfl
          | true =>
            have := hd 0 (k + 1) x a (by omega) rfl h q
            rw [e] at this
            cases this
      rw [fa]
      simp
theorem down_lt {zs : List Q2} {x : Q2} (h : RiseQ zs) (hp : ∀ z ∈ zs, 0 < z.2) (hx : 0 < x.2) : DownQ (fun a => ltq a x) zs := fun i j a b hij ha hb hf =>
  ltq_trans (hp b (List.mem_of_getElem? hb)) (hp a (List.mem_of_getElem? ha)) hx (rise_ltq h hp hij ha hb) hf
theorem leq_trans_lt {a b c : Q2} (ha : 0 < a.2) (hb : 0 < b.2) (hc : 0 < c.2) (h : ltq a b = true) (g : leq b c = true) : leq a c = true := by
  rw [leq_not] at g ⊢
  have g' : ltq c b = false := by simpa using g
  cases e : ltq c a with
  | false => rfl
  | true =>
    rw [ltq_trans ha hc hb e h] at g'
    cases g'
theorem down_le {zs : List Q2} {x : Q2} (h : RiseQ zs) (hp : ∀ z ∈ zs, 0 < z.2) (hx : 0 < x.2) : DownQ (fun a => leq a x) zs := fun i j a b hij ha hb hf =>
  leq_trans_lt (hp a (List.mem_of_getElem? ha)) (hp b (List.mem_of_getElem? hb)) hx (rise_ltq h hp hij ha hb) hf
section
variable {zs : List Q2} {r : Str} {lo hi : Option Q2} {x : Q2}
end
end My
namespace My
open PySem PySem.Spec PyProof.Rows L2
/-! ### what stood ahead, wanted at a later heap: the step first -/
section
variable {K : PySem.W.Frag} {C CM CL CG p q h a L1 L2 : Addr} {H H' H1 : Hp} {v : V} {k j n : Nat} {z : Q2} {vs : List V} {zs ys : List Q2} {o : HO} {e : Option Q2} {r : Str} {lo hi : Option Q2}
theorem TQ.s (s : Same H H') (t : TQ H v k z) : TQ H' v k z := t.same s
theorem TQ.nq (s : Nl H H') (t : TQ H v k z) : TQ H' v k z := t.nl s
theorem Tqs.s (s : Same H H') (t : Tqs H k vs zs) : Tqs H' k vs zs := t.same s
theorem QAt.s (s : Same H H') (t : QAt C H p k z) : QAt C H' p k z := t.same s
theorem Mks.s (s : Same H H') (t : Mks C H k vs zs) : Mks C H' k vs zs := t.same s
theorem QO.s (s : Same H H') (t : QO C H k v e) : QO C H' k v e := t.same s
theorem TOq.s (s : Same H H') (t : TOq H k v e) : TOq H' k v e := t.same s
theorem TOq.mono (l : k ≤ j) : ∀ {e : Option Q2}, TOq H k v e → TOq H j v e
  | none, h => h
  | some _, h => TQ.mono h l
theorem LadAt.s (s : Same H H') (t : LadAt K CM CL H p k zs r lo hi) : LadAt K CM CL H' p k zs r lo hi := t.same s
theorem LadAt.mono (t : LadAt K CM CL H p k zs r lo hi) (l : k ≤ j) : LadAt K CM CL H p j zs r lo hi := by
  obtain ⟨⟨dx, T, ps, u, w, h1, h2, h3, h4, h5⟩, a1, a2, a3, a4, a5⟩ := t
  exact ⟨⟨dx, T, ps, u, w, h1, h2, h3.mono l, h4.mono l, h5.mono l⟩, a1, a2, a3, a4, a5⟩
theorem GrdAt.s (s : Same H H') (t : GrdAt K CM CL CG H p k L1 L2 z) : GrdAt K CM CL CG H' p k L1 L2 z := t.same s
theorem SidesAt.s (s : Same H H') (t : SidesAt H h p k zs ys z) : SidesAt H' h p k zs ys z := t.same s
theorem HandAt.s (s : Same H H') (t : HandAt H h n) : HandAt H' h n := t.same s
theorem TQ.u {u : HO} {b : Addr} (np : H b = none) (t : TQ H v k z) : TQ (upd H b u) v k z := t.same (same1 np)
theorem Tqs.u {u : HO} {b : Addr} (np : H b = none) (t : Tqs H k vs zs) : Tqs (upd H b u) k vs zs := t.same (same1 np)
theorem QAt.u {u : HO} {b : Addr} (np : H b = none) (t : QAt C H p k z) : QAt C (upd H b u) p k z := t.same (same1 np)
theorem Mks.u {u : HO} {b : Addr} (np : H b = none) (t : Mks C H k vs zs) : Mks C (upd H b u) k vs zs := t.same (same1 np)
theorem QO.u {u : HO} {b : Addr} (np : H b = none) (t : QO C H k v e) : QO C (upd H b u) k v e := t.same (same1 np)
theorem TOq.u {u : HO} {b : Addr} (np : H b = none) (t : TOq H k v e) : TOq (upd H b u) k v e := t.same (same1 np)
theorem LadAt.u {u : HO} {b : Addr} (np : H b = none) (t : LadAt K CM CL H p k zs r lo hi) : LadAt K CM CL (upd H b u) p k zs r lo hi := t.same (same1 np)
theorem GrdAt.u {u : HO} {b : Addr} (np : H b = none) (t : GrdAt K CM CL CG H p k L1 L2 z) : GrdAt K CM CL CG (upd H b u) p k L1 L2 z := t.same (same1 np)
theorem SidesAt.u {u : HO} {b : Addr} (np : H b = none) (t : SidesAt H h p k zs ys z) : SidesAt (upd H b u) h p k zs ys z := t.same (same1 np)
theorem HandAt.u {u : HO} {b : Addr} (np : H b = none) (t : HandAt H h n) : HandAt (upd H b u) h n := t.same (same1 np)
end
/-- each of these values is a fraction -/
def AllTQ (H : Hp) (k : Nat) (vs : List V) : Prop := ∀ x ∈ vs, ∃ z, TQ H x k z
theorem AllTQ.nil {H : Hp} {k : Nat} : AllTQ H k [] := fun x hx => by simp at hx
theorem AllTQ.cons {H : Hp} {k : Nat} {v : V} {z : Q2} {vs : List V} (t : TQ H v k z) (m : AllTQ H k vs) : AllTQ H k (v :: vs) := fun x hx => by
  rcases List.mem_cons.mp hx with e | e
  · rw [e]; exact ⟨z, t⟩
  · exact m x e
/-! ### a rule, a least and a most, as the laws draw them in fractions -/
structure ChartAt (H : Hp) (T : Addr) (k : Nat) (r : Str) (lo hi : Option Q2) : Prop where
  ob : ∃ u w, H T = some (.tup [.str r, u, w]) ∧ TOq H k u lo ∧ TOq H k w hi
  rule : IsRule r
  span : spanB lo hi = true
section
variable {H H' : Hp} {T h : Addr} {k n : Nat} {r : Str} {lo hi : Option Q2}
theorem ChartAt.same (c : ChartAt H T k r lo hi) (s : Same H H') : ChartAt H' T k r lo hi := by
  obtain ⟨⟨u, w, h1, h2, h3⟩, h4, h5⟩ := c
  exact ⟨⟨u, w, s _ _ h1, h2.same s, h3.same s⟩, h4, h5⟩
theorem ChartAt.kp (c : ChartAt H T k r lo hi) (hh : HandAt H h n) (s : Kp h H H') : ChartAt H' T k r lo hi := by
  obtain ⟨⟨u, w, h1, h2, h3⟩, h4, h5⟩ := c
  exact ⟨⟨u, w, s.get hh h1 rfl, h2.kp hh s, h3.kp hh s⟩, h4, h5⟩
theorem ChartAt.u {u : HO} {b : Addr} (np : H b = none) (c : ChartAt H T k r lo hi) : ChartAt (upd H b u) T k r lo hi := c.same (same1 np)
theorem ChartAt.s (s : Same H H') (c : ChartAt H T k r lo hi) : ChartAt H' T k r lo hi := c.same s
end
theorem midq_pos : ∀ {zs : List Q2}, (∀ z ∈ zs, 0 < z.2) → ∀ z ∈ midq zs, 0 < z.2
  | [], _, z, hz => by simp [midq] at hz
  | [_], _, z, hz => by simp [midq] at hz
  | a :: b :: r, hp, z, hz => by
    have hz' : z ∈ qhalf a b :: midq (b :: r) := hz
    rcases List.mem_cons.mp hz' with e | e
    · rw [e, qhalf_eq]
      have := hp a (by simp)
      have := hp b (by simp)
      have := Int.mul_pos (hp a (by simp)) (hp b (by simp))
      show 0 < a.2 * b.2 * 2
      omega
    · exact midq_pos (fun y hy => hp y (by simp [hy])) z e
/-- a pair of sizes, or None -/
def OwnV (H : Hp) (v : V) : Option (Nat × Nat) → Prop
  | none => v = .non
  | some x => ∃ T, v = .ref T ∧ H T = some (.tup [.int (x.1 : Int), .int (x.2 : Int)])
theorem OwnV.s {H H' : Hp} {v : V} (s : Same H H') : ∀ {o : Option (Nat × Nat)}, OwnV H v o → OwnV H' v o
  | none, h => h
  | some _, ⟨T, h1, h2⟩ => ⟨T, h1, s _ _ h2⟩
theorem OwnV.alike {K : PySem.W.Frag} {H : Hp} {v w : V} : ∀ {o : Option (Nat × Nat)}, OwnV H v o → OwnV H w o → SameV K H 1 v w
  | none, h, g => by
    cases h; cases g
    exact SameV.atom (.inr (.inr (.inl rfl))) 1
  | some x, ⟨T, h1, h2⟩, ⟨T', g1, g2⟩ => by
    subst h1 g1
    exact SameV.ints (ss := [(x.1 : Int), (x.2 : Int)]) 0 (SqT.of h2) (SqT.of g2) (Nat.le_of_ble_eq_true rfl)
/-! ### the numbers of the marks, first and last -/
end My
namespace My
open PySem PySem.Spec PyProof.Rows L2
/-! ### cuts of three stretches -/
theorem lt_w {x y w : Int} (hw : 0 < w) : x < y ↔ x * w < y * w := ⟨fun h => Int.mul_lt_mul_of_pos_right h hw, fun h => Int.lt_of_mul_lt_mul_right h (Int.le_of_lt hw)⟩
theorem eq_w {x y w : Int} (hw : 0 < w) : x = y ↔ x * w = y * w := ⟨fun h => by rw [h], fun h => Int.eq_of_mul_eq_mul_right (by omega) h⟩
/-- three fractions by three whole numbers -/
structure Ord3 (a b c : Q2) (A B C : Int) : Prop where
  ab : ltq a b = decide (A < B)
  ba : ltq b a = decide (B < A)
  eab : eqq a b = decide (A = B)
  eba : eqq b a = decide (B = A)
  bc : ltq b c = decide (B < C)
  cb : ltq c b = decide (C < B)
  ebc : eqq b c = decide (B = C)
  ecb : eqq c b = decide (C = B)
  ac : ltq a c = decide (A < C)
  ca : ltq c a = decide (C < A)
  eac : eqq a c = decide (A = C)
  eca : eqq c a = decide (C = A)
theorem ltw {a b : Q2} {w : Int} (hw : 0 < w) {A B : Int} (h1 : A = a.1 * b.2 * w) (h2 : B = b.1 * a.2 * w) : ltq a b = decide (A < B) := by
  unfold ltq; rw [h1, h2]; exact decide_eq_decide.mpr (lt_w hw)
theorem eqw {a b : Q2} {w : Int} (hw : 0 < w) {A B : Int} (h1 : A = a.1 * b.2 * w) (h2 : B = b.1 * a.2 * w) : eqq a b = decide (A = B) := by
  unfold eqq; rw [h1, h2]; exact decide_eq_decide.mpr (eq_w hw)
theorem ord3 {a b c : Q2} (ha : 0 < a.2) (hb : 0 < b.2) (hc : 0 < c.2) : Ord3 a b c (a.1 * b.2 * c.2) (b.1 * a.2 * c.2) (c.1 * a.2 * b.2) := by
  have z1 : b.1 * a.2 * c.2 = b.1 * c.2 * a.2 := by rw [Int.mul_assoc, Int.mul_comm a.2, Int.mul_assoc]
  have z2 : c.1 * a.2 * b.2 = c.1 * b.2 * a.2 := by rw [Int.mul_assoc, Int.mul_comm a.2, Int.mul_assoc]
  have z3 : a.1 * b.2 * c.2 = a.1 * c.2 * b.2 := by rw [Int.mul_assoc, Int.mul_comm b.2, Int.mul_assoc]
  exact ⟨ltw hc rfl rfl, ltw hc rfl rfl, eqw hc rfl rfl, eqw hc rfl rfl, ltw ha z1 z2, ltw ha z2 z1, eqw ha z1 z2, eqw ha z2 z1, ltw hb z3 rfl, ltw hb rfl z3, eqw hb z3 rfl, eqw hb rfl z3⟩
theorem Alike.of {x y : Q2} {i j : Bool} (h : Re x y) (e : i = j) : Alike (some x, i) (some y, j) := ⟨h, fun _ => e⟩
theorem Alike.refl {x : Option Q2 × Bool} (h : PosO x.1) : Alike x x := ⟨ReO.refl h, fun _ => rfl⟩
theorem Alike.symm {x y : Option Q2 × Bool} (h : Alike x y) : Alike y x := ⟨h.1.symm, fun e => (h.2 (by rw [h.1.isS]; exact e)).symm⟩

theorem cutLo_noneR {x : Option Q2 × Bool} {j : Bool} (h : PosO x.1) : Alike (cutLo x.1 x.2 none j) x := by
  obtain ⟨x, i⟩ := x
  cases x with
  | none => exact ⟨trivial, fun e => nomatch e⟩
  | some a => exact Alike.refl h
theorem cutLo_pos {a b : Option Q2} {i j : Bool} (ha : PosO a) (hb : PosO b) : PosO (cutLo a i b j).1 := by
  cases a with
  | none => exact hb
  | some a => cases b with
    | none => exact ha
    | some b =>
      show PosO (if ltq a b then (some b, j) else if eqq a b then (some a, i && j) else (some a, i)).1
      split
      · exact hb
      · split <;> exact ha
theorem cutHi_noneR {x : Option Q2 × Bool} {j : Bool} (h : PosO x.1) : Alike (cutHi x.1 x.2 none j) x := by
  obtain ⟨x, i⟩ := x
  cases x with
  | none => exact ⟨trivial, fun e => nomatch e⟩
  | some a => exact Alike.refl h
theorem cutHi_pos {a b : Option Q2} {i j : Bool} (ha : PosO a) (hb : PosO b) : PosO (cutHi a i b j).1 := by
  cases a with
  | none => exact hb
  | some a => cases b with
    | none => exact ha
    | some b =>
      show PosO (if ltq b a then (some b, j) else if eqq a b then (some a, i && j) else (some a, i)).1
      split
      · exact hb
      · split <;> exact ha
theorem in_some {lo hi : Option Q2} {li hj : Bool} {x : Q2} (h1 : PosO lo) (h2 : PosO hi) (hx : 0 < x.2) (a : loIn lo li x = true) (b : hiIn hi hj x = true) : someB lo hi li hj = true := by
  cases lo with
  | none => rfl
  | some l =>
    cases hi with
    | none => rfl
    | some h =>
      have o := ord3 (a := l) (b := h) (c := x) h1 h2 hx
      revert o
      generalize l.1 * h.2 * x.2 = A
      generalize h.1 * l.2 * x.2 = B
      generalize x.1 * l.2 * h.2 = C
      intro o
      have a : (ltq l x || (li && eqq l x)) = true := a
      have b : (ltq x h || (hj && eqq x h)) = true := b
      show (ltq l h || (eqq l h && li && hj)) = true
      rw [o.ac, o.eac] at a
      rw [o.cb, o.ecb] at b
      rw [o.ab, o.eab]
      simp only [Bool.or_eq_true, Bool.and_eq_true, decide_eq_true_eq] at a b ⊢
      rcases a with a | ⟨a1, a2⟩ <;> rcases b with b | ⟨b1, b2⟩
      · exact .inl (by omega)
      · exact .inl (by omega)
      · exact .inl (by omega)
      · exact .inr ⟨⟨by omega, a1⟩, b1⟩
theorem some_in {lo hi : Option Q2} {li hj : Bool} (h1 : PosO lo) (h2 : PosO hi) (h : someB lo hi li hj = true) : ∃ x : Q2, 0 < x.2 ∧ loIn lo li x = true ∧ hiIn hi hj x = true := by
  cases lo with
  | none =>
    cases hi with
    | none => exact ⟨(0, 1), by decide, rfl, rfl⟩
    | some b =>
      have h2 : 0 < b.2 := h2
      refine ⟨(b.1 - b.2, b.2), h2, rfl, ?_⟩
      show (ltq (b.1 - b.2, b.2) b || (hj && eqq (b.1 - b.2, b.2) b)) = true
      have : ltq (b.1 - b.2, b.2) b = true := by
        unfold ltq
        exact decide_eq_true ((lt_w h2).mp (by omega))
      rw [this]; rfl
  | some a =>
    have h1 : 0 < a.2 := h1
    cases hi with
    | none =>
      refine ⟨(a.1 + a.2, a.2), h1, ?_, rfl⟩
      show (ltq a (a.1 + a.2, a.2) || (li && eqq a (a.1 + a.2, a.2))) = true
      have : ltq a (a.1 + a.2, a.2) = true := by
        unfold ltq
        exact decide_eq_true ((lt_w h1).mp (by omega))
      rw [this]; rfl
    | some b =>
      have h2 : 0 < b.2 := h2
      have h : (ltq a b || (eqq a b && li && hj)) = true := h
      simp only [Bool.or_eq_true, Bool.and_eq_true] at h
      rcases h with h | ⟨⟨h, e1⟩, e2⟩
      · have h0 : a.1 * b.2 < b.1 * a.2 := of_decide_eq_true h
        have p2 : 0 < a.2 * b.2 := Int.mul_pos h1 h2
        refine ⟨(a.1 * b.2 + b.1 * a.2, 2 * (a.2 * b.2)), by show 0 < 2 * (a.2 * b.2); omega, ?_, ?_⟩
        · show (ltq a _ || (li && eqq a _)) = true
          have : ltq a (a.1 * b.2 + b.1 * a.2, 2 * (a.2 * b.2)) = true := by
            unfold ltq
            refine decide_eq_true ?_
            show a.1 * (2 * (a.2 * b.2)) < (a.1 * b.2 + b.1 * a.2) * a.2
            have e1 : a.1 * (2 * (a.2 * b.2)) = (2 * (a.1 * b.2)) * a.2 := by grind
            rw [e1]
            exact (lt_w h1).mp (by omega)
          rw [this]; rfl
        · show (ltq _ b || (hj && eqq _ b)) = true
          have : ltq (a.1 * b.2 + b.1 * a.2, 2 * (a.2 * b.2)) b = true := by
            unfold ltq
            refine decide_eq_true ?_
            show (a.1 * b.2 + b.1 * a.2) * b.2 < b.1 * (2 * (a.2 * b.2))
            have e1 : b.1 * (2 * (a.2 * b.2)) = (2 * (b.1 * a.2)) * b.2 := by grind
            rw [e1]
            exact (lt_w h2).mp (by omega)
          rw [this]; rfl
      · refine ⟨a, h1, ?_, ?_⟩
        · show (ltq a a || (li && eqq a a)) = true
          rw [e1, eqq_self]; simp
        · show (ltq a b || (hj && eqq a b)) = true
          rw [e2, h]; simp
theorem alike_eq {x y : Option Q2 × Bool} (h : Alike x y) (l1 : LowO x.1) (l2 : LowO y.1) : x.1 = y.1 := by
  obtain ⟨x, i⟩ := x
  obtain ⟨y, j⟩ := y
  obtain ⟨h, _⟩ := h
  cases x with
  | none => cases y with
    | none => rfl
    | some _ => exact h.elim
  | some a => cases y with
    | none => exact h.elim
    | some b =>
      show some a = some b
      rw [low_eq l1 l2 h.2.2]
/-- two that are told alike: None both, or Stretches of the same ends -/
theorem cutV_two {CM CS : Addr} {H : Hp} {v w : V} {x y z t : Option Q2 × Bool} (c : CutV CM CS H v x z) (d : CutV CM CS H w y t) (h1 : Alike x y) (h2 : Alike z t) :
    (someB x.1 z.1 x.2 z.2 = false ∧ v = .non ∧ w = .non) ∨ (someB x.1 z.1 x.2 z.2 = true ∧ ∃ p q, v = .ref p ∧ w = .ref q ∧ StAt CM CS H p x.1 z.1 (x.2 && x.1.isSome) (z.2 && z.1.isSome) ∧ StAt CM CS H q x.1 z.1 (x.2 && x.1.isSome) (z.2 && z.1.isSome)) := by
  have e := h1.someB h2
  rcases c with ⟨c1, p, rfl, sp⟩ | ⟨c1, rfl⟩
  · rcases d with ⟨d1, q, rfl, sq⟩ | ⟨d1, rfl⟩
    · refine .inr ⟨c1, p, q, rfl, rfl, sp, ?_⟩
      rw [h1.flag, h2.flag, alike_eq h1 sp.l1 sq.l1, alike_eq h2 sp.l2 sq.l2]
      exact sq
    · rw [c1, d1] at e; cases e
  · rcases d with ⟨d1, q, rfl, sq⟩ | ⟨d1, rfl⟩
    · rw [c1, d1] at e; cases e
    · exact .inl ⟨c1, rfl, rfl⟩
/-- a Measure whose numbers are not too great -/
def PtM (CM : Addr) (H : Hp) (y : V) : Prop := ∃ (q : Addr) (x : Q2), y = .ref q ∧ MAt CM H q x.1 x.2 ∧ 0 < x.2 ∧ Sz 20000 x.1 ∧ Sz 20000 x.2
theorem PtM.nl {CM : Addr} {H H' : Hp} {y : V} (h : PtM CM H y) (s : Nl H H') : PtM CM H' y := by
  obtain ⟨q, x, e, ⟨d, m⟩, r⟩ := h
  exact ⟨q, x, e, ⟨d, s _ _ m rfl⟩, r⟩
theorem PtM.same {CM : Addr} {H H' : Hp} {y : V} (h : PtM CM H y) (s : Same H H') : PtM CM H' y := h.nl (Nl.of s)
end My
namespace My
open PySem PySem.Spec PyProof.Rows L2
/-! ### which measures a size's stretch holds -/
theorem loIn_t (a x : Q2) : loIn (some a) true x = leq a x := by
  show (ltq a x || (true && eqq a x)) = (ltq a x || eqq a x)
  rw [Bool.true_and]
theorem loIn_f (a x : Q2) : loIn (some a) false x = ltq a x := by
  show (ltq a x || (false && eqq a x)) = ltq a x
  rw [Bool.false_and, Bool.or_false]
theorem hiIn_t (a x : Q2) : hiIn (some a) true x = !ltq a x := by
  show (ltq x a || (true && eqq x a)) = _
  rw [Bool.true_and]
  exact leq_not
theorem hiIn_f (a x : Q2) : hiIn (some a) false x = !leq a x := by
  show (ltq x a || (false && eqq x a)) = _
  rw [Bool.false_and, Bool.or_false, leq_not (a := a), Bool.not_not]
/-- what comes to a size by the rule alone -/
def rulIn (zs : List Q2) (r : Str) (n : Nat) (x : Q2) : Bool := loIn (rulE zs r n).1.1 (rulE zs r n).1.2 x && hiIn (rulE zs r n).2.1 (rulE zs r n).2.2 x
theorem rul_in {zs : List Q2} {r : Str} {n : Nat} {x : Q2} (hr : RiseQ zs) (hp : PosL zs) (hx : 0 < x.2) (hn : n < zs.length) : rulIn zs r n x = true ↔ sizeR zs r x = (n : Int) := by
  unfold rulIn rulE sizeR
  by_cases e1 : r = "up"
  · rw [if_pos e1, if_pos e1]
    obtain ⟨a, ha⟩ := ge2 hn
    have c := cntQ (fun a => ltq a x) (down_lt hr hp hx)
    have ca := c n a ha
    show (loIn (endQ zs ((n : Int) - 1)) false x && hiIn zs[n]? true x) = true ↔ _
    rw [ha, hiIn_t]
    cases n with
    | zero =>
      rw [endQ_none (by omega)]
      show (true && !ltq a x) = true ↔ _
      cases e : ltq a x <;> simp [e] at ca ⊢ <;> omega
    | succ n =>
      obtain ⟨b, hb⟩ := ge2 (zs := zs) (n := n) (by omega)
      have cb := c n b hb
      rw [endQ_in (n := n) (by omega), hb, loIn_f]
      cases e : ltq a x <;> cases e2 : ltq b x <;> simp [e, e2] at ca cb ⊢ <;> omega
  · rw [if_neg e1, if_neg e1]
    by_cases e2 : r = "down"
    · rw [if_pos e2, if_pos e2]
      obtain ⟨a, ha⟩ := ge2 hn
      have c := cntQ (fun a => leq a x) (down_le hr hp hx)
      have ca := c n a ha
      have cl : zs.countP (fun a => leq a x) ≤ zs.length := List.countP_le_length
      show (loIn zs[n]? true x && hiIn (endQ zs ((n : Int) + 1)) false x) = true ↔ _
      rw [ha, loIn_t, endQ_in (n := n + 1) (by omega)]
      cases hb : zs[n + 1]? with
      | none =>
        have := List.getElem?_eq_none_iff.mp hb
        show (leq a x && true) = true ↔ _
        cases e : leq a x <;> simp [e] at ca ⊢ <;> omega
      | some b =>
        have cb := c (n + 1) b hb
        rw [hiIn_f]
        cases e : leq a x <;> cases e3 : leq b x <;> simp [e, e3] at ca cb ⊢ <;> omega
    · rw [if_neg e2, if_neg e2]
      have hm := midq_rise hr hp
      have hpm : PosL (midq zs) := midq_pos hp
      have c := cntQ (fun a => leq a x) (down_le hm hpm hx)
      have cl : (midq zs).countP (fun a => leq a x) ≤ (midq zs).length := List.countP_le_length
      have ml := midq_len zs
      show (loIn (endQ (midq zs) ((n : Int) - 1)) true x && hiIn (endQ (midq zs) n) false x) = true ↔ _
      rw [endQ_in (i := (n : Int)) (n := n) rfl]
      have lo : loIn (endQ (midq zs) ((n : Int) - 1)) true x = true ↔ n ≤ (midq zs).countP (fun a => leq a x) := by
        cases n with
        | zero =>
          rw [endQ_none (by omega)]
          exact ⟨fun _ => by omega, fun _ => rfl⟩
        | succ n =>
          obtain ⟨b, hb⟩ := ge2 (zs := midq zs) (n := n) (by omega)
          rw [endQ_in (n := n) (by omega), hb, loIn_t]
          exact c n b hb
      have hi : hiIn (midq zs)[n]? false x = true ↔ (midq zs).countP (fun a => leq a x) ≤ n := by
        cases hb : (midq zs)[n]? with
        | none =>
          have := List.getElem?_eq_none_iff.mp hb
          exact ⟨fun _ => by omega, fun _ => rfl⟩
        | some b =>
          have cb := c n b hb
          rw [hiIn_f]
          cases e3 : leq b x <;> simp [e3] at cb ⊢ <;> omega
      rw [Bool.and_eq_true, lo, hi]
      omega
theorem loIn_ok (lo : Option Q2) (x : Q2) : loIn lo true x = loOk lo x := by
  cases lo with
  | none => rfl
  | some a => rw [loIn_t, leq_not]; rfl
theorem hiIn_ok (hi : Option Q2) (x : Q2) : hiIn hi true x = hiOk hi x := by
  cases hi with
  | none => rfl
  | some a => rw [hiIn_t]; rfl
/-- what is in a size's stretch -/
def sizIn (zs : List Q2) (r : Str) (lo hi : Option Q2) (n : Nat) (x : Q2) : Bool := loIn (sizE zs r lo hi n).1.1 (sizE zs r lo hi n).1.2 x && hiIn (sizE zs r lo hi n).2.1 (sizE zs r lo hi n).2.2 x
/-- whether there is such a stretch -/
def sizB (zs : List Q2) (r : Str) (lo hi : Option Q2) (n : Nat) : Bool := someB (sizE zs r lo hi n).1.1 (sizE zs r lo hi n).2.1 (sizE zs r lo hi n).1.2 (sizE zs r lo hi n).2.2
structure LadQ (zs : List Q2) (r : Str) (lo hi : Option Q2) : Prop where
  rise : RiseQ zs
  pos : PosL zs
  plo : PosO lo
  phi : PosO hi
  span : spanB lo hi = true
theorem endQ_pos {zs : List Q2} (hp : PosL zs) (i : Int) : PosO (endQ zs i) := by
  unfold endQ
  split
  · cases e : zs[i.toNat]? with
    | none => trivial
    | some a => exact hp a (List.mem_of_getElem? e)
  · trivial
theorem getQ_pos {zs : List Q2} (hp : PosL zs) (i : Nat) : PosO zs[i]? := by
  cases e : zs[i]? with
  | none => trivial
  | some a => exact hp a (List.mem_of_getElem? e)
theorem rulE_pos {zs : List Q2} {r : Str} {n : Nat} (hp : PosL zs) : PosO (rulE zs r n).1.1 ∧ PosO (rulE zs r n).2.1 := by
  unfold rulE
  split
  · exact ⟨endQ_pos hp _, getQ_pos hp _⟩
  · split
    · exact ⟨getQ_pos hp _, endQ_pos hp _⟩
    · exact ⟨endQ_pos (midq_pos hp) _, endQ_pos (midq_pos hp) _⟩
theorem siz_in {zs : List Q2} {r : Str} {lo hi : Option Q2} {n : Nat} {x : Q2} (L : LadQ zs r lo hi) (hx : 0 < x.2) (hn : n < zs.length) : sizIn zs r lo hi n x = true ↔ sizeQ zs r lo hi x = some n := by
  have p := rulE_pos (r := r) (n := n) L.pos
  have a1 := cutLo_in (i := (rulE zs r n).1.2) (j := true) p.1 L.plo hx
  have a2 := cutHi_in (i := (rulE zs r n).2.2) (j := true) p.2 L.phi hx
  have e : sizIn zs r lo hi n x = (rulIn zs r n x && inO lo hi x) := by
    show (loIn (cutLo _ _ lo true).1 (cutLo _ _ lo true).2 x && hiIn (cutHi _ _ hi true).1 (cutHi _ _ hi true).2 x) = _
    rw [a1, a2, loIn_ok, hiIn_ok]
    unfold rulIn inO
    cases loIn (rulE zs r n).1.1 (rulE zs r n).1.2 x <;> cases loOk lo x <;> cases hiIn (rulE zs r n).2.1 (rulE zs r n).2.2 x <;> rfl
  rw [e, Bool.and_eq_true, rul_in L.rise L.pos hx hn]
  unfold sizeQ
  by_cases h : inO lo hi x = true
  · rw [if_pos h]
    constructor
    · rintro ⟨h1, _⟩
      rw [h1, if_pos (by omega)]
      rfl
    · intro q
      split at q
      · next c =>
        refine ⟨?_, h⟩
        have := Option.some.inj q
        omega
      · cases q
  · rw [if_neg h]
    constructor
    · rintro ⟨_, h2⟩; exact absurd h2 h
    · intro q; cases q
theorem sizE_pos {zs : List Q2} {r : Str} {lo hi : Option Q2} {n : Nat} (L : LadQ zs r lo hi) : PosO (sizE zs r lo hi n).1.1 ∧ PosO (sizE zs r lo hi n).2.1 :=
  ⟨cutLo_pos (rulE_pos L.pos).1 L.plo, cutHi_pos (rulE_pos L.pos).2 L.phi⟩
/-- there is a measure of that size just where its stretch is told -/
theorem siz_some {zs : List Q2} {r : Str} {lo hi : Option Q2} {n : Nat} (L : LadQ zs r lo hi) : sizB zs r lo hi n = true ↔ ∃ x : Q2, 0 < x.2 ∧ sizIn zs r lo hi n x = true := by
  have p := sizE_pos (n := n) L
  constructor
  · intro h
    obtain ⟨x, hx, a, b⟩ := some_in p.1 p.2 h
    exact ⟨x, hx, by unfold sizIn; rw [a, b]; rfl⟩
  · rintro ⟨x, hx, h⟩
    unfold sizIn at h
    rw [Bool.and_eq_true] at h
    exact in_some p.1 p.2 hx h.1 h.2
theorem rul_some {zs : List Q2} {r : Str} {n : Nat} (hr : RiseQ zs) (hp : PosL zs) : someB (rulE zs r n).1.1 (rulE zs r n).2.1 (rulE zs r n).1.2 (rulE zs r n).2.2 = true := by
  unfold rulE
  split
  · exact some_up hr
  · split
    · exact some_dn hr
    · exact some_nr (midq_rise hr hp)
end My
namespace My
open PySem PySem.Spec PyProof.Rows L2
/-! ### lists of numbers -/
theorem rep_any (n : Nat) : (List.replicate n false).any _root_.id = false := by
  induction n with
  | zero => rfl
  | succ n ih => rw [List.replicate_succ]; simpa using ih
/-! ### the sizes that fit some feet -/
structure FitsL (H : Hp) (D : Addr) (ls : List (List Int)) : Prop where
  ob : ∃ ts : List V, H D = some (.lst ts) ∧ ts.length = ls.length ∧ ∀ (i : Nat) (v : V) (l : List Int), ts[i]? = some v → ls[i]? = some l → ∃ T, v = .ref T ∧ H T = some (.tup (l.map V.int))
theorem FitsL.same {H H' : Hp} {D : Addr} {ls : List (List Int)} (a : FitsL H D ls) (s : Same H H') : FitsL H' D ls := by
  obtain ⟨ts, h1, h2, h3⟩ := a.ob
  refine ⟨ts, s _ _ h1, h2, fun i v l e1 e2 => ?_⟩
  obtain ⟨T, e, h⟩ := h3 i v l e1 e2
  exact ⟨T, e, s _ _ h⟩
theorem FitsL.at {H : Hp} {D : Addr} {ls : List (List Int)} {ts : List V} (h2 : ts.length = ls.length) (h3 : ∀ (i : Nat) (v : V) (l : List Int), ts[i]? = some v → ls[i]? = some l → ∃ T, v = .ref T ∧ H T = some (.tup (l.map V.int))) {i : Nat} {l : List Int} (h : ls[i]? = some l) : ∃ T, ts[i]? = some (.ref T) ∧ H T = some (.tup (l.map V.int)) := by
  have hi : i < ts.length := by rw [h2]; exact (List.getElem?_eq_some_iff.mp h).1
  obtain ⟨T, e, k⟩ := h3 i _ l (List.getElem?_eq_getElem hi) h
  exact ⟨T, by rw [List.getElem?_eq_getElem hi, e], k⟩
/-- the first one of which there is none -/
def BareAt (ls : List (List Int)) : Option Nat → Prop
  | none => ∀ l ∈ ls, l ≠ []
  | some n => ls[n]? = some [] ∧ ∀ j l, j < n → ls[j]? = some l → l ≠ []
theorem BareAt.uniq {ls : List (List Int)} : ∀ {o o' : Option Nat}, BareAt ls o → BareAt ls o' → o = o'
  | none, none, _, _ => rfl
  | none, some n, h, g => absurd rfl (h _ (List.mem_of_getElem? g.1))
  | some n, none, h, g => absurd rfl (g _ (List.mem_of_getElem? h.1))
  | some n, some m, h, g => by
    rcases Nat.lt_trichotomy n m with q | q | q
    · exact absurd rfl (g.2 n _ q h.1)
    · rw [q]
    · exact absurd rfl (h.2 m _ q g.1)
def firstI (ls : List (List Int)) (a : Int) : Int := ((ls.getD a.toNat []).head?).getD 0
def lastI (ls : List (List Int)) (a : Int) : Int := ((ls.getD a.toNat []).getLast?).getD 0
/-- runs: none is bare, each begins no later than it ends -/
def RunsI (ls : List (List Int)) : Prop := ∀ i : Nat, i < ls.length → ls.getD i [] ≠ [] ∧ firstI ls i ≤ lastI ls i
structure GInv (ls : List (List Int)) (done : List (Int × Int)) (ss as : List Int) : Prop where
  len : ss.length = as.length
  hits : ∀ q ∈ done, ∃ s ∈ ss, firstI ls q.2 ≤ s ∧ s ≤ q.1
  own : ∀ (j : Nat) (s a : Int), ss[j]? = some s → as[j]? = some a → (s, a) ∈ done
  ap : ∀ (j j' : Nat) (s a : Int), j < j' → ss[j]? = some s → as[j']? = some a → s < firstI ls a
theorem GInv.nil {ls : List (List Int)} : GInv ls [] [] [] := ⟨rfl, fun q h => by simp at h, fun j s a h => by simp at h, fun j j' s a _ h => by simp at h⟩
/-- the pairs of last sizes and numbers -/
structure PairsOf (ls : List (List Int)) (ps : List (Int × Int)) : Prop where
  perm : ps.Perm ((List.range ls.length).map fun i : Nat => (lastI ls i, (i : Int)))
  srt : ∀ (i j : Nat) (p q : Int × Int), i < j → ps[i]? = some p → ps[j]? = some q → p.1 ≤ q.1
theorem PairsOf.mem {ls : List (List Int)} {ps : List (Int × Int)} (h : PairsOf ls ps) {q : Int × Int} : q ∈ ps ↔ ∃ i : Nat, i < ls.length ∧ q = (lastI ls i, (i : Int)) := by
  rw [h.perm.mem_iff, List.mem_map]
  constructor
  · rintro ⟨i, hi, e⟩; exact ⟨i, List.mem_range.mp hi, e.symm⟩
  · rintro ⟨i, hi, e⟩; exact ⟨i, List.mem_range.mpr hi, e.symm⟩
theorem GInv.rise {ls : List (List Int)} {ps : List (Int × Int)} {k : Nat} {ss as : List Int} (P : PairsOf ls ps) (R : RunsI ls) (g : GInv ls (ps.take k) ss as) : ∀ (j j' : Nat) (s s' : Int), j < j' → ss[j]? = some s → ss[j']? = some s' → s < s' := fun j j' s s' hj h h' => by
  have l := (List.getElem?_eq_some_iff.mp h').1
  obtain ⟨a', ha'⟩ := geI (zs := as) (n := j') (by rw [← g.len]; exact l)
  have h1 := g.ap j j' s a' hj h ha'
  have h2 := g.own j' s' a' h' ha'
  obtain ⟨i, hi, e⟩ := P.mem.mp (List.mem_of_mem_take h2)
  obtain ⟨rfl, rfl⟩ := Prod.mk.inj e
  have := (R i hi).2
  omega
theorem GInv.take {ls : List (List Int)} {ps : List (Int × Int)} {k : Nat} {ss as : List Int} {b n : Int} (P : PairsOf ls ps) (R : RunsI ls) (hk : ps[k]? = some (b, n)) (g : GInv ls (ps.take k) ss as) (h : ∀ s, ss.getLast? = some s → s < firstI ls n) : GInv ls (ps.take (k + 1)) (ss ++ [b]) (as ++ [n]) := by
  have e : ps.take (k + 1) = ps.take k ++ [(b, n)] := by rw [List.take_add_one, hk]; rfl
  obtain ⟨i, hi, ei⟩ := P.mem.mp (List.mem_of_getElem? hk)
  obtain ⟨rfl, rfl⟩ := Prod.mk.inj ei
  refine ⟨by rw [List.length_append, List.length_append, g.len]; rfl, fun q hq => ?_, fun j s' a h1 h2 => ?_, fun j j' s' a hj h1 h2 => ?_⟩
  · rw [e] at hq
    rcases List.mem_append.mp hq with hq | hq
    · obtain ⟨s, hs, q1⟩ := g.hits q hq
      exact ⟨s, List.mem_append.mpr (.inl hs), q1⟩
    · have : q = (lastI ls (i : Int), (i : Int)) := by simpa using hq
      subst this
      exact ⟨lastI ls i, by simp, (R i hi).2, Int.le_refl _⟩
  · rw [e]
    by_cases hlt : j < ss.length
    · rw [List.getElem?_append_left hlt] at h1
      rw [List.getElem?_append_left (by rw [← g.len]; exact hlt)] at h2
      exact List.mem_append.mpr (.inl (g.own j s' a h1 h2))
    · have l1 := (List.getElem?_eq_some_iff.mp h1).1
      rw [List.length_append, List.length_singleton] at l1
      have ej : j = ss.length := by omega
      rw [ej, List.getElem?_append_right (Nat.le_refl _), Nat.sub_self] at h1
      rw [ej, g.len, List.getElem?_append_right (Nat.le_refl _), Nat.sub_self] at h2
      have h1 : lastI ls i = s' := by simpa using h1
      have h2 : (i : Int) = a := by simpa using h2
      rw [← h1, ← h2]
      simp
  · have l2 := (List.getElem?_eq_some_iff.mp h2).1
    rw [List.length_append, List.length_singleton, ← g.len] at l2
    have h1' : ss[j]? = some s' := by
      rw [List.getElem?_append_left (by omega)] at h1; exact h1
    by_cases hlt : j' < ss.length
    · rw [List.getElem?_append_left (by rw [← g.len]; exact hlt)] at h2
      exact g.ap j j' s' a hj h1' h2
    · have ej : j' = ss.length := by omega
      rw [ej, g.len, List.getElem?_append_right (Nat.le_refl _), Nat.sub_self] at h2
      have h2 : (i : Int) = a := by simpa using h2
      rw [← h2]
      have hs : ss[ss.length - 1]? = ss.getLast? := List.getLast?_eq_getElem?.symm
      obtain ⟨s, hs2⟩ := geI (zs := ss) (n := ss.length - 1) (by omega)
      have hlast := h s (by rw [← hs]; exact hs2)
      by_cases q : j = ss.length - 1
      · rw [q, hs2] at h1'
        cases h1'
        exact hlast
      · have := g.rise P R j (ss.length - 1) s' s (by omega) h1' hs2
        omega
/-! ### tuples of the heap: sums and slices -/
section
variable {X : Cx}
def rCatH : R2 := fun x y H Q => ∃ (a b : Addr) (xs ys : List V), x = .ref a ∧ y = .ref b ∧ H a = some (.tup xs) ∧ H b = some (.tup ys) ∧ xs.length + ys.length ≤ sizeLine ∧ ∀ (p : Addr) (H' : Hp), Same H H' → H' p = some (.tup (xs ++ ys)) → Q (.ref p) H'
theorem catH : OpR X (binaryOp .Add) rCatH := by
  intro pins s σ H x y v u Q I rx ry h
  obtain ⟨a, b, xs, ys, e1, e2, ha, hb, hz, q⟩ := h
  refine op_catA pins s σ H x y v u Q I rx ry ⟨a, b, xs, ys, e1, e2, SqT.of ha, SqT.of hb, hz, fun e => q b H (Same.refl _) ?_, fun _ e => q a H (Same.refl _) ?_, fun _ _ p np => q p _ (same1 np) upd_same⟩
  · rw [e]; exact hb
  · rw [e, List.append_nil]; exact ha
def rSlH : V → Option Int → Option Int → Hp → VK → Prop := fun x lo hi H Q => ∃ (a : Addr) (xs : List V), x = .ref a ∧ H a = some (.tup xs) ∧ ∀ (p : Addr) (H' : Hp), Same H H' → H' p = some (.tup (cutV xs lo hi)) → Q (.ref p) H'
theorem slH : SlR X rSlH := by
  intro pins s σ H x v vl vu lo hi sl Q I rx hs pl pu h
  obtain ⟨a, xs, e1, hx, q⟩ := h
  refine sl_tupA pins s σ H x v vl vu lo hi sl Q I rx hs pl pu ⟨a, xs, e1, SqT.of hx, fun e => q a H (Same.refl _) ?_, fun _ p np => q p _ (same1 np) upd_same⟩
  have e2 : cutV xs lo hi = xs := by
    unfold cutV
    rw [e.1, e.2, List.drop_zero, Nat.sub_zero, List.take_length]
  rw [e2]
  exact hx
end
/-! ### fractions as rational numbers -/
def toR (z : Q2) : Rat := (z.1 : Rat) / (z.2 : Rat)
theorem posR {n : Int} (h : 0 < n) : (0 : Rat) < (n : Rat) := by
  have := Rat.intCast_lt_intCast.mpr h
  simpa using this
section
variable {a b z w x y : Q2}
theorem div_ltR {a b c d : Int} (hb : 0 < b) (hd : 0 < d) : ((a : Rat) / b < (c : Rat) / d) ↔ (a : Rat) * d < c * b := by
  have hb := posR hb
  have hd := posR hd
  constructor
  · intro h
    have e1 : (a : Rat) * d = (a / b) * (b * d) := by grind
    have e2 : (c : Rat) * b = (c / d) * (b * d) := by grind
    rw [e1, e2]
    exact Rat.mul_lt_mul_of_pos_right h (Rat.mul_pos hb hd)
  · intro h
    by_cases g : (c : Rat) / d ≤ (a : Rat) / b
    · have := Rat.mul_le_mul_of_nonneg_right g (Rat.le_of_lt (Rat.mul_pos hb hd))
      have e1 : (a : Rat) * d = (a / b) * (b * d) := by grind
      have e2 : (c : Rat) * b = (c / d) * (b * d) := by grind
      grind
    · grind
theorem ltq_R (ha : 0 < a.2) (hb : 0 < b.2) : ltq a b = true ↔ toR a < toR b := by
  unfold toR
  rw [div_ltR ha hb]
  unfold ltq
  rw [decide_eq_true_iff, ← Rat.intCast_mul, ← Rat.intCast_mul, Rat.intCast_lt_intCast]
theorem leq_R (ha : 0 < a.2) (hb : 0 < b.2) : leq a b = true ↔ toR a ≤ toR b := by
  rw [leq_not]
  cases e : ltq b a with
  | true =>
    have := (ltq_R hb ha).mp e
    constructor
    · intro h; simp at h
    · intro h; grind
  | false =>
    have : ¬ toR b < toR a := fun q => by rw [(ltq_R hb ha).mpr q] at e; cases e
    constructor
    · intro _; grind
    · intro _; rfl
theorem re_R (h : Re z w) : toR z = toR w := by
  obtain ⟨h1, h2, h3⟩ := h
  unfold toR
  have p1 := posR h1
  have p2 := posR h2
  have e : (z.1 : Rat) * (w.2 : Rat) = (w.1 : Rat) * (z.2 : Rat) := by rw [← Rat.intCast_mul, ← Rat.intCast_mul, h3]
  grind
theorem nn_R (ha : 0 < a.2) : 0 ≤ a.1 ↔ 0 ≤ toR a := by
  have p : 0 < ((0, 1) : Q2).2 := by decide
  have h := leq_R (a := (0, 1)) (b := a) p ha
  have e : toR (0, 1) = 0 := by unfold toR; grind
  rw [e] at h
  rw [← h, leq_not]
  unfold ltq
  simp
end
theorem Re.nn {z w : Q2} (r : Re z w) (h : 0 ≤ w.1) : 0 ≤ z.1 := by
  rw [nn_R r.1, re_R r]
  exact (nn_R r.2.1).mp h
section
variable {zs : List Q2} {a z x y e w : Q2} {i : Nat}
end
/-! ### lists of tuples of numbers as data -/
section
variable {X : Cx} {K : PySem.W.Frag}
end
theorem dpAll_of {α : Type} {K : PySem.W.Frag} {H : Hp} (f : α → PyData) : ∀ {ts : List V} {ls : List α}, ts.length = ls.length → (∀ (i : Nat) (v : V) (l : α), ts[i]? = some v → ls[i]? = some l → Dp K H v (f l)) → DpAll K H ts (ls.map f)
  | [], [], _, _ => .nil
  | [], _ :: _, h, _ => by simp at h
  | _ :: _, [], h, _ => by simp at h
  | t :: ts, l :: ls, h, g => .cons (g 0 t l rfl rfl) (dpAll_of f (by simpa using h) fun i v l' h1 h2 => g (i + 1) v l' (by simpa using h1) (by simpa using h2))
theorem FitsL.dp {K : PySem.W.Frag} {H : Hp} {D : Addr} {ls : List (List Int)} (a : FitsL H D ls) : Dp K H (.ref D) (.list (ls.map fun l => intsD l)) := by
  obtain ⟨ts, h1, h2, h3⟩ := a.ob
  refine .lst (SqL.of h1) (dpAll_of (fun l => intsD l) h2 fun i v l e1 e2 => ?_)
  obtain ⟨T, rfl, h⟩ := h3 i v l e1 e2
  exact dpT h
/-! ### a set of a tuple of numbers -/
/-! ### looked at ahead of a step (apply fails at once where exact, refine and show take seconds) -/
section
variable {K : PySem.W.Frag} {C CM CL CG p h a L1 L2 : Addr} {H H' : Hp} {v : V} {k n : Nat} {z : Q2} {vs : List V} {zs ys : List Q2} {e : Option Q2} {r : Str} {lo hi : Option Q2} {o : Option HO} {x : HO} {P Q : Prop}
end
/-! ### what follows a statement, kept out of sight while it is read -/
/-! ### a comprehension over a list that draws, some left out -/
theorem AllTQ.nl {H H' : Hp} {k : Nat} {vs : List V} (m : AllTQ H k vs) (s : Nl H H') : AllTQ H' k vs := fun x hx => by
  obtain ⟨z, t⟩ := m x hx
  exact ⟨z, t.nl s⟩
theorem AllTQ.same {H H' : Hp} {k : Nat} {vs : List V} (m : AllTQ H k vs) (s : Same H H') : AllTQ H' k vs := m.nl (Nl.of s)
theorem AllTQ.mono {H : Hp} {k j : Nat} {vs : List V} (m : AllTQ H k vs) (l : k ≤ j) : AllTQ H j vs := fun x hx => by
  obtain ⟨z, t⟩ := m x hx
  exact ⟨z, t.mono l⟩
theorem Kp.up2 {h D : Addr} {H H1 : Hp} {u : HO} (k : Kp h H H1) (hD : H D = none) : Kp h H (upd H1 D u) := fun c o e n => by
  rw [upd_ne (ne_of_none e hD)]
  exact k c o e n
end My
namespace My
open PySem PySem.Spec PyProof.Rows L2
/-! ### the stretches of a ladder's sizes, held -/
theorem MAt.nl {C p : Addr} {H H' : Hp} {t u : Int} (a : MAt C H p t u) (s : Nl H H') : MAt C H' p t u := by
  obtain ⟨dx, h⟩ := a
  exact ⟨dx, s _ _ h rfl⟩
theorem MsV.nl {C : Addr} {H H' : Hp} {v : V} (s : Nl H H') : ∀ {e : Option Q2}, MsV C H v e → MsV C H' v e
  | none, h => h
  | some _, ⟨p, h1, h2⟩ => ⟨p, h1, h2.nl s⟩
theorem StAt.nl {CM CS p : Addr} {H H' : Hp} {lo hi : Option Q2} {li hj : Bool} (a : StAt CM CS H p lo hi li hj) (s : Nl H H') : StAt CM CS H' p lo hi li hj := by
  obtain ⟨⟨dx, l, h, h1, h2, h3⟩, a1, a2, a3, a4⟩ := a
  exact ⟨⟨dx, l, h, s _ _ h1 rfl, h2.nl s, h3.nl s⟩, a1, a2, a3, a4⟩
theorem StQ.nl {CM CS p : Addr} {H H' : Hp} {x y : Option Q2 × Bool} (a : StQ CM CS H p x y) (s : Nl H H') : StQ CM CS H' p x y := by
  obtain ⟨lo, hi, h1, h2, h3⟩ := a
  exact ⟨lo, hi, h1.nl s, h2, h3⟩
/-- the stretch of a size, or None -/
def RunV (CM CS : Addr) (H : Hp) (v : V) (zs : List Q2) (r : Str) (lo hi : Option Q2) (n : Nat) : Prop :=
  (sizB zs r lo hi n = true ∧ ∃ p, v = .ref p ∧ StQ CM CS H p (sizE zs r lo hi n).1 (sizE zs r lo hi n).2) ∨ (sizB zs r lo hi n = false ∧ v = .non)
section
variable {CM CS : Addr} {H H' : Hp} {v : V} {zs : List Q2} {r : Str} {lo hi : Option Q2} {n : Nat}
theorem RunV.same (a : RunV CM CS H v zs r lo hi n) (s : Same H H') : RunV CM CS H' v zs r lo hi n := by
  rcases a with ⟨h, p, e, q⟩ | h
  · exact .inl ⟨h, p, e, q.same s⟩
  · exact .inr h
theorem RunV.nl (a : RunV CM CS H v zs r lo hi n) (s : Nl H H') : RunV CM CS H' v zs r lo hi n := by
  rcases a with ⟨h, p, e, q⟩ | h
  · exact .inl ⟨h, p, e, q.nl s⟩
  · exact .inr h
end
section
variable {CM CS : Addr} {H : Hp} {p q : Addr} {x y x2 y2 : Option Q2 × Bool}
theorem StQ.raw (a : StQ CM CS H p x y) {m : Str} (h1 : ¬ m = "low") (h2 : ¬ m = "high") (h3 : ¬ m = "low_in") (h4 : ¬ m = "high_in") {R : Prop} (h : R) : ∃ a dx fs, V.ref p = .ref a ∧ H a = some (.ins CS dx fs) ∧ fs.lookup m = none ∧ R := by
  obtain ⟨lo, hi, s, _⟩ := a
  exact meth_s s h1 h2 h3 h4 h
/-- an end of so many bits -/
def SzE (k : Nat) : Option Q2 → Prop
  | none => True
  | some a => Sz k a.1 ∧ Sz k a.2
end
theorem SzE.mono {k j : Nat} (l : k ≤ j) : ∀ {o : Option Q2}, SzE k o → SzE j o
  | none, _ => trivial
  | some _, h => ⟨h.1.mono l, h.2.mono l⟩
def SzL (k : Nat) (zs : List Q2) : Prop := ∀ z ∈ zs, Sz k z.1 ∧ Sz k z.2
theorem SzL.get {k : Nat} {zs : List Q2} (h : SzL k zs) (i : Nat) : SzE k zs[i]? := by
  cases e : zs[i]? with
  | none => trivial
  | some a => exact h a (List.mem_of_getElem? e)
theorem SzL.end {k : Nat} {zs : List Q2} (h : SzL k zs) (i : Int) : SzE k (endQ zs i) := by
  unfold endQ
  split
  · exact h.get _
  · trivial
theorem cutV_init (xs : List V) {i : Int} (e : i = -1) : cutV xs none (some i) = xs.take (xs.length - 1) := by
  subst e
  unfold cutV
  rw [HT.sIx_none]
  have : HT.sIx xs.length xs.length (some (-1)) = xs.length - 1 := by
    unfold HT.sIx
    simp
    omega
  rw [this, List.drop_zero, Nat.sub_zero]
theorem LawL.ladQ {H : Hp} {p : Addr} {part : Int} {ms : List Int} {r : Str} {lo hi : Option Int} (a : LawL H p part ms r lo hi) : LadQ (zq (4 * part) ms) r (oq (4 * part) lo) (oq (4 * part) hi) := by
  have p0 := a.p0
  refine ⟨a.riseQ, fun z hz => ?_, ?_, ?_, a.spanQ⟩
  · obtain ⟨m, _, rfl⟩ := List.mem_map.mp hz
    show 0 < 4 * part
    omega
  · cases lo with
    | none => trivial
    | some _ => show 0 < 4 * part; omega
  · cases hi with
    | none => trivial
    | some _ => show 0 < 4 * part; omega
theorem LawL.szs {H : Hp} {p : Addr} {part : Int} {ms : List Int} {r : Str} {lo hi : Option Int} (a : LawL H p part ms r lo hi) : SzL 40 (zq (4 * part) ms) ∧ SzE 40 (oq (4 * part) lo) ∧ SzE 40 (oq (4 * part) hi) := by
  have p0 := a.p0
  have p1 := a.p1
  have sp : Sz 40 (4 * part) := by show (4 * part).natAbs < 2 ^ 40; omega
  have sz : ∀ z : Int, -4000040 ≤ z → z ≤ 4000040 → Sz 40 z := fun z h1 h2 => by show z.natAbs < 2 ^ 40; omega
  refine ⟨fun z hz => ?_, ?_, ?_⟩
  · obtain ⟨m, hm, rfl⟩ := List.mem_map.mp hz
    have := a.bnd m hm
    exact ⟨sz m (by omega) (by omega), sp⟩
  · cases lo with
    | none => trivial
    | some z => have := a.blo z rfl; exact ⟨sz z this.1 this.2, sp⟩
  · cases hi with
    | none => trivial
    | some z => have := a.bhi z rfl; exact ⟨sz z this.1 this.2, sp⟩
theorem LadAt.up {K : PySem.W.Frag} {CM CL : Addr} {H : Hp} {p : Addr} {k j : Nat} {zs : List Q2} {r : Str} {lo hi : Option Q2} (a : LadAt K CM CL H p k zs r lo hi) (l : k ≤ j) : LadAt K CM CL H p j zs r lo hi := a.mono l
/-! ### measures that a stretch holds -/
def GoodM (CM : Addr) (x y : Option Q2 × Bool) (H : Hp) (ys : List V) : Prop := ∀ v ∈ ys, ∃ q z, v = .ref q ∧ QAt CM H q 300 z ∧ (loIn x.1 x.2 z && hiIn y.1 y.2 z) = true
theorem GoodM.nl {CM : Addr} {x y : Option Q2 × Bool} {H H' : Hp} {ys : List V} (g : GoodM CM x y H ys) (s : Nl H H') : GoodM CM x y H' ys := fun v hv => by
  obtain ⟨q, z, e, a, h⟩ := g v hv
  exact ⟨q, z, e, a.nl s, h⟩
theorem GoodM.snoc {CM : Addr} {x y : Option Q2 × Bool} {H : Hp} {ys : List V} {q : Addr} {z : Q2} (g : GoodM CM x y H ys) (a : QAt CM H q 300 z) (h : (loIn x.1 x.2 z && hiIn y.1 y.2 z) = true) : GoodM CM x y H (ys ++ [.ref q]) := fun v hv => by
  rcases List.mem_append.mp hv with hv | hv
  · exact g v hv
  · have : v = .ref q := by simpa using hv
    exact ⟨q, z, this, a, h⟩
section
variable {a b : Q2} {i j : Bool} {yo xo : Option Q2}
end
end My
namespace My
open PySem PySem.Spec PyProof.Rows L2
/-! ### comprehensions within comprehensions: the readings of the inner ones are found ahead -/
section
variable {X : Cx}
end
end My
namespace My
open PySem PySem.Spec PyProof.Rows L2
theorem zLen {n : Nat} (h : n ≤ 16777216) : n ≤ sizeLine := by rw [sizeLine_eq]; exact h
/-! ### repr of a tuple that holds own objects -/
def leafD : PyData → Bool
  | .none => true
  | .bool _ => true
  | .int i => decide (i.natAbs.log2 < 1920)
  | .str s => true
  | _ => false
def leafS : PyData → Str
  | .none => "None"
  | .bool b => if b then "True" else "False"
  | .int i => toString i
  | .str s => reprText s
  | _ => ""
/-- what is asked of the values one by one -/
def tShow (K : PySem.W.Frag) (C : Addr) (sp : Sp) (E : XK) : List V → List Str → Hp → (List Str → Hp → Prop) → Prop
  | [], acc, H, Q => Q acc H
  | x :: xs, acc, H, Q => (∃ d, Dp K H x d ∧ leafD d = true ∧ (leafS d).length ≤ 10000 ∧ tShow K C sp E xs (acc ++ [leafS d]) H Q) ∨
      tOwn C sp E x H (fun v H2 => ∃ z : Str, v = .str z ∧ z.length ≤ 10000 ∧ tShow K C sp E xs (acc ++ [z]) H2 Q)
theorem piled_le : ∀ ts : List Str, (∀ t ∈ ts, t.length ≤ 10000) → piled ts ≤ 10002 * ts.length
  | [], _ => Nat.zero_le _
  | t :: ts, h => by
    have h1 := h t (by simp)
    have h2 := piled_le ts fun x hx => h x (by simp [hx])
    rw [piled_cons, List.length_cons]
    omega
theorem tupleText_le {ts : List Str} (h : ∀ t ∈ ts, t.length ≤ 10000) : (tupleText ts).length ≤ 10002 * ts.length + 3 := by
  have hp := piled_le ts h
  unfold tupleText
  rw [strLen_append, strLen_append]
  have e1 : ((("(" : String) : Str)).length = 1 := rfl
  have e3 : (((if ts.length == 1 then ",)" else ")" : String) : Str)).length ≤ 2 := by split <;> decide
  rw [e1]
  by_cases e : ts = []
  · subst e
    have : (Str.join ", " []).length = 0 := rfl
    rw [this]
    simp at e3 ⊢
    omega
  · have := join_length_add ts e
    omega
section
variable {X : Cx} {n : Nat} {CX : CXT} {C f : Addr} {fd : FuncData} {ps : List Str} {sp : Sp} {E : XK}
theorem leaf_is {K : PySem.W.Frag} {H : Hp} {x : V} {d : PyData} {u : Value} (hd : Dp K H x d) (hl : leafD d = true) (hz : (leafS d).length ≤ 10000) (r : RelV x u) : ReprIs X.prog X.w u (leafS d) := by
  have sl := sizeLine_eq
  cases hd with
  | non => cases (show u = Value.none from r); exact ReprIs.none
  | bl b => cases (show u = Value.bool b from r); exact ReprIs.bool b
  | int i => obtain ⟨t, rfl⟩ := r; exact ReprIs.int t (of_decide_eq_true hl)
  | str z => obtain ⟨t, rfl⟩ := r; exact ReprIs.str z t (show (leafS (.str z)).length ≤ sizeLine by omega)
  | lst _ _ => cases hl
  | tup _ _ => cases hl
theorem own_under (F : FnOk X.prog X.w X.K X.mg X.base CX n f fd ps sp) (hm : Meth X.K C "__repr__" f) (hb : Binds X.K fd ps []) (hx : Passes CX X E) {A : Around} {pins : List (Addr × Obj)} {s : Shared} {σ : L2.St} {H : Hp} {x : V} {u : Value} {b : Nat} {Q : VK}
    (sb : Sub X n A) (I : Inv X pins σ H s) (r : RelV x u) (hbz : b ≤ sizeLine) (h : tOwn C sp E x H Q) : wpAny (model X.prog X.w) A (pyReprUnder b u) (fun z s' => ∃ H', Inv X pins σ H' s' ∧ Q (.str z) H') X.xe s := by
  obtain ⟨a, dx, fs, rfl, ha, q⟩ := h
  cases (show u = Value.ref a from r)
  obtain ⟨mA, J, _⟩ := ins_get I.hok ha
  obtain ⟨od, J, _⟩ := J.look
  refine wpAny_pyReprUnder_ref hbz ?_
  unfold pyReprObjUnder pyReprObjBy
  refine wpAny_bind (wpAny_cRoomFor sb.room.units0 ?_)
  refine wpAny_bind (wpAny_bind (J.type.here ((PySem.W.looks_findIn I.kIn hm.at_).here ?_)))
  show wpAny _ _ (if (some (Value.ref f)).isNone = true then _ else _) _ _ _
  rw [if_neg (by simp)]
  have core : wpAny (model X.prog X.w) A (call (.ref f) [.ref a]) (fun u s' => ∃ z t H', u = .str z t ∧ Inv X pins σ H' s' ∧ Q (.str z) H') X.xe s :=
    thn (fn_at F hb hx sb I (vs := [.ref a]) (.cons rfl .nil) q) fun w s2 q2 => by
      obtain ⟨v, H2, I2, rw', z, rfl, q3⟩ := q2
      obtain ⟨t, rfl⟩ := rw'
      exact ⟨z, t, H2, rfl, I2, q3⟩
  refine wpAny_bind (m := callSpecialIfBoundBy? _ (.ref a) (Str.ofString "__repr__")) ?_
  simp only [callSpecialIfBoundBy?, bindSpecialIfBound?]
  refine wpAny_holding (wpAny_bind (wpAny_bind (wpAny_bind (J.type.here ((PySem.W.looks_findIn I.kIn hm.at_).here ?_)))))
  refine wpAny_bind (wpAny_askSetting (wpAny_ite ?_))
  have fin : ∀ {Qf : Option Value → Shared → Prop}, (∀ z t s', (∃ H', Inv X pins σ H' s' ∧ Q (.str z) H') → Qf (some (.str z t)) s') → wpAny (model X.prog X.w) A (call (.ref f) ([.ref a] ++ []) >>= fun v => pure (some v)) Qf X.xe s := fun hq =>
    wpAny_bind (wpAny_mono core (fun v s' h' => by
      obtain ⟨z, t, H', rfl, I', q'⟩ := h'
      exact wpAny_pure (hq z t s' ⟨H', I', q'⟩)) fun _ _ h' => h')
  have tail : ∀ z t s', (∃ H', Inv X pins σ H' s' ∧ Q (.str z) H') → wpAny (model X.prog X.w) A (do if ← isInstance (.str z t) (.type "str") then pure (Value.str z t) else raiseError "TypeError" s!"__repr__ returned non-string (type {← typeNameOf (.str z t)})") (fun v s' => ∃ x u, v = .str x u ∧ ∃ H', Inv X pins σ H' s' ∧ Q (.str x) H') X.xe s' := fun z t s' hq => by
    refine wpAny_bind (wpAny_isInstance (typeIs_str _ _ _) isSubtype_str_str ?_)
    first
      | exact wpAny_pure ⟨z, t, rfl, hq⟩
      | (rw [if_pos rfl]; exact wpAny_pure ⟨z, t, rfl, hq⟩)
      | (simp only [if_true]; exact wpAny_pure ⟨z, t, rfl, hq⟩)
  have hfn := beq_iff_eq.mp hm.fn
  split
  · refine wpAny_bind ((PySem.W.bind_fn I.kIn _ hfn).here (wpAny_pure ?_))
    exact fin fun z t s' hq => tail z t s' hq
  · refine wpAny_tryCatch (wpAny_bind ((PySem.W.bind_fn I.kIn _ hfn).here (wpAny_pure ?_)))
    exact fin fun z t s' hq => tail z t s' hq
theorem tup_fold (F : FnOk X.prog X.w X.K X.mg X.base CX n f fd ps sp) (hm : Meth X.K C "__repr__" f) (hb : Binds X.K fd ps []) (hx : Passes CX X E) {A : Around} (sb : Sub X n A) {pins : List (Addr × Obj)} {σ : L2.St} {Q : List Str → Hp → Prop} :
    ∀ (xs : List V) (us : List Value) (ar : Array Str) (m : Nat) (s : Shared) (H : Hp), Vals xs us → Inv X pins σ H s → (∀ t ∈ ar.toList, t.length ≤ 10000) → m + 10002 * xs.length ≤ 4000000 → tShow X.K C sp E xs ar.toList H Q →
      wpAny (model X.prog X.w) A (forIn us ((ar, m) : Array Str × Nat) tupBody) (fun r s' => ∃ H', r.1.toList.length = ar.toList.length + xs.length ∧ (∀ t ∈ r.1.toList, t.length ≤ 10000) ∧ Inv X pins σ H' s' ∧ Q r.1.toList H') X.xe s
  | [], us, ar, m, s, H, r, I, ha, hz, q => by
    cases r
    rw [List.forIn_nil]
    exact wpAny_pure ⟨H, by simp, ha, I, q⟩
  | x :: xs, us, ar, m, s, H, r, I, ha, hz, q => by
    cases r with
    | @cons _ u _ ur rx rr =>
    have sl := sizeLine_eq
    rw [List.length_cons] at hz
    rw [List.forIn_cons]
    have step : ∀ (z : Str) (s' : Shared) (H' : Hp), z.length ≤ 10000 → Inv X pins σ H' s' → tShow X.K C sp E xs (ar.toList ++ [z]) H' Q →
        wpAny (model X.prog X.w) A (forIn ur ((ar.push z, m + (z.length + 2)) : Array Str × Nat) tupBody) (fun r s' => ∃ H', r.1.toList.length = ar.toList.length + (x :: xs).length ∧ (∀ t ∈ r.1.toList, t.length ≤ 10000) ∧ Inv X pins σ H' s' ∧ Q r.1.toList H') X.xe s' := fun z s' H' hl I' q' => by
      refine wpAny_mono (tup_fold F hm hb hx sb xs ur (ar.push z) (m + (z.length + 2)) s' H' rr I' (fun t ht => ?_) (by omega) (by rw [Array.toList_push]; exact q')) (fun r s2 h => ?_) fun _ _ h => h
      · rw [Array.toList_push, List.mem_append, List.mem_singleton] at ht
        rcases ht with ht | rfl
        · exact ha t ht
        · exact hl
      · obtain ⟨H2, h1, h2, h3, h4⟩ := h
        refine ⟨H2, ?_, h2, h3, h4⟩
        have e := h1
        rw [Array.toList_push, List.length_append, List.length_singleton] at e
        rw [List.length_cons]
        omega
    refine wpAny_bind (wpAny_bind (m := pyReprUnder (m + 1) u) ?_)
    rcases q with ⟨d, hd, hl, hlz, q⟩ | q
    · refine leaf_is hd hl hlz rx (m + 1) (by omega) A X.xe s _ fun tk => wpAny_pure ?_
      exact step (leafS d) _ H hlz (I.tok _) q
    · refine wpAny_mono (own_under F hm hb hx sb I rx (by omega) q) (fun z s' h => ?_) fun _ _ h => h
      obtain ⟨H', I', z', ez, hl, q'⟩ := h
      cases ez
      exact wpAny_pure (step z s' H' hl I' q')
theorem sub_under {A : Around} (sb : Sub X (n + 1) A) (args : Args) : Sub X n (A.under (.builtin "tuple.__repr__" args)) := by
  have hd : (A.under (.builtin "tuple.__repr__" args)).depth ≤ A.depth + 1 := by
    show A.depth + (Code.builtin "tuple.__repr__" args).weight ≤ A.depth + 1
    have e : (Code.builtin "tuple.__repr__" args).weight ≤ 1 := by
      have e1 : (Code.builtin "tuple.__repr__" args).isCreation = false := by first | rfl | simp [Code.isCreation]
      have e2 : (Code.builtin "tuple.__repr__" args).isCaller = false := by first | rfl | simp [Code.isCaller]
      have e3 : (Code.builtin "tuple.__repr__" args).frames = 0 := by first | rfl | simp [Code.frames]
      unfold Code.weight
      rw [e1, e2, e3, isGuard_tuple_repr]
      decide
    omega
  have hu := units_under_tuple_repr A args
  have hf : (A.under (.builtin "tuple.__repr__" args)).frames = A.frames := by
    first | rfl | simp [Around.under, Code.envs, pushEnvs, Code.frames, Code.isFrame]
  refine ⟨⟨sb.room.hd, ?_, ?_⟩, hf.trans sb.fr⟩
  · have := sb.room.dp; omega
  · rw [hu]; have := sb.room.un; omega
theorem call_tupR (F : FnOk X.prog X.w X.K X.mg X.base CX n f fd ps sp) (hm : Meth X.K C "__repr__" f) (hb : Binds X.K fd ps []) (hx : Passes CX X E) {A : Around} (sb : Sub X (n + 1) A) (gd : A.guards = some []) {pins : List (Addr × Obj)} {s : Shared} {σ : L2.St} {H : Hp} {a : Addr} {xs : List V} {Q : VK}
    (I : Inv X pins σ H s) (ht : SqT X.K H a xs) (hz : xs.length ≤ 100) (q : tShow X.K C sp E xs [] H (fun ts H' => Q (.str (tupleText ts)) H')) :
    wpAny (model X.prog X.w) A (call (.builtin "tuple.__repr__") [.ref a]) (fun u s' => ∃ z t H', u = .str z t ∧ z.length ≤ sizeLine ∧ Inv X pins σ H' s' ∧ Q (.str z) H') X.xe s := by
  have sl := sizeLine_eq
  obtain ⟨its, rv, ⟨o, ho, hc, m, hd⟩, _⟩ := I.tuple ht
  have hlen : its.length = xs.length := rv.length.symm
  refine wpAny_call (codeAny_call_builtin_own (Code.quiet_builtin _ (by decide +kernel)) PySem.F.entry_tuple_repr (PySem.F.slot_tuple_repr.check _ _ _ _ _ _ _ _ ⟨o, ho, hc⟩ (PySem.F.args_tuple_repr_1 _) ?_))
  show wpOwn _ _ _ (Builtin.tupleReprAt 0 ⟨[.ref a], []⟩) _ _ _
  rw [tuple_repr_tree, tupleReprUnderWay_eq]
  refine wpOwn_bind (wpOwn_stackTailAny gd (tupGuardF_off _) (tupGuardF_pos _) ?_)
  refine wpOwn_of_wpAny ?_
  show wpAny _ _ (tupleReprRest 0 (.ref a)) _ _ s
  unfold tupleReprRest Builtin.Tuple.tupleItemsOf
  refine wpAny_bind (wpAny_bind (wpAny_seqItems ho hd (wpAny_pure ?_)))
  rw [← Array.forIn_toList]
  refine wpAny_bind (wpAny_mono (tup_fold F hm hb hx (sub_under sb _) xs its #[] 0 s H (by simpa using rv) I (fun t ht => by simp at ht) (by omega) q) (fun r s' h => ?_) fun _ _ h => h)
  obtain ⟨H', h1, h2, I', q'⟩ := h
  have tl := tupleText_le h2
  have h1' : r.1.toList.length = its.length := by simpa [hlen] using h1
  refine wpAny_bind (wpAny_mkStr (wpAny_pure ?_) ?_)
  · refine ⟨tupleText r.1.toList, s'.toks, H', ?_, by omega, I'.tok _, q'⟩
    simp [tupleText, ← h1']
  · have e : tupleText r.1.toList = ("(" : Str) ++ Str.join ", " r.1.toList ++ (if its.toArray.size == 1 then ",)" else ")" : String) := by
      simp [tupleText, ← h1']
    rw [← e]
    omega
/-- {x!r}, x such a tuple -/
def tFmtRT (K : PySem.W.Frag) (C : Addr) (sp : Sp) (E : XK) (te : TE) : TE := fun σ H Q => te σ H fun x H1 => ∃ a ys, x = .ref a ∧ SqT K H1 a ys ∧ ys.length ≤ 100 ∧ tShow K C sp E ys [] H1 (fun ts H' => Q (.str (tupleText ts)) H')
theorem pe_fmtRT {e : Expr} {te : TE} {pos : Pos} (gd : X.A.guards = some []) (F : FnOk X.prog X.w X.K X.mg X.base CX n f fd ps sp) (hm : Meth X.K C "__repr__" f) (hb : Binds X.K fd ps []) (hx : Passes CX X E) (hr : Room (n + 1) X.A) (he : PE X e te) : PE X (.FormattedValue e 114 none pos) (tFmtRT X.K C sp E te) := by
  refine ⟨fun pins s σ H Q I h => ?_⟩
  refine wpAny_FormattedValue_repr (thn (he.run pins s σ H _ I h) fun v s1 hv => ?_)
  obtain ⟨x, H1, I1, r1, a, ys, rfl, ht, hz, q⟩ := hv
  cases (show v = Value.ref a from r1)
  have sb : Sub X (n + 1) X.A := ⟨hr, rfl⟩
  obtain ⟨its, rv, ⟨o, ho, hc, m, hd⟩, _⟩ := I1.tuple ht
  unfold pyReprObj
  refine wpAny_bind (wpAny_cRoomFor sb.room.units0 ?_)
  refine wpAny_bind (wpAny_specialOf (name := Str.ofString "__repr__") ⟨o, ho, hc⟩ PySem.F.slot_tuple_repr.lookup ?_)
  refine wpAny_bind (m := callSpecialIfBound? (.ref a) (Str.ofString "__repr__")) (wpAny_callSpecialIfBound?_slotG (name := Str.ofString "__repr__") ⟨o, ho, hc⟩ PySem.F.slot_tuple_repr ?_)
  refine wpAny_mono (call_tupR F hm hb hx sb gd I1 ht hz q) (fun v s2 h => ?_) fun _ _ h => h
  obtain ⟨z, t, H2, rfl, hzz, I2, q3⟩ := h
  refine wpAny_bind (wpAny_isInstance (T := "str") (b := true) rfl isSubtype_str_str ?_)
  exact wpAny_pure (wpAny_formatField_str ⟨.str z, H2, I2, ⟨t, rfl⟩, q3⟩ ⟨.str z, H2, I2.tok _, ⟨_, rfl⟩, q3⟩ hzz)
end
/-! ### == of tuples, item by item -/
section
open GQ
open AutoSeq1 (wpAny_loadPart')
variable {prog : Program} {w : World} {A : Around} {R : Result → Shared → Prop}
theorem tuple_eqB (l b : Addr) (items items2 : Array Value) (n n2 : Nat) (dd dd2 : Option Addr) (sl sl2 : Array (Option Value)) (bs : List Bool) (lb : bs.length = min items.size items2.size) (J : Shared → Prop)
    (turn : ∀ i (h1 : i < items.size) (h2 : i < items2.size) s, J s → wpAny (model prog w) A.in1 (eqBool items[i] items2[i]) (fun r s' => bs[i]? = some r ∧ J s') (fun e s' => R (.error e) s') s)
    (fin : ∀ s, J s → R (.ok (.ret (.bool (bs.all _root_.id && decide (items.size = items2.size))))) s) {s : Shared} (hl1 : s.heap.get? l = some { cls := .type "tuple", dict := dd, data := .seq items n, slots := sl }) (hb1 : s.heap.get? b = some { cls := .type "tuple", dict := dd2, data := .seq items2 n2, slots := sl2 }) (h : J s) :
    wpAny (model prog w) A.in1 (Builtin.«tuple.__eq__» ⟨[.ref l, .ref b], []⟩) (GQ.FinOf prog w A R) (fun e s' => R (.error e) s') s := by
  have f2 := AutoSeq1.sub_tuple_tuple
  have hZ : (items.toList.zip items2.toList).length = min items.size items2.size := by simp
  have h0 := h
  obtain ⟨hp, g, d, tk, os⟩ := s
  wp_walk using wpAny_loadPart' hl1, wpAny_loadPart' hb1, wpAny_forIn_list _ (fun rest b s' => b.1 = none ∧ ∃ i, rest = (items.toList.zip items2.toList).drop i ∧ i ≤ min items.size items2.size ∧ (bs.take i).all _root_.id = true ∧ J s') _
  case turn =>
    rintro ⟨y, x⟩ rest b s' ⟨hb', i, hz, hi, ht, hI⟩
    have hlt : i < (items.toList.zip items2.toList).length := by
      rcases Nat.lt_or_ge i (items.toList.zip items2.toList).length with h' | h'
      · exact h'
      · rw [List.drop_of_length_le h'] at hz; cases hz
    have h1 : i < items.size := by omega
    have h2 : i < items2.size := by omega
    rw [List.drop_eq_getElem_cons hlt] at hz
    injection hz with hyx hrest
    have hy : y = items[i] := by have := congrArg Prod.fst hyx; simpa using this
    have hx : x = items2[i] := by have := congrArg Prod.snd hyx; simpa using this
    subst hy hx
    refine wpAny_bind (wpAny_mono (turn i h1 h2 s' hI) (fun r s2 q2 => ?_) fun _ _ x => x)
    obtain ⟨hr, q2⟩ := q2
    cases r with
    | true =>
      wp_walk
      refine ⟨rfl, i + 1, hrest, by omega, ?_, q2⟩
      rw [List.take_add_one, hr, List.all_append, ht]
      rfl
    | false =>
      have hf : bs.all _root_.id = false := by
        rw [List.all_eq_false]
        exact ⟨false, List.mem_of_getElem? hr, by simp⟩
      have hR := fin s2 q2
      rw [hf, Bool.false_and] at hR
      wp_walk
      exact hR
  case fin =>
    rintro ⟨b1, b2⟩ s' ⟨hb', i, hz, hi, ht, hI⟩
    simp only at hb'
    subst hb'
    have hge : min items.size items2.size ≤ i := by
      rcases Nat.lt_or_ge i (items.toList.zip items2.toList).length with h' | h'
      · rw [List.drop_eq_getElem_cons h'] at hz; cases hz
      · exact hZ ▸ h'
    have hall : bs.all _root_.id = true := by rwa [List.take_of_length_le (by omega)] at ht
    have hR := fin s' hI
    rw [hall, Bool.true_and] at hR
    wp_walk
    have e : (items.size == items2.size) = decide (items.size = items2.size) := by rw [Bool.eq_iff_iff]; simp
    show R (.ok (.ret (.bool (items.size == items2.size)))) _
    rw [e]
    exact hR
  case h =>
    exact ⟨rfl, 0, rfl, Nat.zero_le _, rfl, h0⟩
end
section
variable {X : Cx} {n : Nat} {D : Eqb}
def DTupB (K : PySem.W.Frag) (D : Eqb) : Eqb := fun x y H b => ∃ (a c : Addr) (xs ys : List V) (bs : List Bool), x = .ref a ∧ y = .ref c ∧ SqT K H a xs ∧ SqT K H c ys ∧ bs.length = min xs.length ys.length ∧ (∀ (i : Nat) (p q : V) (b : Bool), xs[i]? = some p → ys[i]? = some q → bs[i]? = some b → D p q H b) ∧ b = (bs.all _root_.id && decide (xs.length = ys.length))
theorem rcB_tup (h : EqB X n D) : RcB X (n + 1) (DTupB X.K D) := by
  intro A pins s σ H x y u v b sb I rx ry d
  obtain ⟨a, c, xs, ys, bs, rfl, rfl, ha, hc, lb, hd, rfl⟩ := d
  cases rx
  cases ry
  obtain ⟨its, r, e, z⟩ := I.tuple ha
  obtain ⟨its2, r2, e2, z2⟩ := I.tuple hc
  have l1 := r.length
  have l2 := r2.length
  obtain ⟨⟨cls, dd, data, sl⟩, ho, hcl, m, hdt⟩ := id e
  obtain ⟨⟨cls2, dd2, data2, sl2⟩, ho2, hcl2, m2, hdt2⟩ := id e2
  simp only at hcl hdt hcl2 hdt2
  subst hcl hdt hcl2 hdt2
  refine wpAny_richCompare_same_room (op := .Eq) ⟨_, ho, rfl⟩ ⟨_, ho2, rfl⟩ PySem.F.slot_tuple_eq (GQ.call_here PySem.F.slot_tuple_eq ⟨_, ho, rfl⟩ PySem.F.entry_tuple_eq (PySem.F.args_tuple_eq_2 _ _) ?_) sb.room.units0
  refine tuple_eqB (R := wants (fun v s' => v ≠ .notImplemented ∧ (v = .bool (bs.all _root_.id && decide (xs.length = ys.length)) ∧ Inv X pins σ H s')) X.xe) a c its.toArray its2.toArray m m2 dd dd2 sl sl2 bs (by rw [List.size_toArray, List.size_toArray, ← l1, ← l2]; exact lb) (fun s' => Inv X pins σ H s') (fun i h1 h2 s' I' => ?_) (fun s' I' => ⟨(fun x => nomatch x), ?_, I'⟩) ho ho2 I
  · have k1 : i < xs.length := by rw [l1]; simpa using h1
    have k2 : i < ys.length := by rw [l2]; simpa using h2
    obtain ⟨u, hu, ru⟩ := r.get (List.getElem?_eq_getElem k1)
    obtain ⟨v, hv, rv⟩ := r2.get (List.getElem?_eq_getElem k2)
    have g1 : its[i]? = some its.toArray[i] := by
      have h1' : i < its.length := by simpa using h1
      rw [List.getElem?_eq_getElem h1'] <;> simp
    have g2 : its2[i]? = some its2.toArray[i] := by
      have h2' : i < its2.length := by simpa using h2
      rw [List.getElem?_eq_getElem h2'] <;> simp
    rw [g1] at hu
    rw [g2] at hv
    rw [Option.some.inj hu, Option.some.inj hv]
    have hb : bs[i]? = some bs[i] := List.getElem?_eq_getElem (by omega)
    refine thn (h A.in1 pins s' σ H _ _ u v bs[i] sb.in1 I' ru rv (hd i _ _ _ (List.getElem?_eq_getElem k1) (List.getElem?_eq_getElem k2) hb)) fun r0 s2 q => ?_
    obtain ⟨rfl, I2⟩ := q
    exact ⟨hb, I2⟩
  · rw [List.size_toArray, List.size_toArray, ← l1, ← l2]
end
/-! ### {x} of an own object, repr of one whose own def shows a tuple -/
structure FmC (K : PySem.W.Frag) (C : Addr) : Prop where
  fm : PySem.W.findIn K (.ref C) "__format__" = some (some (.builtin "object.__format__"))
  ob : PySem.W.mroIn K C (.type "object") = some true
def fmCB (x : Str) : PySem.W.Frag → Bool := fun K => He.eqO (PySem.W.findIn K (.ref (He.ga K x)) "__format__") (some (some (.builtin "object.__format__"))) && decide (PySem.W.mroIn K (He.ga K x) (.type "object") = some true)
theorem fmC_ok {x : Str} {K : PySem.W.Frag} (c : fmCB x K = true) : FmC K (He.ga K x) := by
  obtain ⟨c1, c2⟩ := He.ba c
  exact ⟨He.eqO_ok c1, of_decide_eq_true c2⟩
section
variable {X : Cx} {n : Nat} {CX : CXT} {C f : Addr} {fd : FuncData} {ps : List Str} {sp : Sp} {E : XK}
def tFmtSO (C : Addr) (sp : Sp) (E : XK) (te : TE) : TE := fun σ H Q => te σ H fun x H1 => tOwn C sp E x H1 Q
theorem pe_fmtSO {e : Expr} {te : TE} {pos : Pos} (F : FnOk X.prog X.w X.K X.mg X.base CX n f fd ps sp) (hm : Meth X.K C "__str__" f) (hb : Binds X.K fd ps []) (hx : Passes CX X E) (hr : Room (n + 1) X.A) (c : FmC X.K C) (he : PE X e te) : PE X (.FormattedValue e (-1) none pos) (tFmtSO C sp E te) := by
  refine ⟨fun pins s σ H Q I h => ?_⟩
  refine wpAny_FormattedValue_plain (thn (he.run pins s σ H _ I h) fun v s1 hv => ?_)
  obtain ⟨x, H1, I1, r1, a, dx, fs, rfl, ha, q⟩ := hv
  cases (show v = Value.ref a from r1)
  obtain ⟨mA, J, _⟩ := ins_get I1.hok ha
  obtain ⟨od, J, _⟩ := J.look
  have sb : Sub X (n + 1) X.A := ⟨hr, rfl⟩
  refine PySem.W.kfo_fieldS sb.in1.room.units0 I1.kIn J c.fm c.ob hm.at_ hm.fn ?_
  refine thn (fn_at F hb hx sb.in1 (I1.tok (s1.toks + 1)) (vs := [.ref a]) (.cons rfl .nil) q) fun u s' q => ?_
  obtain ⟨w, H2, I2, rw', z, rfl, q3⟩ := q
  obtain ⟨t, rfl⟩ := rw'
  exact ⟨.str z, H2, I2, ⟨t, rfl⟩, q3⟩
theorem fnG_at (F : FnG X.prog X.w X.K X.mg X.base CX n f fd ps sp) (hb : Binds X.K fd ps []) (hx : Passes CX X E) {A : Around} (gd : A.guards = some []) {pins : List (Addr × Obj)} {s : Shared} {σ : L2.St} {H : Hp} {vs : List V} {us : List Value} {Q : VK}
    (sb : Sub X n A) (I : Inv X pins σ H s) (r : Vals vs us) (h : sp vs H Q E) : wpAny (model X.prog X.w) A (call (.ref f) us) (fun u s' => ∃ v H', Inv X pins σ H' s' ∧ RelV v u ∧ Q v H') X.xe s := by
  have e := I.env0
  have e0 : Env0 X.prog X.w X.K X.mg X.base A X.stack s H := ⟨by rw [sb.fr]; exact e.frames, e.mod, e.bs, e.bsz, e.funs, e.frf, e.hok, e.bare⟩
  have hl := F.lenG _ _ _ _ h
  have hbs := hb s us I.kIn (by rw [List.append_nil, ← r.length]; exact hl)
  rw [List.append_nil] at hbs
  refine wpAny_call (codeAny_mono (F.runG A X.stack s H ⟨us, []⟩ us vs _ E sb.room gd e0 hbs r h) fun r s' hq => ?_)
  cases r with
  | error e => exact hx pins σ H s e s' I hq
  | ok fl =>
    cases fl with
    | ret w =>
      obtain ⟨z, H', I', rz, q⟩ := I.after hq
      exact ⟨z, H', I', rz, q⟩
    | next => exact False.elim hq
    | brk => exact False.elim hq
    | cont => exact False.elim hq
theorem call_reprOG (gd : X.A.guards = some []) (F : FnG X.prog X.w X.K X.mg X.base CX n f fd ps sp) (hm : Meth X.K C "__repr__" f) (hb : Binds X.K fd ps []) (hx : Passes CX X E) (hr : Room (n + 1) X.A) : CallR X (.builtin "repr") (fun xs H Q => ∃ x, xs = [x] ∧ tOwn C sp E x H Q) := by
  intro pins s σ H xs us Q I r h
  obtain ⟨x, rfl, a, dx, fs, rfl, ha, h⟩ := h
  obtain ⟨u, rfl, r1⟩ := vals1 r
  cases (show u = Value.ref a from r1)
  obtain ⟨mA, J, _⟩ := ins_get I.hok ha
  obtain ⟨od, J, _⟩ := J.look
  obtain ⟨m, hF⟩ := I.fr
  have sb : Sub X (n + 1) X.A := ⟨hr, rfl⟩
  refine PySem.W.repr_K sb.in1.room.units0 hF I.ok.mod.kin J hm.at_ hm.fn ?_
  refine thn (fnG_at (A := X.A.in1) F hb hx gd sb.in1 I (vs := [.ref a]) (.cons rfl .nil) h) fun u s' q => ?_
  obtain ⟨v, H', I', rv, z, rfl, q⟩ := q
  obtain ⟨t, rfl⟩ := rv
  exact ⟨.str z, H', I', ⟨t, rfl⟩, q⟩
end
end My
namespace My
open PySem PySem.Spec PyProof.Rows L2
/-! ### signs of texts; dicts beside own == -/
theorem noEq_dict {prog : Program} {w : World} {A : Around} {s : Shared} {l y : Addr} {R : Result → Shared → Prop} (L : PySem.W.Looks (model prog w) s.heap (isInstance (.ref y) (.type "dict")) false) (h : R (.ok (.ret .notImplemented)) s) :
    wpAny (model prog w) A.in1 (Builtin.«dict.__eq__» ⟨[.ref l, .ref y], []⟩) (GQ.FinOf prog w A R) (fun e s' => R (.error e) s') s := by
  obtain ⟨hp, g, d, tk, os⟩ := s
  wp_walk using L.at
  exact h
structure EqD (K : PySem.W.Frag) (C : Addr) : Prop where
  sub : PySem.W.subIn K (.ref C) (.type "dict") = some false
  nf : PySem.W.notFirst K C (.type "dict") = true
  kit : PySem.W.kitOne K (.type "dict") (.ref C) = some false
def eqDB (x : Str) : PySem.W.Frag → Bool := fun K => decide (PySem.W.subIn K (.ref (He.ga K x)) (.type "dict") = some false) && (PySem.W.notFirst K (He.ga K x) (.type "dict") && decide (PySem.W.kitOne K (.type "dict") (.ref (He.ga K x)) = some false))
theorem eqD_ok {x : Str} {K : PySem.W.Frag} (c : eqDB x K = true) : EqD K (He.ga K x) := by
  obtain ⟨c1, c⟩ := He.ba c
  obtain ⟨c2, c3⟩ := He.ba c
  exact ⟨of_decide_eq_true c1, c2, of_decide_eq_true c3⟩
/-- the own object behind a dict -/
def DRefD (C : Addr) (R : Eqb) : Eqb := fun x y H b => ∃ a dx fs c kvs, y = .ref a ∧ H a = some (.ins C dx fs) ∧ x = .ref c ∧ H c = some (.dK kvs) ∧ R y x H b
theorem rcB_refD {X : Cx} {n : Nat} {CX : CXT} {C f : Addr} {fd : FuncData} {ps : List Str} {R : Eqb} {E : XK} (F : FnOk X.prog X.w X.K X.mg X.base CX n f fd ps (spEqB R)) (hm : Meth X.K C "__eq__" f) (c : EqD X.K C) (hb : Binds X.K fd ps []) (hx : Passes CX X E) : RcB X n (DRefD C R) := by
  intro A pins s σ H x y u v b sb I rx ry d
  obtain ⟨a, dx, fs, l, kvs, rfl, ha, rfl, hl, d⟩ := d
  cases ry
  cases (show u = Value.ref l from rx)
  obtain ⟨mA, J, _⟩ := ins_get I.hok ha
  obtain ⟨od, J, _⟩ := J.look
  obtain ⟨_, _, vs, _, o, es, ep, h1, h2, _⟩ := (show ObjOk X.prog X.w H s.heap l (.dK kvs) from I.hok l _ hl)
  have ht : s.TypeIs (.ref l) "dict" := ⟨o, h1, h2.1⟩
  have L : PySem.W.Looks (model X.prog X.w) s.heap (isInstance (.ref a) (.type "dict")) false := (J.type).andThen (PySem.W.looks_subIn I.kIn c.sub)
  have dec : ∀ Q' : Value → Shared → Prop, Q' .notImplemented s → wpAny (model X.prog X.w) A (call (.builtin "dict.__eq__") [.ref l, .ref a]) Q' X.xe s := fun Q' q => GQ.call_here PySem.F.slot_dict_eq ht PySem.F.entry_dict_eq (PySem.F.args_dict_eq_2 _ _) (noEq_dict L q)
  unfold richCompare
  simp only [ht.oneThing_none]
  refine wpAny_holding (wpAny_bind (wpAny_cRoomFor sb.room.units0 ?_))
  refine wpAny_bind (wpAny_typeOf ht (wpAny_bind (J.type.here ?_)))
  have e1 : (Value.type "dict" != Value.ref C) = true := by rfl
  simp only [e1, if_true]
  refine wpAny_bind ((PySem.W.looks_subIn I.kIn c.sub).here ?_)
  simp only [Bool.false_eq_true, if_false, Bool.not_false, if_true]
  refine wpAny_bind (m := tryCompare (.ref l) _ (.ref a)) (wpAny_tryCompare_declines ht PySem.F.slot_dict_eq (dec _ ⟨rfl, ?_⟩))
  refine wpAny_bind (m := tryCompare (.ref a) _ (.ref l)) ?_
  unfold tryCompare
  refine wpAny_bind (PySem.W.ifBound_K I.kIn J hm.at_ hm.fn (thn (eqFn_at F hb hx sb I (x := V.ref a) rfl rx d) fun r s' q => ?_))
  obtain ⟨rfl, I'⟩ := q
  exact wpAny_pure (wpAny_pure ⟨rfl, I'⟩)
/-! ### own == within comprehensions: K by name -/
theorem rcB_ownK {X : Cx} {n : Nat} {CX : CXT} {C f : Addr} {fd : FuncData} {ps : List Str} {R : Eqb} {E : XK} {K : PySem.W.Frag} (F : FnOk X.prog X.w X.K X.mg X.base CX n f fd ps (spEqB R)) (hm : Meth X.K C "__eq__" f) (hb : Binds X.K fd ps []) (hx : Passes CX X E) (hK : X.K = K := by rfl) : RcB X n (DOwn K C R) := by
  subst hK
  exact rcB_own F hm hb hx
theorem op_neBK {X : Cx} {n : Nat} {CX : CXT} {C f : Addr} {fd : FuncData} {ps : List Str} {R : Eqb} {E : XK} {K : PySem.W.Frag} (F : FnOk X.prog X.w X.K X.mg X.base CX n f fd ps (spEqB R)) (hm : Meth X.K C "__eq__" f) (c : EqC X.K C) (hb : Binds X.K fd ps []) (hx : Passes CX X E) (hr : Room (n + 1) X.A) (hK : X.K = K := by rfl) :
    OpR X (compareOp .NotEq) (fun x y H Q => ∃ b, DOwn K C R x y H b ∧ Q (.bl (!b)) H) := by
  subst hK
  exact op_neB F hm c hb hx hr
end My
namespace K16
open PySem PySem.Spec PyProof.Rows L2 My
/-! ### the text by places -/
def topS (i : Nat) : Stmt := PySem.Challenge.pw_sizeladders_k16_ladders_shown_and_alike.main.body.getD i (.Pass ⟨0, 0, 0, 0⟩)
abbrev s_is_whole : Stmt := (topS 8)
abbrev s_common_part : Stmt := (topS 10)
abbrev s_written : Stmt := (topS 11)
abbrev s_Measure_init : Stmt := (inClass (topS 12) 0)
abbrev s_Measure_eq : Stmt := (inClass (topS 12) 1)
abbrev s_Measure_str : Stmt := (inClass (topS 12) 2)
abbrev s_Measure_repr : Stmt := (inClass (topS 12) 3)
abbrev s_Measure_is_below : Stmt := (inClass (topS 12) 8)
abbrev s_is_measure_or_none : Stmt := (topS 13)
abbrev s_slip_of : Stmt := (topS 15)
abbrev s_are_marks : Stmt := (topS 19)
abbrev s_is_rule : Stmt := (topS 20)
abbrev s_is_span : Stmt := (topS 21)
abbrev s_bound_text : Stmt := (topS 24)
abbrev s_Ladder_init : Stmt := (inClass (topS 25) 0)
abbrev s_Ladder_eq : Stmt := (inClass (topS 25) 1)
abbrev s_Ladder_str : Stmt := (inClass (topS 25) 2)
abbrev s_Ladder_repr : Stmt := (inClass (topS 25) 3)
abbrev s_Ladder_len : Stmt := (inClass (topS 25) 4)
abbrev s_l_hand : Stmt := (topS 27)
abbrev s_l_take : Stmt := (topS 28)
abbrev s_l_of : Stmt := (topS 29)
abbrev s_l_ladder : Stmt := (topS 30)
abbrev s_l_near : Stmt := (topS 31)
abbrev s_l_measure : Stmt := (topS 32)
abbrev s_l_end : Stmt := (topS 33)
abbrev s_l_made : Stmt := (topS 34)
abbrev s_l_lowest : Stmt := (topS 35)
abbrev s_l_shown : Stmt := (topS 36)
abbrev s_l_named : Stmt := (topS 37)
abbrev s_l_text : Stmt := (topS 38)
abbrev s_l_name : Stmt := (topS 39)
abbrev s_l_others : Stmt := (topS 40)
abbrev s_l_are : Stmt := (topS 41)
abbrev s_l_right : Stmt := (topS 42)
abbrev s_law : Stmt := (topS 43)
abbrev N_is_whole : List Str := ["thing"]
abbrev p_is_whole : List Str := ["thing"]
theorem sc_is_whole : FnScope N_is_whole p_is_whole (defScope s_is_whole) := ⟨rfl, rfl, rfl, by decide +kernel, rfl, by decide +kernel, by decide +kernel⟩
abbrev N_common_part : List Str := ["one", "other", "great", "small"]
abbrev p_common_part : List Str := ["one", "other"]
theorem sc_common_part : FnScope N_common_part p_common_part (defScope s_common_part) := ⟨rfl, rfl, rfl, by decide +kernel, rfl, by decide +kernel, by decide +kernel⟩
abbrev N_written : List Str := ["top", "bottom", "whole", "rest"]
abbrev p_written : List Str := ["top", "bottom"]
theorem sc_written : FnScope N_written p_written (defScope s_written) := ⟨rfl, rfl, rfl, by decide +kernel, rfl, by decide +kernel, by decide +kernel⟩
abbrev N_Measure_init : List Str := ["self", "top", "bottom", "common"]
abbrev p_Measure_init : List Str := ["self", "top", "bottom"]
theorem sc_Measure_init : FnScope N_Measure_init p_Measure_init (defScope s_Measure_init) := ⟨rfl, rfl, rfl, by decide +kernel, rfl, by decide +kernel, by decide +kernel⟩
abbrev N_Measure_eq : List Str := ["self", "other"]
abbrev p_Measure_eq : List Str := ["self", "other"]
theorem sc_Measure_eq : FnScope N_Measure_eq p_Measure_eq (defScope s_Measure_eq) := ⟨rfl, rfl, rfl, by decide +kernel, rfl, by decide +kernel, by decide +kernel⟩
abbrev N_Measure_str : List Str := ["self"]
abbrev p_Measure_str : List Str := ["self"]
theorem sc_Measure_str : FnScope N_Measure_str p_Measure_str (defScope s_Measure_str) := ⟨rfl, rfl, rfl, by decide +kernel, rfl, by decide +kernel, by decide +kernel⟩
abbrev N_Measure_repr : List Str := ["self"]
abbrev p_Measure_repr : List Str := ["self"]
theorem sc_Measure_repr : FnScope N_Measure_repr p_Measure_repr (defScope s_Measure_repr) := ⟨rfl, rfl, rfl, by decide +kernel, rfl, by decide +kernel, by decide +kernel⟩
abbrev N_Measure_is_below : List Str := ["self", "other", "alike", "here", "there"]
abbrev p_Measure_is_below : List Str := ["self", "other", "alike"]
theorem sc_Measure_is_below : FnScope N_Measure_is_below p_Measure_is_below (defScope s_Measure_is_below) := ⟨rfl, rfl, rfl, by decide +kernel, rfl, by decide +kernel, by decide +kernel⟩
abbrev N_is_measure_or_none : List Str := ["thing"]
abbrev p_is_measure_or_none : List Str := ["thing"]
theorem sc_is_measure_or_none : FnScope N_is_measure_or_none p_is_measure_or_none (defScope s_is_measure_or_none) := ⟨rfl, rfl, rfl, by decide +kernel, rfl, by decide +kernel, by decide +kernel⟩
abbrev N_slip_of : List Str := ["rows", "number"]
abbrev p_slip_of : List Str := ["rows"]
theorem sc_slip_of : FnScope N_slip_of p_slip_of (defScope s_slip_of) := ⟨rfl, rfl, rfl, by decide +kernel, rfl, by decide +kernel, by decide +kernel⟩
abbrev N_are_marks : List Str := ["thing", "mark"]
abbrev p_are_marks : List Str := ["thing"]
theorem sc_are_marks : FnScope N_are_marks p_are_marks (defScope s_are_marks) := ⟨rfl, rfl, rfl, by decide +kernel, rfl, by decide +kernel, by decide +kernel⟩
abbrev N_is_rule : List Str := ["thing"]
abbrev p_is_rule : List Str := ["thing"]
theorem sc_is_rule : FnScope N_is_rule p_is_rule (defScope s_is_rule) := ⟨rfl, rfl, rfl, by decide +kernel, rfl, by decide +kernel, by decide +kernel⟩
abbrev N_is_span : List Str := ["least", "most"]
abbrev p_is_span : List Str := ["least", "most"]
theorem sc_is_span : FnScope N_is_span p_is_span (defScope s_is_span) := ⟨rfl, rfl, rfl, by decide +kernel, rfl, by decide +kernel, by decide +kernel⟩
abbrev N_bound_text : List Str := ["word", "bound"]
abbrev p_bound_text : List Str := ["word", "bound"]
theorem sc_bound_text : FnScope N_bound_text p_bound_text (defScope s_bound_text) := ⟨rfl, rfl, rfl, by decide +kernel, rfl, by decide +kernel, by decide +kernel⟩
abbrev N_Ladder_init : List Str := ["self", "marks", "rule", "least", "most", "slip"]
abbrev p_Ladder_init : List Str := ["self", "marks", "rule", "least", "most"]
theorem sc_Ladder_init : FnScope N_Ladder_init p_Ladder_init (defScope s_Ladder_init) := ⟨rfl, rfl, rfl, by decide +kernel, rfl, by decide +kernel, by decide +kernel⟩
abbrev N_Ladder_eq : List Str := ["self", "other"]
abbrev p_Ladder_eq : List Str := ["self", "other"]
theorem sc_Ladder_eq : FnScope N_Ladder_eq p_Ladder_eq (defScope s_Ladder_eq) := ⟨rfl, rfl, rfl, by decide +kernel, rfl, by decide +kernel, by decide +kernel⟩
abbrev N_Ladder_str : List Str := ["self", "mark"]
abbrev p_Ladder_str : List Str := ["self"]
theorem sc_Ladder_str : FnScope N_Ladder_str p_Ladder_str (defScope s_Ladder_str) := ⟨rfl, rfl, rfl, by decide +kernel, rfl, by decide +kernel, by decide +kernel⟩
abbrev N_Ladder_repr : List Str := ["self"]
abbrev p_Ladder_repr : List Str := ["self"]
theorem sc_Ladder_repr : FnScope N_Ladder_repr p_Ladder_repr (defScope s_Ladder_repr) := ⟨rfl, rfl, rfl, by decide +kernel, rfl, by decide +kernel, by decide +kernel⟩
abbrev N_Ladder_len : List Str := ["self"]
abbrev p_Ladder_len : List Str := ["self"]
theorem sc_Ladder_len : FnScope N_Ladder_len p_Ladder_len (defScope s_Ladder_len) := ⟨rfl, rfl, rfl, by decide +kernel, rfl, by decide +kernel, by decide +kernel⟩
abbrev N_l_hand : List Str := ["_law_script", "_law_k", "_law_cell", "_law_own"]
abbrev p_l_hand : List Str := ["_law_script", "_law_k"]
theorem sc_l_hand : FnScope N_l_hand p_l_hand (defScope s_l_hand) := ⟨rfl, rfl, rfl, by decide +kernel, rfl, by decide +kernel, by decide +kernel⟩
abbrev N_l_take : List Str := ["_law_hand_here", "_law_many", "_law_digit", "_law_turn", "_law_prime", "_law_mixed"]
abbrev p_l_take : List Str := ["_law_hand_here", "_law_many"]
theorem sc_l_take : FnScope N_l_take p_l_take (defScope s_l_take) := ⟨rfl, rfl, rfl, by decide +kernel, rfl, by decide +kernel, by decide +kernel⟩
abbrev N_l_of : List Str := ["_law_hand_here", "_law_some"]
abbrev p_l_of : List Str := ["_law_hand_here", "_law_some"]
theorem sc_l_of : FnScope N_l_of p_l_of (defScope s_l_of) := ⟨rfl, rfl, rfl, by decide +kernel, rfl, by decide +kernel, by decide +kernel⟩
abbrev N_l_ladder : List Str := ["_law_hand_here", "_law_rule", "_law_ends", "_law_part", "_law_many", "_law_wide", "_law_mark", "_law_marks", "_law_k", "_law_low", "_law_high", "_law_least", "_law_most"]
abbrev p_l_ladder : List Str := ["_law_hand_here"]
theorem sc_l_ladder : FnScope N_l_ladder p_l_ladder (defScope s_l_ladder) := ⟨rfl, rfl, rfl, by decide +kernel, rfl, by decide +kernel, by decide +kernel⟩
abbrev N_l_near : List Str := ["_law_hand_here", "_law_marks", "_law_at", "_law_other", "_law_spot"]
abbrev p_l_near : List Str := ["_law_hand_here", "_law_marks"]
theorem sc_l_near : FnScope N_l_near p_l_near (defScope s_l_near) := ⟨rfl, rfl, rfl, by decide +kernel, rfl, by decide +kernel, by decide +kernel⟩
abbrev N_l_measure : List Str := ["_law_part", "_law_units"]
abbrev p_l_measure : List Str := ["_law_part", "_law_units"]
theorem sc_l_measure : FnScope N_l_measure p_l_measure (defScope s_l_measure) := ⟨rfl, rfl, rfl, by decide +kernel, rfl, by decide +kernel, by decide +kernel⟩
abbrev N_l_end : List Str := ["_law_part", "_law_units"]
abbrev p_l_end : List Str := ["_law_part", "_law_units"]
theorem sc_l_end : FnScope N_l_end p_l_end (defScope s_l_end) := ⟨rfl, rfl, rfl, by decide +kernel, rfl, by decide +kernel, by decide +kernel⟩
abbrev N_l_made : List Str := ["_law_ladder_here", "_law_part", "_law_marks", "_law_rule", "_law_least", "_law_most", "_law_rows", "_law_mark"]
abbrev p_l_made : List Str := ["_law_ladder_here"]
theorem sc_l_made : FnScope N_l_made p_l_made (defScope s_l_made) := ⟨rfl, rfl, rfl, by decide +kernel, rfl, by decide +kernel, by decide +kernel⟩
abbrev N_l_lowest : List Str := ["_law_part", "_law_units", "_law_one", "_law_other"]
abbrev p_l_lowest : List Str := ["_law_part", "_law_units"]
theorem sc_l_lowest : FnScope N_l_lowest p_l_lowest (defScope s_l_lowest) := ⟨rfl, rfl, rfl, by decide +kernel, rfl, by decide +kernel, by decide +kernel⟩
abbrev N_l_shown : List Str := ["_law_part", "_law_units", "_law_top", "_law_bottom", "_law_whole", "_law_rest", "_law_words"]
abbrev p_l_shown : List Str := ["_law_part", "_law_units"]
theorem sc_l_shown : FnScope N_l_shown p_l_shown (defScope s_l_shown) := ⟨rfl, rfl, rfl, by decide +kernel, rfl, by decide +kernel, by decide +kernel⟩
abbrev N_l_named : List Str := ["_law_part", "_law_units", "_law_top", "_law_bottom"]
abbrev p_l_named : List Str := ["_law_part", "_law_units"]
theorem sc_l_named : FnScope N_l_named p_l_named (defScope s_l_named) := ⟨rfl, rfl, rfl, by decide +kernel, rfl, by decide +kernel, by decide +kernel⟩
abbrev N_l_text : List Str := ["_law_ladder_here", "_law_part", "_law_marks", "_law_rule", "_law_least", "_law_most", "_law_text_here", "_law_mark"]
abbrev p_l_text : List Str := ["_law_ladder_here"]
theorem sc_l_text : FnScope N_l_text p_l_text (defScope s_l_text) := ⟨rfl, rfl, rfl, by decide +kernel, rfl, by decide +kernel, by decide +kernel⟩
abbrev N_l_name : List Str := ["_law_ladder_here", "_law_part", "_law_marks", "_law_rule", "_law_least", "_law_most", "_law_rows", "_law_ends", "_law_mark"]
abbrev p_l_name : List Str := ["_law_ladder_here"]
theorem sc_l_name : FnScope N_l_name p_l_name (defScope s_l_name) := ⟨rfl, rfl, rfl, by decide +kernel, rfl, by decide +kernel, by decide +kernel⟩
abbrev N_l_others : List Str := ["_law_hand_here", "_law_ladder_here", "_law_part", "_law_marks", "_law_rule", "_law_least", "_law_most", "_law_at", "_law_found", "_law_low", "_law_high", "_law_other"]
abbrev p_l_others : List Str := ["_law_hand_here", "_law_ladder_here"]
theorem sc_l_others : FnScope N_l_others p_l_others (defScope s_l_others) := ⟨rfl, rfl, rfl, by decide +kernel, rfl, by decide +kernel, by decide +kernel⟩
abbrev N_l_are : List Str := ["_law_one", "_law_other", "_law_due", "_law_told"]
abbrev p_l_are : List Str := ["_law_one", "_law_other", "_law_due"]
theorem sc_l_are : FnScope N_l_are p_l_are (defScope s_l_are) := ⟨rfl, rfl, rfl, by decide +kernel, rfl, by decide +kernel, by decide +kernel⟩
abbrev N_l_right : List Str := ["_law_hand_here", "_law_ladder_here", "_law_made_here", "_law_again", "_law_other", "_law_one", "_law_odd", "_law_thing"]
abbrev p_l_right : List Str := ["_law_hand_here"]
theorem sc_l_right : FnScope N_l_right p_l_right (defScope s_l_right) := ⟨rfl, rfl, rfl, by decide +kernel, rfl, by decide +kernel, by decide +kernel⟩
abbrev N_law : List Str := ["_law_script", "_law_k"]
abbrev p_law : List Str := ["_law_script"]
theorem sc_law : FnScope N_law p_law (defScope s_law) := ⟨rfl, rfl, rfl, by decide +kernel, rfl, by decide +kernel, by decide +kernel⟩

/-! ### the head -/
def h_is_whole : He.DefD := ⟨("is_whole", none), "is_whole", "is_whole", defArgs s_is_whole, defBody s_is_whole, defScope s_is_whole, [], []⟩
def h_common_part : He.DefD := ⟨("common_part", none), "common_part", "common_part", defArgs s_common_part, defBody s_common_part, defScope s_common_part, [], []⟩
def h_written : He.DefD := ⟨("written", none), "written", "written", defArgs s_written, defBody s_written, defScope s_written, [], []⟩
def h_Measure_init : He.DefD := ⟨("Measure", some "__init__"), "__init__", "Measure.__init__", defArgs s_Measure_init, defBody s_Measure_init, defScope s_Measure_init, [.int 1], []⟩
def h_Measure_eq : He.DefD := ⟨("Measure", some "__eq__"), "__eq__", "Measure.__eq__", defArgs s_Measure_eq, defBody s_Measure_eq, defScope s_Measure_eq, [], []⟩
def h_Measure_str : He.DefD := ⟨("Measure", some "__str__"), "__str__", "Measure.__str__", defArgs s_Measure_str, defBody s_Measure_str, defScope s_Measure_str, [], []⟩
def h_Measure_repr : He.DefD := ⟨("Measure", some "__repr__"), "__repr__", "Measure.__repr__", defArgs s_Measure_repr, defBody s_Measure_repr, defScope s_Measure_repr, [], []⟩
def h_Measure_is_below : He.DefD := ⟨("Measure", some "is_below"), "is_below", "Measure.is_below", defArgs s_Measure_is_below, defBody s_Measure_is_below, defScope s_Measure_is_below, [.bl false], []⟩
def h_is_measure_or_none : He.DefD := ⟨("is_measure_or_none", none), "is_measure_or_none", "is_measure_or_none", defArgs s_is_measure_or_none, defBody s_is_measure_or_none, defScope s_is_measure_or_none, [], []⟩
def h_slip_of : He.DefD := ⟨("slip_of", none), "slip_of", "slip_of", defArgs s_slip_of, defBody s_slip_of, defScope s_slip_of, [], []⟩
def h_are_marks : He.DefD := ⟨("are_marks", none), "are_marks", "are_marks", defArgs s_are_marks, defBody s_are_marks, defScope s_are_marks, [], []⟩
def h_is_rule : He.DefD := ⟨("is_rule", none), "is_rule", "is_rule", defArgs s_is_rule, defBody s_is_rule, defScope s_is_rule, [], []⟩
def h_is_span : He.DefD := ⟨("is_span", none), "is_span", "is_span", defArgs s_is_span, defBody s_is_span, defScope s_is_span, [], []⟩
def h_bound_text : He.DefD := ⟨("bound_text", none), "bound_text", "bound_text", defArgs s_bound_text, defBody s_bound_text, defScope s_bound_text, [], []⟩
def h_Ladder_init : He.DefD := ⟨("Ladder", some "__init__"), "__init__", "Ladder.__init__", defArgs s_Ladder_init, defBody s_Ladder_init, defScope s_Ladder_init, [.str "up", .non, .non], []⟩
def h_Ladder_eq : He.DefD := ⟨("Ladder", some "__eq__"), "__eq__", "Ladder.__eq__", defArgs s_Ladder_eq, defBody s_Ladder_eq, defScope s_Ladder_eq, [], []⟩
def h_Ladder_str : He.DefD := ⟨("Ladder", some "__str__"), "__str__", "Ladder.__str__", defArgs s_Ladder_str, defBody s_Ladder_str, defScope s_Ladder_str, [], []⟩
def h_Ladder_repr : He.DefD := ⟨("Ladder", some "__repr__"), "__repr__", "Ladder.__repr__", defArgs s_Ladder_repr, defBody s_Ladder_repr, defScope s_Ladder_repr, [], []⟩
def h_Ladder_len : He.DefD := ⟨("Ladder", some "__len__"), "__len__", "Ladder.__len__", defArgs s_Ladder_len, defBody s_Ladder_len, defScope s_Ladder_len, [], []⟩
def h_l_hand : He.DefD := ⟨("_law_hand", none), "_law_hand", "_law_hand", defArgs s_l_hand, defBody s_l_hand, defScope s_l_hand, [], []⟩
def h_l_take : He.DefD := ⟨("_law_take", none), "_law_take", "_law_take", defArgs s_l_take, defBody s_l_take, defScope s_l_take, [], []⟩
def h_l_of : He.DefD := ⟨("_law_of", none), "_law_of", "_law_of", defArgs s_l_of, defBody s_l_of, defScope s_l_of, [], []⟩
def h_l_ladder : He.DefD := ⟨("_law_ladder", none), "_law_ladder", "_law_ladder", defArgs s_l_ladder, defBody s_l_ladder, defScope s_l_ladder, [], []⟩
def h_l_near : He.DefD := ⟨("_law_near", none), "_law_near", "_law_near", defArgs s_l_near, defBody s_l_near, defScope s_l_near, [], []⟩
def h_l_measure : He.DefD := ⟨("_law_measure", none), "_law_measure", "_law_measure", defArgs s_l_measure, defBody s_l_measure, defScope s_l_measure, [], []⟩
def h_l_end : He.DefD := ⟨("_law_end", none), "_law_end", "_law_end", defArgs s_l_end, defBody s_l_end, defScope s_l_end, [], []⟩
def h_l_made : He.DefD := ⟨("_law_made", none), "_law_made", "_law_made", defArgs s_l_made, defBody s_l_made, defScope s_l_made, [], []⟩
def h_l_lowest : He.DefD := ⟨("_law_lowest", none), "_law_lowest", "_law_lowest", defArgs s_l_lowest, defBody s_l_lowest, defScope s_l_lowest, [], []⟩
def h_l_shown : He.DefD := ⟨("_law_shown", none), "_law_shown", "_law_shown", defArgs s_l_shown, defBody s_l_shown, defScope s_l_shown, [], []⟩
def h_l_named : He.DefD := ⟨("_law_named", none), "_law_named", "_law_named", defArgs s_l_named, defBody s_l_named, defScope s_l_named, [], []⟩
def h_l_text : He.DefD := ⟨("_law_text", none), "_law_text", "_law_text", defArgs s_l_text, defBody s_l_text, defScope s_l_text, [], []⟩
def h_l_name : He.DefD := ⟨("_law_name", none), "_law_name", "_law_name", defArgs s_l_name, defBody s_l_name, defScope s_l_name, [], []⟩
def h_l_others : He.DefD := ⟨("_law_others", none), "_law_others", "_law_others", defArgs s_l_others, defBody s_l_others, defScope s_l_others, [], []⟩
def h_l_are : He.DefD := ⟨("_law_are", none), "_law_are", "_law_are", defArgs s_l_are, defBody s_l_are, defScope s_l_are, [], []⟩
def h_l_right : He.DefD := ⟨("_law_right", none), "_law_right", "_law_right", defArgs s_l_right, defBody s_l_right, defScope s_l_right, [], []⟩
def h_law : He.DefD := ⟨("law", none), "law", "law", defArgs s_law, defBody s_law, defScope s_law, [], []⟩
def fn : List He.DefD := [h_is_whole, h_common_part, h_written, h_Measure_init, h_Measure_eq, h_Measure_str, h_Measure_repr, h_Measure_is_below, h_is_measure_or_none, h_slip_of, h_are_marks, h_is_rule, h_is_span, h_bound_text, h_Ladder_init, h_Ladder_eq, h_Ladder_str, h_Ladder_repr, h_Ladder_len, h_l_hand, h_l_take, h_l_of, h_l_ladder, h_l_near, h_l_measure, h_l_end, h_l_made, h_l_lowest, h_l_shown, h_l_named, h_l_text, h_l_name, h_l_others, h_l_are, h_l_right, h_law]
def fa : List He.Fa := [.glo "is_whole", .glo "common_part", .glo "written", .glo "is_measure_or_none", .glo "slip_of", .glo "are_marks", .glo "is_rule", .glo "is_span", .glo "bound_text", .glo "_law_hand", .glo "_law_take", .glo "_law_of", .glo "_law_ladder", .glo "_law_near", .glo "_law_measure", .glo "_law_end", .glo "_law_made", .glo "_law_lowest", .glo "_law_shown", .glo "_law_named", .glo "_law_text", .glo "_law_name", .glo "_law_others", .glo "_law_are", .glo "_law_right", .glo "law", .glo "Measure", .glo "Ladder", .glo "RULES", .int "MOST_MARKS" 24, .free "abs", .free "all", .free "any", .free "bool", .free "divmod", .free "int", .free "isinstance", .free "len", .free "max", .free "min", .free "range", .free "repr", .free "str", .free "tuple", .cls "Measure", .noat "Measure" "top", .noat "Measure" "bottom", .meth "Measure" "__eq__", .meth "Measure" "__str__", .meth "Measure" "__repr__", .meth "Measure" "is_below", .mkr "Measure", .cls "Ladder", .noat "Ladder" "marks", .noat "Ladder" "rule", .noat "Ladder" "least", .noat "Ladder" "most", .meth "Ladder" "__eq__", .meth "Ladder" "__str__", .meth "Ladder" "__repr__", .meth "Ladder" "__len__", .mkr "Ladder"]
abbrev R : PySem.W.OpenRow := PySem.W.OpenLaw.row PySem.Challenge.rw_sizeladders_k16_ladders_shown_and_alike
def ex : List (PySem.W.Frag → Bool) := [isCB "Measure", isCB "Ladder", eqCB "Measure", eqCB "Ladder", eqDB "Ladder", fmCB "Measure", nfB "Ladder" "Measure", nfB "Measure" "Ladder", tupB "RULES" ["up", "down", "near"], kitF (.inl "Measure") (.inl "Measure") true, kitF (.inl "Ladder") (.inl "Ladder") true, kitF (.inl "Measure") (.inl "Ladder") false, kitF (.inl "Ladder") (.inl "Measure") false]
abbrev hk : PySem.W.Hook := hookM 5 fa fn ex
def ob (s : PySem.W.SharedT) : He.AlD × Bool := obsM 5 fa fn ex (HandSHeadRun.getT s)
theorem ob_eq (s : PySem.W.SharedT) : ob s = hk.obs s.abs := obsM_eq (HandSHeadRun.getT_eq s)
theorem run (w : World) : HandSHeadRun.RunEq R (PySem.W.view R.prog [43]) hk ob 20000 [("_wall" : PySem.Str), ("LadderError" : PySem.Str), ("NoMeasure" : PySem.Str), ("NoLadder" : PySem.Str), ("Slip" : PySem.Str), ("NoBottom" : PySem.Str), ("is_whole" : PySem.Str), ("common_part" : PySem.Str), ("written" : PySem.Str), ("Measure" : PySem.Str), ("is_measure_or_none" : PySem.Str), ("slip_of" : PySem.Str), ("MOST_MARKS" : PySem.Str), ("RULES" : PySem.Str), ("are_marks" : PySem.Str), ("is_rule" : PySem.Str), ("is_span" : PySem.Str), ("midsts_of" : PySem.Str), ("size_by_rule" : PySem.Str), ("bound_text" : PySem.Str), ("Ladder" : PySem.Str), ("_law_hand" : PySem.Str), ("_law_take" : PySem.Str), ("_law_of" : PySem.Str), ("_law_ladder" : PySem.Str), ("_law_near" : PySem.Str), ("_law_measure" : PySem.Str), ("_law_end" : PySem.Str), ("_law_made" : PySem.Str), ("_law_lowest" : PySem.Str), ("_law_shown" : PySem.Str), ("_law_named" : PySem.Str), ("_law_text" : PySem.Str), ("_law_name" : PySem.Str), ("_law_others" : PySem.Str), ("_law_are" : PySem.Str), ("_law_right" : PySem.Str)] w := by
  intro os
  kernel_rfl

end K16
namespace K16
open PySem PySem.Spec PyProof.Rows L2 My
local macro_rules | `(tactic| walk_at "c") => `(tactic| first | exact Eq.refl _ | ((with_reducible show (_ : Int) ≤ _); omega) | ((with_reducible show (_ : Int) < _); omega) | ((with_reducible show (_ : Nat) ≤ _); omega) | ((with_reducible show (_ : Nat) < _); omega) | assumption | with_reducible exact lf_marks _ _ _ _ | with_reducible exact lf_rule _ _ _ _ | with_reducible exact lf_least _ _ _ _ | with_reducible exact lf_most _ _ _ _ | with_reducible exact mf_top _ _ | with_reducible exact mf_bottom _ _ | with_reducible exact sf_low _ _ _ _ | with_reducible exact sf_high _ _ _ _ | with_reducible exact sf_low_in _ _ _ _ | with_reducible exact sf_high_in _ _ _ _ | exact SqL.of (by assumption) | exact SqT.of (by assumption) | exact Or.inl (SqL.of (by assumption)) | exact Or.inr (SqT.of (by assumption)) | exact Or.inr (by assumption) | exact Or.inl (by assumption) | omega | exact atI_nat (by assumption) | exact atI_of (n := 0) rfl (by assumption) | exact logS (by omega) | exact Or.inl (Or.inl ⟨by omega, by omega⟩) | exact Or.inl (Or.inr ⟨by omega, by omega⟩) | exact szb rfl | exact szs (by omega) | exact szl (by omega) | exact Or.inl ⟨Eq.refl _, _, SqL.of (by assumption)⟩ | exact ⟨_, SqT.of (by assumption)⟩ | exact ⟨_, SqL.of (by assumption)⟩ | exact ⟨by omega, by omega, by omega, by omega⟩)
local macro_rules | `(tactic| walk_at "e") => `(tactic| first | rfl | exact ⟨rfl, rfl⟩ | exact ⟨rfl, rfl, rfl⟩ | assumption | exact trivial)
local macro_rules | `(tactic| walk_at "w1") => `(tactic| first
  | refine q_belowT (by assumption) (by assumption) (by omega) (by omega) ?_ | refine q_belowA (by assumption) (by assumption) (by omega) (by omega) ?_ | refine q_subT (by assumption) (by assumption) (by omega) (by omega) (by omega) ?_
  | refine meth_q (by assumption) (by decide +kernel) (by decide +kernel) ?_ | refine meth_l (by assumption) (by decide +kernel) (by decide +kernel) (by decide +kernel) (by decide +kernel) ?_ | refine meth_s (by assumption) (by decide +kernel) (by decide +kernel) (by decide +kernel) (by decide +kernel) ?_
  | apply @Exists.intro V | apply @Exists.intro Int | apply @Exists.intro Addr | apply @Exists.intro Bool | apply @Exists.intro (List V) | apply @Exists.intro Str | apply @Exists.intro Nat | apply @Exists.intro (List (Str × V))
  | refine And.intro (by walk_at "c") ?_ | refine iteT ?_ | refine iteF ?_ | refine iteDT (by omega) ?_ | refine iteDF (by omega) ?_ | refine iteNS (by omega) ?_ | refine iteNT (by omega) ?_)
local macro_rules | `(tactic| walk_at "w") => `(tactic| repeat (walk_at "w1"))
local macro_rules | `(tactic| walk_at "wa1") => `(tactic| first | refine q_addT (by assumption) (by assumption) (by omega) (by omega) (by omega) ?_ | refine q_mulT (by assumption) (by assumption) (by omega) (by omega) (by omega) ?_ | walk_at "w1")
local macro_rules | `(tactic| walk_at "wa") => `(tactic| repeat (walk_at "wa1"))
local macro_rules | `(tactic| walk_at "hand") => `(tactic| first | assumption | exact HandAt.up (by walk_at "hand") (by assumption))
local macro_rules | `(tactic| walk_at "hp") => `(tactic| first | assumption | exact upd_same | exact up1 (by assumption) (by walk_at "hp") | exact Kp.get (by assumption) (by walk_at "hand") (by walk_at "hp") (by rfl) | exact L2.Same.get (by assumption) (by walk_at "hp") | exact up2 (by assumption) (by walk_at "hp") (by rfl))
local macro_rules | `(tactic| walk_at "c") => `(tactic| (with_reducible apply zLen; simp only [Str.length_append]; omega))

/-! ### what the top has written -/
structure Fds where
  is_whole : FuncData
  common_part : FuncData
  written : FuncData
  Measure_init : FuncData
  Measure_eq : FuncData
  Measure_str : FuncData
  Measure_repr : FuncData
  Measure_is_below : FuncData
  is_measure_or_none : FuncData
  slip_of : FuncData
  are_marks : FuncData
  is_rule : FuncData
  is_span : FuncData
  bound_text : FuncData
  Ladder_init : FuncData
  Ladder_eq : FuncData
  Ladder_str : FuncData
  Ladder_repr : FuncData
  Ladder_len : FuncData
  l_hand : FuncData
  l_take : FuncData
  l_of : FuncData
  l_ladder : FuncData
  l_near : FuncData
  l_measure : FuncData
  l_end : FuncData
  l_made : FuncData
  l_lowest : FuncData
  l_shown : FuncData
  l_named : FuncData
  l_text : FuncData
  l_name : FuncData
  l_others : FuncData
  l_are : FuncData
  l_right : FuncData
  law : FuncData
structure Txt (K : PySem.W.Frag) (mg : Str → Option Value) (φ : Fds) : Prop where
  g_is_whole : mg "is_whole" = some (.ref (He.ga K "is_whole"))
  g_common_part : mg "common_part" = some (.ref (He.ga K "common_part"))
  g_written : mg "written" = some (.ref (He.ga K "written"))
  g_is_measure_or_none : mg "is_measure_or_none" = some (.ref (He.ga K "is_measure_or_none"))
  g_slip_of : mg "slip_of" = some (.ref (He.ga K "slip_of"))
  g_are_marks : mg "are_marks" = some (.ref (He.ga K "are_marks"))
  g_is_rule : mg "is_rule" = some (.ref (He.ga K "is_rule"))
  g_is_span : mg "is_span" = some (.ref (He.ga K "is_span"))
  g_bound_text : mg "bound_text" = some (.ref (He.ga K "bound_text"))
  g_l_hand : mg "_law_hand" = some (.ref (He.ga K "_law_hand"))
  g_l_take : mg "_law_take" = some (.ref (He.ga K "_law_take"))
  g_l_of : mg "_law_of" = some (.ref (He.ga K "_law_of"))
  g_l_ladder : mg "_law_ladder" = some (.ref (He.ga K "_law_ladder"))
  g_l_near : mg "_law_near" = some (.ref (He.ga K "_law_near"))
  g_l_measure : mg "_law_measure" = some (.ref (He.ga K "_law_measure"))
  g_l_end : mg "_law_end" = some (.ref (He.ga K "_law_end"))
  g_l_made : mg "_law_made" = some (.ref (He.ga K "_law_made"))
  g_l_lowest : mg "_law_lowest" = some (.ref (He.ga K "_law_lowest"))
  g_l_shown : mg "_law_shown" = some (.ref (He.ga K "_law_shown"))
  g_l_named : mg "_law_named" = some (.ref (He.ga K "_law_named"))
  g_l_text : mg "_law_text" = some (.ref (He.ga K "_law_text"))
  g_l_name : mg "_law_name" = some (.ref (He.ga K "_law_name"))
  g_l_others : mg "_law_others" = some (.ref (He.ga K "_law_others"))
  g_l_are : mg "_law_are" = some (.ref (He.ga K "_law_are"))
  g_l_right : mg "_law_right" = some (.ref (He.ga K "_law_right"))
  g_law : mg "law" = some (.ref (He.ga K "law"))
  g_Measure : mg "Measure" = some (.ref (He.ga K "Measure"))
  g_Ladder : mg "Ladder" = some (.ref (He.ga K "Ladder"))
  g_RULES : mg "RULES" = some (.ref (He.ga K "RULES"))
  v_MOST_MARKS : ∃ t, mg "MOST_MARKS" = some (.int 24 t)
  z_abs : mg "abs" = none
  z_all : mg "all" = none
  z_any : mg "any" = none
  z_bool : mg "bool" = none
  z_divmod : mg "divmod" = none
  z_int : mg "int" = none
  z_isinstance : mg "isinstance" = none
  z_len : mg "len" = none
  z_max : mg "max" = none
  z_min : mg "min" = none
  z_range : mg "range" = none
  z_repr : mg "repr" = none
  z_str : mg "str" = none
  z_tuple : mg "tuple" = none
  cl_Measure : Cls K (He.ga K "Measure")
  na_Measure_top : NoAttr K (He.ga K "Measure") "top"
  na_Measure_bottom : NoAttr K (He.ga K "Measure") "bottom"
  me_Measure_eq : Meth K (He.ga K "Measure") "__eq__" (He.ma K (He.ga K "Measure") "__eq__")
  me_Measure_str : Meth K (He.ga K "Measure") "__str__" (He.ma K (He.ga K "Measure") "__str__")
  me_Measure_repr : Meth K (He.ga K "Measure") "__repr__" (He.ma K (He.ga K "Measure") "__repr__")
  me_Measure_is_below : Meth K (He.ga K "Measure") "is_below" (He.ma K (He.ga K "Measure") "is_below")
  mk_Measure : Mk K (He.ga K "Measure") (He.ma K (He.ga K "Measure") "__init__")
  cl_Ladder : Cls K (He.ga K "Ladder")
  na_Ladder_marks : NoAttr K (He.ga K "Ladder") "marks"
  na_Ladder_rule : NoAttr K (He.ga K "Ladder") "rule"
  na_Ladder_least : NoAttr K (He.ga K "Ladder") "least"
  na_Ladder_most : NoAttr K (He.ga K "Ladder") "most"
  me_Ladder_eq : Meth K (He.ga K "Ladder") "__eq__" (He.ma K (He.ga K "Ladder") "__eq__")
  me_Ladder_str : Meth K (He.ga K "Ladder") "__str__" (He.ma K (He.ga K "Ladder") "__str__")
  me_Ladder_repr : Meth K (He.ga K "Ladder") "__repr__" (He.ma K (He.ga K "Ladder") "__repr__")
  me_Ladder_len : Meth K (He.ga K "Ladder") "__len__" (He.ma K (He.ga K "Ladder") "__len__")
  mk_Ladder : Mk K (He.ga K "Ladder") (He.ma K (He.ga K "Ladder") "__init__")
  ii_Measure : IsC K (He.ga K "Measure")
  ii_Ladder : IsC K (He.ga K "Ladder")
  ec_Measure : EqC K (He.ga K "Measure")
  ec_Ladder : EqC K (He.ga K "Ladder")
  ed_Ladder : EqD K (He.ga K "Ladder")
  fm_Measure : FmC K (He.ga K "Measure")
  nf_Ladder_Measure : PySem.W.notFirst K (He.ga K "Ladder") (.ref (He.ga K "Measure")) = true
  nf_Measure_Ladder : PySem.W.notFirst K (He.ga K "Measure") (.ref (He.ga K "Ladder")) = true
  tp_RULES : ∀ H, SqT K H (He.ga K "RULES") ((["up", "down", "near"] : List Str).map V.str)
  k_Measure_Measure : PySem.W.kitOne K (.ref (He.ga K "Measure")) (.ref (He.ga K "Measure")) = some true
  k_Ladder_Ladder : PySem.W.kitOne K (.ref (He.ga K "Ladder")) (.ref (He.ga K "Ladder")) = some true
  k_Measure_Ladder : PySem.W.kitOne K (.ref (He.ga K "Measure")) (.ref (He.ga K "Ladder")) = some false
  k_Ladder_Measure : PySem.W.kitOne K (.ref (He.ga K "Ladder")) (.ref (He.ga K "Measure")) = some false
  f_is_whole : FunD K "is_whole" "is_whole" (defArgs s_is_whole) (defBody s_is_whole) (defScope s_is_whole) [] [] (He.fAd K ("is_whole", none)) φ.is_whole
  f_common_part : FunD K "common_part" "common_part" (defArgs s_common_part) (defBody s_common_part) (defScope s_common_part) [] [] (He.fAd K ("common_part", none)) φ.common_part
  f_written : FunD K "written" "written" (defArgs s_written) (defBody s_written) (defScope s_written) [] [] (He.fAd K ("written", none)) φ.written
  f_Measure_init : FunD K "__init__" "Measure.__init__" (defArgs s_Measure_init) (defBody s_Measure_init) (defScope s_Measure_init) [V.int 1] [] (He.fAd K ("Measure", some "__init__")) φ.Measure_init
  f_Measure_eq : FunD K "__eq__" "Measure.__eq__" (defArgs s_Measure_eq) (defBody s_Measure_eq) (defScope s_Measure_eq) [] [] (He.fAd K ("Measure", some "__eq__")) φ.Measure_eq
  f_Measure_str : FunD K "__str__" "Measure.__str__" (defArgs s_Measure_str) (defBody s_Measure_str) (defScope s_Measure_str) [] [] (He.fAd K ("Measure", some "__str__")) φ.Measure_str
  f_Measure_repr : FunD K "__repr__" "Measure.__repr__" (defArgs s_Measure_repr) (defBody s_Measure_repr) (defScope s_Measure_repr) [] [] (He.fAd K ("Measure", some "__repr__")) φ.Measure_repr
  f_Measure_is_below : FunD K "is_below" "Measure.is_below" (defArgs s_Measure_is_below) (defBody s_Measure_is_below) (defScope s_Measure_is_below) [V.bl false] [] (He.fAd K ("Measure", some "is_below")) φ.Measure_is_below
  f_is_measure_or_none : FunD K "is_measure_or_none" "is_measure_or_none" (defArgs s_is_measure_or_none) (defBody s_is_measure_or_none) (defScope s_is_measure_or_none) [] [] (He.fAd K ("is_measure_or_none", none)) φ.is_measure_or_none
  f_slip_of : FunD K "slip_of" "slip_of" (defArgs s_slip_of) (defBody s_slip_of) (defScope s_slip_of) [] [] (He.fAd K ("slip_of", none)) φ.slip_of
  f_are_marks : FunD K "are_marks" "are_marks" (defArgs s_are_marks) (defBody s_are_marks) (defScope s_are_marks) [] [] (He.fAd K ("are_marks", none)) φ.are_marks
  f_is_rule : FunD K "is_rule" "is_rule" (defArgs s_is_rule) (defBody s_is_rule) (defScope s_is_rule) [] [] (He.fAd K ("is_rule", none)) φ.is_rule
  f_is_span : FunD K "is_span" "is_span" (defArgs s_is_span) (defBody s_is_span) (defScope s_is_span) [] [] (He.fAd K ("is_span", none)) φ.is_span
  f_bound_text : FunD K "bound_text" "bound_text" (defArgs s_bound_text) (defBody s_bound_text) (defScope s_bound_text) [] [] (He.fAd K ("bound_text", none)) φ.bound_text
  f_Ladder_init : FunD K "__init__" "Ladder.__init__" (defArgs s_Ladder_init) (defBody s_Ladder_init) (defScope s_Ladder_init) [V.str "up", V.non, V.non] [] (He.fAd K ("Ladder", some "__init__")) φ.Ladder_init
  f_Ladder_eq : FunD K "__eq__" "Ladder.__eq__" (defArgs s_Ladder_eq) (defBody s_Ladder_eq) (defScope s_Ladder_eq) [] [] (He.fAd K ("Ladder", some "__eq__")) φ.Ladder_eq
  f_Ladder_str : FunD K "__str__" "Ladder.__str__" (defArgs s_Ladder_str) (defBody s_Ladder_str) (defScope s_Ladder_str) [] [] (He.fAd K ("Ladder", some "__str__")) φ.Ladder_str
  f_Ladder_repr : FunD K "__repr__" "Ladder.__repr__" (defArgs s_Ladder_repr) (defBody s_Ladder_repr) (defScope s_Ladder_repr) [] [] (He.fAd K ("Ladder", some "__repr__")) φ.Ladder_repr
  f_Ladder_len : FunD K "__len__" "Ladder.__len__" (defArgs s_Ladder_len) (defBody s_Ladder_len) (defScope s_Ladder_len) [] [] (He.fAd K ("Ladder", some "__len__")) φ.Ladder_len
  f_l_hand : FunD K "_law_hand" "_law_hand" (defArgs s_l_hand) (defBody s_l_hand) (defScope s_l_hand) [] [] (He.fAd K ("_law_hand", none)) φ.l_hand
  f_l_take : FunD K "_law_take" "_law_take" (defArgs s_l_take) (defBody s_l_take) (defScope s_l_take) [] [] (He.fAd K ("_law_take", none)) φ.l_take
  f_l_of : FunD K "_law_of" "_law_of" (defArgs s_l_of) (defBody s_l_of) (defScope s_l_of) [] [] (He.fAd K ("_law_of", none)) φ.l_of
  f_l_ladder : FunD K "_law_ladder" "_law_ladder" (defArgs s_l_ladder) (defBody s_l_ladder) (defScope s_l_ladder) [] [] (He.fAd K ("_law_ladder", none)) φ.l_ladder
  f_l_near : FunD K "_law_near" "_law_near" (defArgs s_l_near) (defBody s_l_near) (defScope s_l_near) [] [] (He.fAd K ("_law_near", none)) φ.l_near
  f_l_measure : FunD K "_law_measure" "_law_measure" (defArgs s_l_measure) (defBody s_l_measure) (defScope s_l_measure) [] [] (He.fAd K ("_law_measure", none)) φ.l_measure
  f_l_end : FunD K "_law_end" "_law_end" (defArgs s_l_end) (defBody s_l_end) (defScope s_l_end) [] [] (He.fAd K ("_law_end", none)) φ.l_end
  f_l_made : FunD K "_law_made" "_law_made" (defArgs s_l_made) (defBody s_l_made) (defScope s_l_made) [] [] (He.fAd K ("_law_made", none)) φ.l_made
  f_l_lowest : FunD K "_law_lowest" "_law_lowest" (defArgs s_l_lowest) (defBody s_l_lowest) (defScope s_l_lowest) [] [] (He.fAd K ("_law_lowest", none)) φ.l_lowest
  f_l_shown : FunD K "_law_shown" "_law_shown" (defArgs s_l_shown) (defBody s_l_shown) (defScope s_l_shown) [] [] (He.fAd K ("_law_shown", none)) φ.l_shown
  f_l_named : FunD K "_law_named" "_law_named" (defArgs s_l_named) (defBody s_l_named) (defScope s_l_named) [] [] (He.fAd K ("_law_named", none)) φ.l_named
  f_l_text : FunD K "_law_text" "_law_text" (defArgs s_l_text) (defBody s_l_text) (defScope s_l_text) [] [] (He.fAd K ("_law_text", none)) φ.l_text
  f_l_name : FunD K "_law_name" "_law_name" (defArgs s_l_name) (defBody s_l_name) (defScope s_l_name) [] [] (He.fAd K ("_law_name", none)) φ.l_name
  f_l_others : FunD K "_law_others" "_law_others" (defArgs s_l_others) (defBody s_l_others) (defScope s_l_others) [] [] (He.fAd K ("_law_others", none)) φ.l_others
  f_l_are : FunD K "_law_are" "_law_are" (defArgs s_l_are) (defBody s_l_are) (defScope s_l_are) [] [] (He.fAd K ("_law_are", none)) φ.l_are
  f_l_right : FunD K "_law_right" "_law_right" (defArgs s_l_right) (defBody s_l_right) (defScope s_l_right) [] [] (He.fAd K ("_law_right", none)) φ.l_right
  f_law : FunD K "law" "law" (defArgs s_law) (defBody s_law) (defScope s_law) [] [] (He.fAd K ("law", none)) φ.law
def sp_written : Sp := fun vs H Q _ => ∃ a u : Int, vs = [.int a, .int u] ∧ 0 ≤ a ∧ 0 < u ∧ Sz 1900 a ∧ Sz 1900 u ∧ ∀ H', Same H H' → Q (.str (wTxt a u)) H'
def sp_mstr (C : Addr) : Sp := fun vs H Q _ => ∃ (p : Addr) (t u : Int), vs = [.ref p] ∧ MAt C H p t u ∧ 0 < u ∧ Sz 1900 t ∧ Sz 1900 u ∧ ∀ H', Same H H' → Q (.str (mTxt t u)) H'
def sp_mrep (C : Addr) : Sp := fun vs H Q _ => ∃ (p : Addr) (t u : Int), vs = [.ref p] ∧ MAt C H p t u ∧ Sz 1900 t ∧ Sz 1900 u ∧ Q (.str (mRep t u)) H

def lowQ (x : Q2) : Q2 := (x.1.fdiv (Int.gcd x.1 x.2), x.2.fdiv (Int.gcd x.1 x.2))
theorem lowQ_fr {x : Q2} (h : 0 < x.2) : Fr (lowQ x).1 (lowQ x).2 x.1 x.2 := by
  have es : (Int.gcd x.1 x.2 : Int) = sgn x.2 * (Int.gcd x.1 x.2 : Int) := by
    unfold sgn
    rw [if_pos h, Int.one_mul]
  exact (fr_mk (a := x.1) (b := x.2) (by omega) es).2.2
theorem qat_low {C : Addr} {H : Hp} {p : Addr} {k : Nat} {x : Q2} (a : QAt C H p k x) (k4 : k ≤ 4000) : MAt C H p (lowQ x).1 (lowQ x).2 := by
  obtain ⟨⟨t, u, m, f⟩, h, s1, s2⟩ := a
  obtain ⟨rfl, rfl⟩ := fr_uniq f (lowQ_fr h) (by omega) (s1.mono k4) (s2.mono k4)
  exact m
theorem low_of_eqq {x y : Q2} {k j : Nat} (hx : 0 < x.2) (hy : 0 < y.2) (a1 : Sz k x.1) (a2 : Sz k x.2) (b1 : Sz j y.1) (b2 : Sz j y.2) (k4 : k ≤ 4000) (j4 : j ≤ 4000) (e : x.1 * y.2 = y.1 * x.2) : lowQ x = lowQ y := by
  have f := lowQ_fr hx
  have g := lowQ_fr hy
  have h1 : (lowQ x).1 * y.2 = y.1 * (lowQ x).2 := f.of (by omega) e
  have h2 : (lowQ y).1 * (lowQ x).2 = (lowQ x).1 * (lowQ y).2 := g.of (by omega) h1.symm
  exact low_eq ⟨f.pos, f.co, (a1.mono k4).le f.lt, (a2.mono k4).le f.lu⟩ ⟨g.pos, g.co, (b1.mono j4).le g.lt, (b2.mono j4).le g.lu⟩ h2.symm
def mT (x : Q2) : Str := mTxt (lowQ x).1 (lowQ x).2
def mR (x : Q2) : Str := mRep (lowQ x).1 (lowQ x).2
def bT (w : Str) : Option Q2 → Str
  | none => ""
  | some x => Str.empty ++ " " ++ w ++ " " ++ mT x
def lTxt (zs : List Q2) (r : Str) (lo hi : Option Q2) : Str := Txt.join "" [r, ": ", Txt.join ", " (zs.map mT), bT "from" lo, bT "to" hi]
def oR : Option Q2 → Str
  | none => "None"
  | some x => mR x
def lRep (zs : List Q2) (r : Str) (lo hi : Option Q2) : Str := Str.empty ++ "Ladder(" ++ tupleText (zs.map mR) ++ ", " ++ reprText r ++ ", " ++ oR lo ++ ", " ++ oR hi ++ ")"
def sp_bound (CM : Addr) : Sp := fun vs H Q _ => ∃ (w : Str) (v : V) (k : Nat) (e : Option Q2), vs = [.str w, v] ∧ w.length ≤ 10 ∧ QO CM H k v e ∧ k ≤ 1900 ∧ ∀ H', Same H H' → Q (.str (bT w e)) H'
def sp_lstr (K : PySem.W.Frag) (CM CL : Addr) : Sp := fun vs H Q _ => ∃ (p : Addr) (k : Nat) (zs : List Q2) (r : Str) (lo hi : Option Q2), vs = [.ref p] ∧ LadAt K CM CL H p k zs r lo hi ∧ k ≤ 1900 ∧ ∀ H', Same H H' → Q (.str (lTxt zs r lo hi)) H'
def sp_lrep (K : PySem.W.Frag) (CM CL : Addr) : Sp := fun vs H Q _ => ∃ (p : Addr) (k : Nat) (zs : List Q2) (r : Str) (lo hi : Option Q2), vs = [.ref p] ∧ LadAt K CM CL H p k zs r lo hi ∧ k ≤ 1900 ∧ Q (.str (lRep zs r lo hi)) H
def eqM (a b : Q2) : Bool := decide ((lowQ a).1 = (lowQ b).1) && decide ((lowQ a).2 = (lowQ b).2)
def eqsQ (zs ws : List Q2) : Bool := (List.zipWith eqM zs ws).all _root_.id && decide (zs.length = ws.length)
def eqLQ (zs : List Q2) (r : Str) (lo hi : Option Q2) (zs' : List Q2) (r' : Str) (lo' hi' : Option Q2) : Bool := eqsQ zs zs' && (decide (r = r') && (optEq (lo.map lowQ) (lo'.map lowQ) && optEq (hi.map lowQ) (hi'.map lowQ)))
theorem qo_ms {CM : Addr} {H : Hp} {k : Nat} {v : V} : ∀ {e : Option Q2}, QO CM H k v e → k ≤ 4000 → MsV CM H v (e.map lowQ) ∧ LowO (e.map lowQ)
  | none, h, _ => ⟨h, True.intro⟩
  | some x, h, k4 => by
    obtain ⟨p, rfl, a⟩ := h
    have fr := lowQ_fr a.pos
    exact ⟨⟨p, rfl, qat_low a k4⟩, ⟨fr.pos, fr.co, (a.s1.mono k4).le fr.lt, (a.s2.mono k4).le fr.lu⟩⟩
theorem marks_eq {K : PySem.W.Frag} {CM : Addr} {H : Hp} {T T2 : Addr} {k k' : Nat} {ps ps' : List V} {zs zs' : List Q2} (cl : Cls K CM) (ii : IsC K CM) (ec : EqC K CM) (hT : SqT K H T ps) (hT2 : SqT K H T2 ps') (hm : Mks CM H k ps zs) (hm' : Mks CM H k' ps' zs') (k4 : k ≤ 4000) (k4' : k' ≤ 4000) : DTupB K (DOwn K CM (REq K CM)) (.ref T) (.ref T2) H (eqsQ zs zs') := by
  have e1 := hm.len
  have e2 := hm'.len
  refine ⟨T, T2, ps, ps', List.zipWith eqM zs zs', rfl, rfl, hT, hT2, by rw [List.length_zipWith]; omega, fun i p q b h1 h2 h3 => ?_, by unfold eqsQ; rw [e1, e2]⟩
  have l1 := (List.getElem?_eq_some_iff.mp h1).1
  have l2 := (List.getElem?_eq_some_iff.mp h2).1
  have hz : zs[i]? = some zs[i] := List.getElem?_eq_getElem (by omega)
  have hw : zs'[i]? = some zs'[i] := List.getElem?_eq_getElem (by omega)
  obtain ⟨a, rfl, qa⟩ := hm.all i p _ h1 hz
  obtain ⟨c, rfl, qc⟩ := hm'.all i q _ h2 hw
  rw [List.getElem?_zipWith, hz, hw] at h3
  have h3 := Option.some.inj h3
  rw [← h3]
  exact Like.fwd cl ii ec (Like.ms (qat_low qa k4) (qat_low qc k4'))
theorem mR_len {x : Q2} {k : Nat} (h : 0 < x.2) (a1 : Sz k x.1) (a2 : Sz k x.2) (k9 : k ≤ 1900) : (mR x).length ≤ 10000 ∧ Sz 1900 (lowQ x).1 ∧ Sz 1900 (lowQ x).2 := by
  have fr := lowQ_fr h
  have st : Sz 1900 (lowQ x).1 := (a1.mono k9).le fr.lt
  have su : Sz 1900 (lowQ x).2 := (a2.mono k9).le fr.lu
  have l1 := iT_len st
  have l2 := iT_len su
  have e0 : Str.empty.length = 0 := rfl
  have e1 : (Str.ofString "Measure(").length = 8 := rfl
  have e2 : (Str.ofString ", ").length = 2 := rfl
  have e3 : (Str.ofString ")").length = 1 := rfl
  refine ⟨?_, st, su⟩
  unfold mR mRep
  simp only [Str.length_append]
  omega
theorem marks_show0 {K : PySem.W.Frag} {C : Addr} {E : XK} {k : Nat} {H : Hp} (k9 : k ≤ 1900) {Q : List Str → Hp → Prop} : ∀ {ps : List V} {zs : List Q2} {acc : List Str}, ps.length = zs.length → (∀ (i : Nat) (v : V) (z : Q2), ps[i]? = some v → zs[i]? = some z → ∃ q, v = .ref q ∧ QAt C H q k z) → Q (acc ++ zs.map mR) H → tShow K C (sp_mrep C) E ps acc H Q
  | [], [], acc, _, _, q => by
    show Q acc H
    simpa using q
  | [], _ :: _, _, h, _, _ => by simp at h
  | _ :: _, [], _, h, _, _ => by simp at h
  | p :: ps, z :: zs, acc, h, hh, q => by
    obtain ⟨a, rfl, qa⟩ := hh 0 p z rfl rfl
    have m := qat_low qa (by omega)
    obtain ⟨l1, l2, l3⟩ := mR_len qa.pos qa.s1 qa.s2 k9
    obtain ⟨dx, ha⟩ := id m
    refine .inr ⟨a, dx, _, rfl, ha, a, _, _, rfl, ⟨dx, ha⟩, l2, l3, _, rfl, _, rfl, l1, ?_⟩
    refine marks_show0 k9 (by simpa using h) (fun i v w e1 e2 => hh (i + 1) v w (by simpa using e1) (by simpa using e2)) ?_
    rw [List.append_assoc]
    exact q
theorem marks_show {K : PySem.W.Frag} {C : Addr} {E : XK} {k : Nat} {H : Hp} {Q : List Str → Hp → Prop} {ps : List V} {zs : List Q2} (hm : Mks C H k ps zs) (k9 : k ≤ 1900) (q : Q (zs.map mR) H) : tShow K C (sp_mrep C) E ps [] H Q :=
  marks_show0 k9 hm.len hm.all (by rw [List.nil_append]; exact q)
theorem oR_len {C : Addr} {H : Hp} {k : Nat} {v : V} : ∀ {e : Option Q2}, QO C H k v e → k ≤ 1900 → (oR e).length ≤ 10000
  | none, _, _ => by decide
  | some x, h, k9 => by
    obtain ⟨p, rfl, a⟩ := h
    exact (mR_len a.pos a.s1 a.s2 k9).1
theorem oR_show {C : Addr} {H : Hp} {k : Nat} {v : V} {E : XK} {Q : VK} : ∀ {e : Option Q2}, QO C H k v e → k ≤ 1900 → Q (.str (oR e)) H → tOwn C (sp_mrep C) E v H (fun v H2 => (∃ z : Str, v = .str z ∧ z.length ≤ sizeLine) ∧ Q v H2) ∨ (v = .non ∧ Q (.str "None") H)
  | none, h, _, q => .inr ⟨h, q⟩
  | some x, h, k9, q => by
    obtain ⟨p, rfl, a⟩ := h
    obtain ⟨dx, hp⟩ := qat_low a (by omega)
    obtain ⟨l1, l2, l3⟩ := mR_len a.pos a.s1 a.s2 k9
    exact .inl ⟨p, dx, _, rfl, hp, p, _, _, rfl, ⟨dx, hp⟩, l2, l3, _, rfl, ⟨_, rfl, zLen (Nat.le_trans l1 (by decide))⟩, q⟩
theorem mT_len {x : Q2} {k : Nat} (h : 0 < x.2) (a1 : Sz k x.1) (a2 : Sz k x.2) (k9 : k ≤ 1900) : (mT x).length ≤ 6001 ∧ Sz 1900 (lowQ x).1 ∧ Sz 1900 (lowQ x).2 ∧ 0 < (lowQ x).2 := by
  obtain ⟨_, st, su⟩ := mR_len h a1 a2 k9
  have fr := lowQ_fr h
  exact ⟨mTxt_len st su fr.pos, st, su, fr.pos⟩
theorem bT_len {C : Addr} {H : Hp} {k : Nat} {v : V} {w : Str} (lw : w.length ≤ 10) : ∀ {e : Option Q2}, QO C H k v e → k ≤ 1900 → (bT w e).length ≤ 6100
  | none, _, _ => by show Str.length (Str.ofString "") ≤ 6100; decide
  | some x, h, k9 => by
    obtain ⟨p, rfl, a⟩ := h
    obtain ⟨l1, _⟩ := mT_len a.pos a.s1 a.s2 k9
    have e0 : Str.empty.length = 0 := rfl
    have e1 : (Str.ofString " ").length = 1 := rfl
    unfold bT
    simp only [Str.length_append]
    omega
theorem rule_len {r : Str} (h : IsRule r) : r.length ≤ 10 ∧ (reprText r).length ≤ 20 := by
  rcases h with rfl | rfl | rfl <;> exact ⟨by decide, by decide +kernel⟩
theorem sum_le {n : Nat} : ∀ ys : List Str, (∀ y ∈ ys, y.length ≤ n) → (ys.map fun x => x.length).sum ≤ n * ys.length
  | [], _ => Nat.zero_le _
  | y :: ys, h => by
    have h1 := h y (by simp)
    have h2 := sum_le ys fun z hz => h z (by simp [hz])
    rw [List.map_cons, List.sum_cons, List.length_cons, Nat.mul_succ]
    omega
theorem eqsQ_same {zs ws : List Q2} (h : zs.map lowQ = ws.map lowQ) : eqsQ zs ws = true := by
  have hl : zs.length = ws.length := by have := congrArg List.length h; simpa using this
  unfold eqsQ
  rw [Bool.and_eq_true, List.all_eq_true]
  refine ⟨fun b hb => ?_, decide_eq_true hl⟩
  obtain ⟨i, hi⟩ := List.mem_iff_getElem?.mp hb
  rw [List.getElem?_zipWith] at hi
  cases e1 : zs[i]? with
  | none => rw [e1] at hi; cases hi
  | some z =>
    cases e2 : ws[i]? with
    | none => rw [e1, e2] at hi; cases hi
    | some w =>
      rw [e1, e2] at hi
      have q : (zs.map lowQ)[i]? = (ws.map lowQ)[i]? := by rw [h]
      rw [List.getElem?_map, List.getElem?_map, e1, e2] at q
      have q := Option.some.inj q
      have q : lowQ z = lowQ w := q
      cases hi
      show eqM z w = true
      unfold eqM
      rw [q, decide_eq_true rfl, decide_eq_true rfl]; rfl
theorem optEq_same : ∀ (e : Option Q2), optEq e e = true
  | none => rfl
  | some a => by simp [optEq, eqq]
theorem eqLQ_same {zs zs' : List Q2} {r r' : Str} {lo hi lo' hi' : Option Q2} (h : zs.map lowQ = zs'.map lowQ) (hr : r = r') (h1 : lo.map lowQ = lo'.map lowQ) (h2 : hi.map lowQ = hi'.map lowQ) : eqLQ zs r lo hi zs' r' lo' hi' = true := by
  unfold eqLQ
  rw [eqsQ_same h, decide_eq_true hr, h1, h2, optEq_same, optEq_same]; rfl
def REqL (K : PySem.W.Frag) (CM CL : Addr) : Eqb := fun x y H b => ∃ p k zs r lo hi, x = .ref p ∧ LadAt K CM CL H p k zs r lo hi ∧ k ≤ 4000 ∧ ((∃ q k' zs' r' lo' hi', y = .ref q ∧ LadAt K CM CL H q k' zs' r' lo' hi' ∧ k' ≤ 4000 ∧ b = eqLQ zs r lo hi zs' r' lo' hi') ∨ ∃ tv, TyX K H y tv ∧ PySem.W.kitOne K tv (.ref CL) = some false ∧ b = false)

theorem lad_dn {K : PySem.W.Frag} {CM CL p q : Addr} {H : Hp} {k k' : Nat} {zs zs' : List Q2} {r r' : Str} {lo hi lo' hi' : Option Q2} (cl : Cls K CL) (ii : IsC K CL) (a : LadAt K CM CL H p k zs r lo hi) (b : LadAt K CM CL H q k' zs' r' lo' hi') (k4 : k ≤ 4000) (k4' : k' ≤ 4000) (e : eqLQ zs r lo hi zs' r' lo' hi' = true) : DOwn K CL (REqL K CM CL) (.ref p) (.ref q) H true := by
  obtain ⟨dx, T, ps, l, h, hp, _⟩ := a.ob
  obtain ⟨dy, T', ps', l', h', hq, _⟩ := b.ob
  exact ⟨p, dx, _, _, rfl, hp, tyM hq cl ii, nf_self, fun _ => rfl, p, k, zs, r, lo, hi, rfl, a, k4, .inl ⟨q, k', zs', r', lo', hi', rfl, b, k4', e.symm⟩⟩
def insZ (lo hi : Option Int) (z : Int) : Bool := (match lo with | none => true | some a => decide (a ≤ z)) && (match hi with | none => true | some b => decide (z ≤ b))
theorem ins_in {part : Int} (h : 0 < part) (lo hi : Option Int) (z : Int) : insZ lo hi z = inO (oq (4 * part) lo) (oq (4 * part) hi) (z, 4 * part) := by
  have e : ∀ a b : Int, decide (a ≤ b) = !ltq (b, 4 * part) (a, 4 * part) := fun a b => by
    rw [ltq_d (show (0 : Int) < 4 * part by omega)]
    by_cases c : a ≤ b
    · rw [decide_eq_true c, decide_eq_false (by omega)]; rfl
    · rw [decide_eq_false c, decide_eq_true (by omega)]; rfl
  cases lo <;> cases hi <;> simp only [insZ, e] <;> rfl
theorem size_free {zs : List Q2} {r : Str} {lo hi : Option Q2} {x : Q2} : sizeQ zs r lo hi x = if inO lo hi x = true then sizeQ zs r none none x else none := by
  have e : inO none none x = true := rfl
  unfold sizeQ
  rw [e]
  cases inO lo hi x <;> rfl
theorem cutq_two {CM CS : Addr} {H : Hp} {v w : V} {x y x2 y2 : Option Q2 × Bool} (c : CutQ CM CS H v x y) (d : CutQ CM CS H w x2 y2) (h1 : Alike x x2) (h2 : Alike y y2) :
    (v = .non ∧ w = .non) ∨ ∃ p q lo hi li hj, v = .ref p ∧ w = .ref q ∧ StAt CM CS H p lo hi li hj ∧ StAt CM CS H q lo hi li hj ∧ ReO lo x.1 ∧ ReO hi y.1 := by
  obtain ⟨x', y', cv, a1, a2⟩ := c
  obtain ⟨x3, y3, dv, b1, b2⟩ := d
  rcases cutV_two cv dv (a1.trans (h1.trans b1.symm)) (a2.trans (h2.trans b2.symm)) with ⟨_, e1, e2⟩ | ⟨_, pp, qq, e1, e2, SA, SB⟩
  · exact .inl ⟨e1, e2⟩
  · exact .inr ⟨pp, qq, _, _, _, _, e1, e2, SA, SB, a1.1, a2.1⟩
theorem szO_of {k : Nat} {m e : Option Q2} (r : ReO m e) (l : LowO m) (s : SzE k e) (hk : k ≤ 1900) : SzO 1900 m := by
  cases m with
  | none => trivial
  | some a =>
    cases e with
    | none => exact r.elim
    | some b =>
      obtain ⟨h1, h2⟩ := re_low r l
      obtain ⟨s1, s2⟩ := s
      exact ⟨(s1.le h1).mono hk, (s2.le h2).mono hk⟩
theorem sizB_free {zs : List Q2} {r : Str} {n : Nat} (hr : RiseQ zs) (hp : PosL zs) : sizB zs r none none n = true :=
  ((cutLo_noneR (x := (rulE zs r n).1) (j := true) (rulE_pos hp).1).someB (cutHi_noneR (x := (rulE zs r n).2) (j := true) (rulE_pos hp).2)).trans (rul_some hr hp)
theorem lawFree {H H' : Hp} {p q T : Addr} {part : Int} {ms : List Int} {r : Str} {lo hi : Option Int} (a : LawL H p part ms r lo hi) (h1 : H' q = some (.tup [.int part, .ref T, .str r, .non, .non])) (h2 : H' T = some (.tup (ms.map V.int))) : LawL H' q part ms r none none :=
  ⟨⟨T, h1, h2⟩, a.p0, a.p1, a.len0, a.len1, a.rise, a.four, a.bnd, (fun z e => nomatch e), (fun z e => nomatch e), a.rule, (fun x y e => nomatch e)⟩
theorem oq_pos {part : Int} (h : 0 < part) : ∀ o : Option Int, PosO (oq (4 * part) o)
  | none => trivial
  | some z => by show (0 : Int) < 4 * part; omega
theorem optI_ok {K : PySem.W.Frag} {H : Hp} {o : Option Nat} (h : ∀ n, o = some n → n < 1000) : ∃ d : PyData, Dp K H (optI o) d ∧ d.showable = true ∧ d.hasDict = false ∧ d.depth ≤ 60 ∧ d.shown.length ≤ sizeLine := by
  cases o with
  | none => exact ⟨.none, .non, rfl, rfl, by decide, by decide⟩
  | some n =>
    have hn := h n rfl
    have h3 : ((n : Nat) : Int).natAbs.log2 < 60 := by
      by_cases e : ((n : Nat) : Int).natAbs = 0
      · rw [e]; decide
      · exact (Nat.log2_lt e).mpr (Nat.lt_trans (show ((n : Nat) : Int).natAbs < 1000 by omega) (by decide))
    refine ⟨.int n, .int n, decide_eq_true (Nat.lt_trans h3 (by decide)), rfl, Nat.zero_le _, ?_⟩
    have h4 := int_text_length_le (a := ((n : Nat) : Int)) (k := 60) (by decide) h3
    have h5 : (Str.ofString (toString ((n : Nat) : Int))).length = (toString ((n : Nat) : Int)).length := PySem.ofString_length _
    show (Str.ofString (toString ((n : Nat) : Int))).length ≤ _
    rw [h5, sizeLine_eq]
    omega
def sp_inside19 : Sp := fun vs H Q _ => ∃ (p : Addr) (part : Int) (ms : List Int) (r : Str) (lo hi : Option Int) (z : Int), vs = [.ref p, .int z] ∧ LawL H p part ms r lo hi ∧ ∀ H', Same H H' → Q (.bl (insZ lo hi z)) H'
def sp_right19 : Sp := fun vs H Q _ => ∃ (p : Addr) (part : Int) (ms : List Int) (r : Str) (lo hi : Option Int), vs = [.ref p] ∧ LawL H p part ms r lo hi ∧ ∀ H', Same H H' → Q (.bl true) H'

structure LawM (H : Hp) (p : Addr) (part : Int) (ms : List Int) (r : Str) (lo hi : Option Int) : Prop where
  ob : ∃ T, H p = some (.tup [.int part, .ref T, .str r, optZ lo, optZ hi]) ∧ H T = some (.tup (ms.map V.int))
  p0 : 0 < part
  p1 : part ≤ 10007
  len0 : 0 < ms.length
  len1 : ms.length ≤ 24
  rise : ∀ (i : Nat) (a b : Int), ms[i]? = some a → ms[i + 1]? = some b → a < b
  four : True
  bnd : ∀ m ∈ ms, -5000000 ≤ m ∧ m ≤ 5000000
  blo : ∀ z, lo = some z → -5000000 ≤ z ∧ z ≤ 5000000
  bhi : ∀ z, hi = some z → -5000000 ≤ z ∧ z ≤ 5000000
  rule : IsRule r
  span : ∀ a b, lo = some a → hi = some b → a ≤ b
theorem LawM.same {H H' : Hp} {p : Addr} {part : Int} {ms : List Int} {r : Str} {lo hi : Option Int} (a : LawM H p part ms r lo hi) (s : Same H H') : LawM H' p part ms r lo hi := by
  obtain ⟨⟨T, h1, h2⟩, a1⟩ := a
  exact ⟨⟨T, s _ _ h1, s _ _ h2⟩, by assumption, by assumption, by assumption, by assumption, by assumption, by assumption, by assumption, by assumption, by assumption, by assumption, by assumption⟩
theorem LawM.riseQ {H : Hp} {p : Addr} {part : Int} {ms : List Int} {r : Str} {lo hi : Option Int} (a : LawM H p part ms r lo hi) : RiseQ (zq (4 * part) ms) := by
  intro i x y hx hy
  obtain ⟨m, hm, rfl⟩ := zq_get hx
  obtain ⟨m', hm', rfl⟩ := zq_get hy
  have := a.p0
  rw [ltq_d (by omega)]
  exact decide_eq_true (a.rise i m m' hm hm')
theorem LawM.spanQ {H : Hp} {p : Addr} {part : Int} {ms : List Int} {r : Str} {lo hi : Option Int} (a : LawM H p part ms r lo hi) : spanB (oq (4 * part) lo) (oq (4 * part) hi) = true := by
  cases lo with
  | none => cases hi <;> rfl
  | some x =>
    cases hi with
    | none => rfl
    | some y =>
      have := a.p0
      have h := a.span x y rfl rfl
      show (!ltq (y, 4 * part) (x, 4 * part)) = true
      rw [ltq_d (by omega), decide_eq_false (by omega)]
      rfl
theorem LawM.ladQ {H : Hp} {p : Addr} {part : Int} {ms : List Int} {r : Str} {lo hi : Option Int} (a : LawM H p part ms r lo hi) : LadQ (zq (4 * part) ms) r (oq (4 * part) lo) (oq (4 * part) hi) := by
  have p0 := a.p0
  refine ⟨a.riseQ, fun z hz => ?_, ?_, ?_, a.spanQ⟩
  · obtain ⟨m, _, rfl⟩ := List.mem_map.mp hz
    show 0 < 4 * part
    omega
  · cases lo with
    | none => trivial
    | some _ => show 0 < 4 * part; omega
  · cases hi with
    | none => trivial
    | some _ => show 0 < 4 * part; omega
theorem LawM.szs {H : Hp} {p : Addr} {part : Int} {ms : List Int} {r : Str} {lo hi : Option Int} (a : LawM H p part ms r lo hi) : SzL 40 (zq (4 * part) ms) ∧ SzE 40 (oq (4 * part) lo) ∧ SzE 40 (oq (4 * part) hi) := by
  have p0 := a.p0
  have p1 := a.p1
  have sp : Sz 40 (4 * part) := by show (4 * part).natAbs < 2 ^ 40; omega
  have sz : ∀ z : Int, -5000000 ≤ z → z ≤ 5000000 → Sz 40 z := fun z h1 h2 => by show z.natAbs < 2 ^ 40; omega
  refine ⟨fun z hz => ?_, ?_, ?_⟩
  · obtain ⟨m, hm, rfl⟩ := List.mem_map.mp hz
    have := a.bnd m hm
    exact ⟨sz m (by omega) (by omega), sp⟩
  · cases lo with
    | none => trivial
    | some z => have := a.blo z rfl; exact ⟨sz z this.1 this.2, sp⟩
  · cases hi with
    | none => trivial
    | some z => have := a.bhi z rfl; exact ⟨sz z this.1 this.2, sp⟩
theorem lawM_of {H : Hp} {p : Addr} {part : Int} {ms : List Int} {r : Str} {lo hi : Option Int} (a : LawL H p part ms r lo hi) : LawM H p part ms r lo hi :=
  ⟨a.ob, a.p0, a.p1, a.len0, a.len1, a.rise, True.intro, fun m h => by have := a.bnd m h; omega, fun z h => by have := a.blo z h; omega, fun z h => by have := a.bhi z h; omega, a.rule, a.span⟩
theorem LawM.nl {H H' : Hp} {p : Addr} {part : Int} {ms : List Int} {r : Str} {lo hi : Option Int} (a : LawM H p part ms r lo hi) (s : Nl H H') : LawM H' p part ms r lo hi := by
  obtain ⟨⟨T, h1, h2⟩, a1⟩ := a
  exact ⟨⟨T, s _ _ h1 rfl, s _ _ h2 rfl⟩, by assumption, by assumption, by assumption, by assumption, by assumption, by assumption, by assumption, by assumption, by assumption, by assumption, by assumption⟩
theorem lawL_kp {H H' : Hp} {h p : Addr} {n : Nat} {part : Int} {ms : List Int} {r : Str} {lo hi : Option Int} (a : LawL H p part ms r lo hi) (hh : HandAt H h n) (k : Kp h H H') : LawL H' p part ms r lo hi := by
  obtain ⟨⟨T, h1, h2⟩, a1⟩ := a
  exact ⟨⟨T, k.get hh h1 rfl, k.get hh h2 rfl⟩, by assumption, by assumption, by assumption, by assumption, by assumption, by assumption, by assumption, by assumption, by assumption, by assumption, by assumption⟩
theorem sqt_nl {K : PySem.W.Frag} {H H' : Hp} {a : Addr} {xs : List V} (h : SqT K H a xs) (s : Nl H H') : SqT K H' a xs := by
  rcases h with (h | ⟨o, h⟩) | h
  · exact .inl (.inl (s _ _ h rfl))
  · exact .inl (.inr ⟨o, s _ _ h rfl⟩)
  · exact .inr h
theorem lad_nl {K : PySem.W.Frag} {CM CL p : Addr} {H H' : Hp} {k : Nat} {zs : List Q2} {r : Str} {lo hi : Option Q2} (a : LadAt K CM CL H p k zs r lo hi) (s : Nl H H') : LadAt K CM CL H' p k zs r lo hi := by
  obtain ⟨⟨dx, T, ps, l, h, h1, h2, h3, h4, h5⟩, a1, a2, a3, a4, a5⟩ := a
  exact ⟨⟨dx, T, ps, l, h, s _ _ h1 rfl, sqt_nl h2 s, ⟨h3.len, fun i v z e1 e2 => by obtain ⟨q, e3, e4⟩ := h3.all i v z e1 e2; exact ⟨q, e3, e4.nl s⟩⟩, h4.nl s, h5.nl s⟩, a1, a2, a3, a4, a5⟩
def sp_near20 (K : PySem.W.Frag) : Sp := fun vs H Q _ => ∃ (h l : Addr) (n : Nat) (ms : List Int) (B : Int), vs = [.ref h, .ref l] ∧ HandAt H h n ∧ n < 90000 ∧ (SqL K H l (ms.map V.int) ∨ SqT K H l (ms.map V.int)) ∧ l ≠ h ∧ 0 < ms.length ∧ ms.length ≤ 24 ∧ B ≤ 5000000 ∧ (∀ m ∈ ms, -B ≤ m ∧ m ≤ B) ∧
  ∀ (z : Int) (H' : Hp), -(B + 40) ≤ z → z ≤ B + 40 → HandAt H' h (n + 3) → Kp h H H' → Q (.int z) H'
def sp_lad20 : Sp := fun vs H Q _ => ∃ (h : Addr) (n : Nat), vs = [.ref h] ∧ HandAt H h n ∧ n < 10000 ∧
  ∀ (p : Addr) (part : Int) (ms : List Int) (r : Str) (lo hi : Option Int) (H' : Hp), LawL H' p part ms r lo hi → HandAt H' h (n + 60) → Kp h H H' → Q (.ref p) H'
def sp_lmadeM (K : PySem.W.Frag) (CM CL : Addr) : Sp := fun vs H Q _ => ∃ (p : Addr) (part : Int) (ms : List Int) (r : Str) (lo hi : Option Int), vs = [.ref p] ∧ LawM H p part ms r lo hi ∧
  ∀ (q : Addr) (H' : Hp), H q = none → Same H H' → LadAt K CM CL H' q 40 (zq (4 * part) ms) r (oq (4 * part) lo) (oq (4 * part) hi) → Q (.ref q) H'
def sp_lsizeM : Sp := fun vs H Q _ => ∃ (p : Addr) (part : Int) (ms : List Int) (r : Str) (lo hi : Option Int) (z : Int), vs = [.ref p, .int z] ∧ LawM H p part ms r lo hi ∧ -5000000 ≤ z ∧ z ≤ 5000000 ∧
  ∀ H', Same H H' → Q (optI (sizeQ (zq (4 * part) ms) r (oq (4 * part) lo) (oq (4 * part) hi) (z, 4 * part))) H'
def sp_other20 : Sp := fun vs H Q _ => ∃ (h p : Addr) (n : Nat) (part : Int) (ms : List Int) (r : Str) (lo hi : Option Int), vs = [.ref h, .ref p] ∧ HandAt H h n ∧ n < 1000 ∧ LawL H p part ms r lo hi ∧
  ∀ (q : Addr) (ms' : List Int) (r' : Str) (lo' hi' : Option Int) (H' : Hp), LawM H' q part ms' r' lo' hi' → HandAt H' h (n + 10) → Kp h H H' → Q (.ref q) H'
def sp_spotr20 (K : PySem.W.Frag) (CM CL : Addr) : Sp := fun vs H Q _ => ∃ (M p : Addr) (part : Int) (ms : List Int) (r : Str) (lo hi : Option Int) (z : Int), vs = [.ref M, .ref p, .int z] ∧ LadAt K CM CL H M 40 (zq (4 * part) ms) r (oq (4 * part) lo) (oq (4 * part) hi) ∧ LawM H p part ms r lo hi ∧ -5000000 ≤ z ∧ z ≤ 5000000 ∧ ∀ H', Same H H' → Q (.bl true) H'
def sp_right20 : Sp := fun vs H Q _ => ∃ (h : Addr), vs = [.ref h] ∧ HandAt H h 0 ∧ ∀ H', Kp h H H' → Q (.bl true) H'
theorem scal_oo (a b : Option Nat) : scal (optI a) (optI b) = true := by cases a <;> cases b <;> rfl
theorem scal_io (a : Int) (b : Option Nat) : scal (V.int a) (optI b) = true := by cases b <;> rfl
theorem set_rise {ms : List Int} {j : Nat} {a : Int} (hr : RiseI ms) (h4 : ∀ m ∈ ms, m % 4 = 0) (ha : ms[j]? = some a) : RiseI (ms.set j (a + 2)) := fun i x y hx hy => by
  have jl := (List.getElem?_eq_some_iff.mp ha).1
  rw [List.getElem?_set] at hx hy
  have a4 := h4 a (List.mem_of_getElem? ha)
  by_cases c1 : j = i
  · subst c1
    rw [if_pos rfl, if_pos jl] at hx
    rw [if_neg (by omega)] at hy
    cases hx
    have := hr j a y ha hy
    have := h4 y (List.mem_of_getElem? hy)
    omega
  · rw [if_neg c1] at hx
    by_cases c2 : j = i + 1
    · subst c2
      rw [if_pos rfl, if_pos jl] at hy
      cases hy
      have := hr i x a hx ha
      omega
    · rw [if_neg c2] at hy
      exact hr i x y hx hy
theorem stq_have {CM CS p q : Addr} {H : Hp} {x y : Option Q2 × Bool} {k : Nat} {z : Q2} (a : StQ CM CS H p x y) (b : QAt CM H q k z) (hk : k ≤ 9000) : ∃ (w : Q2) (lo hi : Option Q2) (li hj : Bool), StAt CM CS H p lo hi li hj ∧ MAt CM H q w.1 w.2 ∧ 0 < w.2 ∧ Sz 9000 w.1 ∧ Sz 9000 w.2 ∧ (loIn lo li w && hiIn hi hj w) = (loIn x.1 x.2 z && hiIn y.1 y.2 z) := by
  obtain ⟨lo, hi, s, r1, r2⟩ := a
  obtain ⟨⟨t, u, m, f⟩, pz, s1, s2⟩ := b
  refine ⟨(t, u), lo, hi, _, _, s, m, f.pos, (s1.le f.lt).mono hk, (s2.le f.lu).mono hk, ?_⟩
  have g : Re (t, u) z := f.re pz
  have e1 : loIn lo (x.2 && x.1.isSome) (t, u) = loIn x.1 x.2 z := loIn_alike (x := (lo, x.2 && x.1.isSome)) (y := x) (Alike.norm r1) g
  have e2 : hiIn hi (y.2 && y.1.isSome) (t, u) = hiIn y.1 y.2 z := hiIn_alike (x := (hi, y.2 && y.1.isSome)) (y := y) (Alike.norm r2) g
  rw [e1, e2]
def ruC (r s : Str) : Option V := if s = r then none else some (.str s)
def ruL (r : Str) : List V := [ruC r "up", ruC r "down", ruC r "near"].filterMap _root_.id
theorem ruC_ok {r : Str} (h : IsRule r) : (∀ x ∈ ruL r, ∃ s : Str, x = .str s ∧ IsRule s) ∧ 0 < (ruL r).length ∧ (ruL r).length ≤ 1000 := by
  have e : ∀ s : Str, s ≠ r → ruC r s = some (.str s) := fun s h => if_neg h
  have f : ruC r r = none := if_pos rfl
  rcases h with rfl | rfl | rfl
  · unfold ruL
    rw [f, e "down" (by decide), e "near" (by decide)]
    refine ⟨fun x hx => ?_, by decide, by decide⟩
    simp at hx
    rcases hx with rfl | rfl
    · exact ⟨_, rfl, .inr (.inl rfl)⟩
    · exact ⟨_, rfl, .inr (.inr rfl)⟩
  · unfold ruL
    rw [f, e "up" (by decide), e "near" (by decide)]
    refine ⟨fun x hx => ?_, by decide, by decide⟩
    simp at hx
    rcases hx with rfl | rfl
    · exact ⟨_, rfl, .inl rfl⟩
    · exact ⟨_, rfl, .inr (.inr rfl)⟩
  · unfold ruL
    rw [f, e "up" (by decide), e "down" (by decide)]
    refine ⟨fun x hx => ?_, by decide, by decide⟩
    simp at hx
    rcases hx with rfl | rfl
    · exact ⟨_, rfl, .inl rfl⟩
    · exact ⟨_, rfl, .inr (.inl rfl)⟩
theorem home_eq {zs : List Q2} {r : Str} {lo hi : Option Q2} {x : Q2} {i : Nat} (L : LadQ zs r lo hi) (px : 0 < x.2) (hn : i < zs.length) : decide (V.int (0 + (i : Int)) = optI (sizeQ zs r lo hi x)) = (sizB zs r lo hi i && sizIn zs r lo hi i x) := by
  have h1 := siz_in L px hn
  rw [Int.zero_add]
  cases e : sizIn zs r lo hi i x with
  | true =>
    have h2 := h1.mp e
    rw [(siz_some L).mpr ⟨x, px, e⟩, h2]
    exact decide_eq_true rfl
  | false =>
    rw [Bool.and_false]
    refine decide_eq_false fun z => ?_
    cases e2 : sizeQ zs r lo hi x with
    | none => rw [e2] at z; cases z
    | some m =>
      rw [e2] at z
      injection z with z
      have : i = m := by omega
      subst this
      rw [h1.mpr e2] at e
      cases e
theorem sq_kp {K : PySem.W.Frag} {h a : Addr} {n : Nat} {H H1 : Hp} {xs : List V} (k : Kp h H H1) (hh : HandAt H h n) (ne : a ≠ h) (s : SqL K H a xs ∨ SqT K H a xs) : SqL K H1 a xs ∨ SqT K H1 a xs :=
  s.elim (fun s => .inl (k.seq ne s)) (fun s => .inr (sqt_kp s hh k))

def MkT (CL : Addr) (H : Hp) (q : Addr) (r : Str) : Prop := ∃ dx T ps l h, H q = some (.ins CL dx (lf (.ref T) r l h)) ∧ H T = some (.tup ps)
theorem MkT.same {CL : Addr} {H H' : Hp} {q : Addr} {r : Str} (m : MkT CL H q r) (s : Same H H') : MkT CL H' q r := by
  obtain ⟨dx, T, ps, l, h, h1, h2⟩ := m
  exact ⟨dx, T, ps, l, h, s _ _ h1, s _ _ h2⟩
theorem MkT.kp {CL h : Addr} {n : Nat} {H H' : Hp} {q : Addr} {r : Str} (m : MkT CL H q r) (hh : HandAt H h n) (k : Kp h H H') : MkT CL H' q r := by
  obtain ⟨dx, T, ps, l, u, h1, h2⟩ := m
  exact ⟨dx, T, ps, l, u, k.get hh h1 rfl, k.get hh h2 rfl⟩
def sp_lmade16 (K : PySem.W.Frag) (CM CL : Addr) : Sp := fun vs H Q _ => ∃ (p : Addr) (part : Int) (ms : List Int) (r : Str) (lo hi : Option Int), vs = [.ref p] ∧ LawM H p part ms r lo hi ∧
  ∀ (q : Addr) (H' : Hp), H q = none → Same H H' → LadAt K CM CL H' q 40 (zq (4 * part) ms) r (oq (4 * part) lo) (oq (4 * part) hi) → MkT CL H' q r → Q (.ref q) H'
def sp_llow16 : Sp := fun vs H Q _ => ∃ (part z : Int), vs = [.int part, .int z] ∧ 0 < part ∧ part ≤ 10007 ∧ -5000000 ≤ z ∧ z ≤ 5000000 ∧ ∀ (p : Addr) (t u : Int), H p = none → lowQ (z, 4 * part) = (t, u) → Q (.ref p) (upd H p (.tup [.int t, .int u]))
def sp_shown16 : Sp := fun vs H Q _ => ∃ (part z : Int), vs = [.int part, .int z] ∧ 0 < part ∧ part ≤ 10007 ∧ -5000000 ≤ z ∧ z ≤ 5000000 ∧ ∀ H', Same H H' → Q (.str (mT (z, 4 * part))) H'
def sp_named16 : Sp := fun vs H Q _ => ∃ (part : Int) (o : Option Int), vs = [.int part, optZ o] ∧ 0 < part ∧ part ≤ 10007 ∧ (∀ z, o = some z → -5000000 ≤ z ∧ z ≤ 5000000) ∧ ∀ H', Same H H' → Q (.str (oR (oq (4 * part) o))) H'
def sp_text16 : Sp := fun vs H Q _ => ∃ (p : Addr) (part : Int) (ms : List Int) (r : Str) (lo hi : Option Int), vs = [.ref p] ∧ LawM H p part ms r lo hi ∧ ∀ H', Same H H' → Q (.str (lTxt (zq (4 * part) ms) r (oq (4 * part) lo) (oq (4 * part) hi))) H'
def sp_name16 : Sp := fun vs H Q _ => ∃ (p : Addr) (part : Int) (ms : List Int) (r : Str) (lo hi : Option Int), vs = [.ref p] ∧ LawM H p part ms r lo hi ∧ ∀ H', Same H H' → Q (.str (lRep (zq (4 * part) ms) r (oq (4 * part) lo) (oq (4 * part) hi))) H'
theorem low16 {part z : Int} (p0 : 0 < part) (p1 : part ≤ 10007) (z0 : -5000000 ≤ z) (z1 : z ≤ 5000000) {t u : Int} (e : lowQ (z, 4 * part) = (t, u)) : 0 < u ∧ Sz 40 t ∧ Sz 40 u := by
  have fr := lowQ_fr (x := (z, 4 * part)) (show 0 < 4 * part by omega)
  rw [e] at fr
  exact ⟨fr.pos, (show Sz 40 z by show z.natAbs < 2 ^ 40; omega).le fr.lt, (show Sz 40 (4 * part) by show (4 * part).natAbs < 2 ^ 40; omega).le fr.lu⟩
def wsA (A u : Int) : List Str := if u ≤ A ∨ A = 0 then [iT (A / u)] else []
def wsB (A u : Int) : List Str := if 0 < A % u then [iT (A % u) ++ "/" ++ iT u] else []
theorem wsA_len {A u : Int} (s : Sz 1900 (A / u)) : (wsA A u).length ≤ 1 ∧ ((wsA A u).map (·.length)).sum ≤ 1921 := by
  have l1 := iT_len s
  unfold wsA
  split
  · exact ⟨by simp, by simpa using l1⟩
  · exact ⟨by simp, by simp⟩
theorem wsB_len {A u : Int} (s : Sz 1900 (A % u)) (s2 : Sz 1900 u) : (wsB A u).length ≤ 1 ∧ ((wsB A u).map (·.length)).sum ≤ 4000 := by
  have l1 := iT_len s
  have l2 := iT_len s2
  have w1 : (Str.ofString "/").length = 1 := rfl
  unfold wsB
  split
  · refine ⟨by simp, ?_⟩
    show (iT (A % u) ++ "/" ++ iT u).length + 0 ≤ 4000
    simp only [Str.length_append]; omega
  · exact ⟨by simp, by simp⟩
theorem wsA_if {A u : Int} (h0 : 0 ≤ A) (hu : 0 < u) : (0 < A / u ∨ A % u = 0) ↔ (u ≤ A ∨ A = 0) := by
  have m1 := Int.emod_lt_of_pos A hu
  have m0 := Int.emod_nonneg A (show u ≠ 0 by omega)
  have d0 := Int.ediv_nonneg h0 (Int.le_of_lt hu)
  have de := Int.emod_add_mul_ediv A u
  constructor
  · rintro (h | h)
    · left
      have : u * 1 ≤ u * (A / u) := Int.mul_le_mul_of_nonneg_left (by omega) (by omega)
      omega
    · by_cases c : A / u = 0
      · right; rw [c] at de; omega
      · left
        have : u * 1 ≤ u * (A / u) := Int.mul_le_mul_of_nonneg_left (by omega) (by omega)
        omega
  · rintro (h | h)
    · left
      rcases Int.lt_or_le 0 (A / u) with z | z
      · exact z
      · have : A / u = 0 := by omega
        rw [this] at de; omega
    · right; subst h; simp

def fT (w : Str) (o : Option Q2) (t : Str) : Str := match o with | none => t | some x => t ++ w ++ mT x
theorem of_app (a b : String) : Str.ofString (a ++ b) = Str.ofString a ++ Str.ofString b := by
  rw [Str.ofString_eq_toList, Str.ofString_eq_toList, Str.ofString_eq_toList]
  apply Str.ext'
  simp [Str.cps_append]
theorem lTxt_eq (zs : List Q2) (r : Str) (lo hi : Option Q2) : lTxt zs r lo hi = fT " to " hi (fT " from " lo (r ++ ": " ++ Txt.join ", " (zs.map mT))) := by
  have e : (Str.ofString "" : Str) = Str.empty := rfl
  have h : lTxt zs r lo hi = r ++ ": " ++ Txt.join ", " (zs.map mT) ++ bT "from" lo ++ bT "to" hi := by
    unfold lTxt
    rw [join_eq]
    show r ++ "" ++ (": " ++ "" ++ (Txt.join ", " (zs.map mT) ++ "" ++ (bT "from" lo ++ "" ++ bT "to" hi))) = _
    rw [e]
    simp only [Str.append_empty, Str.append_assoc]
  have hb : ∀ (w : String) (o : Option Q2) (t : Str), t ++ bT (Str.ofString w) o = fT (Str.ofString " " ++ Str.ofString w ++ Str.ofString " ") o t := fun w o t => by
    cases o with
    | none => show t ++ Str.ofString "" = t; rw [e, Str.append_empty]
    | some x =>
      show t ++ (Str.empty ++ " " ++ Str.ofString w ++ " " ++ mT x) = t ++ (Str.ofString " " ++ Str.ofString w ++ Str.ofString " ") ++ mT x
      rw [Str.empty_append]
      simp only [Str.append_assoc]
  rw [h, hb, hb]
  rw [← of_app, ← of_app, ← of_app, ← of_app]
  rfl
theorem mT_l {part z : Int} (p0 : 0 < part) (p1 : part ≤ 10007) (z0 : -5000000 ≤ z) (z1 : z ≤ 5000000) : (mT (z, 4 * part)).length ≤ 6001 :=
  (mT_len (x := (z, 4 * part)) (k := 40) (show 0 < 4 * part by omega) (show Sz 40 z by show z.natAbs < 2 ^ 40; omega) (show Sz 40 (4 * part) by show (4 * part).natAbs < 2 ^ 40; omega) (by decide)).1
theorem oR_l {part : Int} (p0 : 0 < part) (p1 : part ≤ 10007) : ∀ {o : Option Int}, (∀ z, o = some z → -5000000 ≤ z ∧ z ≤ 5000000) → (oR (oq (4 * part) o)).length ≤ 10000
  | none, _ => Nat.le_of_ble_eq_true rfl
  | some z, h => by
    obtain ⟨z0, z1⟩ := h z rfl
    exact (mR_len (x := (z, 4 * part)) (k := 40) (show 0 < 4 * part by omega) (show Sz 40 z by show z.natAbs < 2 ^ 40; omega) (show Sz 40 (4 * part) by show (4 * part).natAbs < 2 ^ 40; omega) (by decide)).1
theorem zq_map {α : Type} (f : Q2 → α) (d : Int) (ms : List Int) : (zq d ms).map f = ms.map fun z => f (z, d) := by unfold zq; rw [List.map_map]; rfl
theorem map_fm {α : Type} (f : α → Str) (l : List α) : (l.map fun z => some (V.str (f z))).filterMap _root_.id = (l.map f).map V.str := by
  rw [List.map_map, List.filterMap_map]
  induction l with
  | nil => rfl
  | cons z l ih => rw [List.filterMap_cons, List.map_cons, ← ih]; rfl
theorem rule_q {r : Str} (h : IsRule r) : reprText r = Str.ofString "'" ++ r ++ Str.ofString "'" := by
  rcases h with rfl | rfl | rfl <;> decide +kernel

theorem lRep_eq {zs : List Q2} {r : Str} {lo hi : Option Q2} (h : IsRule r) : lRep zs r lo hi = Str.ofString "Ladder((" ++ (if zs.length = 1 then Txt.join ", " (zs.map mR) ++ Str.ofString "," else Txt.join ", " (zs.map mR)) ++ Str.ofString "), '" ++ r ++ Str.ofString "', " ++ Txt.join ", " [oR lo, oR hi] ++ Str.ofString ")" := by
  unfold lRep tupleText
  rw [rule_q h, join_eq, join_eq]
  have e1 : Str.ofString "Ladder((" = Str.ofString "Ladder(" ++ Str.ofString "(" := of_app "Ladder(" "("
  have e2 : Str.ofString "), '" = Str.ofString ")" ++ (Str.ofString ", " ++ Str.ofString "'") := by rw [← of_app, ← of_app]; rfl
  have e3 : Str.ofString "', " = Str.ofString "'" ++ Str.ofString ", " := of_app "'" ", "
  have e4 : Str.ofString ",)" = Str.ofString "," ++ Str.ofString ")" := of_app "," ")"
  have e5 : Str.join ", " [oR lo, oR hi] = oR lo ++ Str.ofString ", " ++ oR hi := rfl
  rw [e1, e2, e3, e5, List.length_map]
  by_cases c : zs.length = 1
  · have c2 : (zs.length == 1) = true := by rw [c]; rfl
    rw [if_pos c, if_pos c2, e4, Str.empty_append]
    simp only [Str.append_assoc]
  · have c2 : ¬ ((zs.length == 1) = true) := fun q => c (by simpa using q)
    rw [if_neg c, if_neg c2, Str.empty_append]
    simp only [Str.append_assoc]

def EndB (ms : List Int) (lo hi : Option Int) : Prop := ∃ a b, ms[0]? = some a ∧ ms[ms.length - 1]? = some b ∧ (∀ z, lo = some z → a - 3 ≤ z ∧ z ≤ b + 40) ∧ (∀ z, hi = some z → a - 3 ≤ z ∧ z ≤ b + 40)
def sp_near16 (K : PySem.W.Frag) : Sp := fun vs H Q _ => ∃ (h l : Addr) (n : Nat) (ms : List Int) (A B : Int), vs = [.ref h, .ref l] ∧ HandAt H h n ∧ n < 90000 ∧ (SqL K H l (ms.map V.int) ∨ SqT K H l (ms.map V.int)) ∧ l ≠ h ∧ 0 < ms.length ∧ ms.length ≤ 24 ∧ -4000000 ≤ A ∧ B ≤ 4000000 ∧ (∀ m ∈ ms, A ≤ m ∧ m ≤ B) ∧
  ∀ (z : Int) (H' : Hp), A - 3 ≤ z → z ≤ B + 40 → HandAt H' h (n + 3) → Kp h H H' → Q (.int z) H'
def sp_lad16 : Sp := fun vs H Q _ => ∃ (h : Addr) (n : Nat), vs = [.ref h] ∧ HandAt H h n ∧ n < 10000 ∧
  ∀ (p : Addr) (part : Int) (ms : List Int) (r : Str) (lo hi : Option Int) (H' : Hp), EndB ms lo hi → LawL H' p part ms r lo hi → HandAt H' h (n + 60) → Kp h H H' → Q (.ref p) H'
theorem rise_bnd {ms : List Int} (hr : RiseI ms) {a b : Int} (ha : ms[0]? = some a) (hb : ms[ms.length - 1]? = some b) : ∀ m ∈ ms, a ≤ m ∧ m ≤ b := fun m hm => by
  obtain ⟨i, hi⟩ := List.mem_iff_getElem?.mp hm
  have li := (List.getElem?_eq_some_iff.mp hi).1
  constructor
  · by_cases c : i = 0
    · subst c; rw [ha] at hi; cases hi; omega
    · have := RiseI.lt hr (show 0 < i by omega) ha hi; omega
  · by_cases c : i = ms.length - 1
    · subst c; rw [hb] at hi; cases hi; omega
    · have := RiseI.lt hr (show i < ms.length - 1 by omega) hi hb; omega
def LawD (part : Int) (ms : List Int) (r : Str) (lo hi : Option Int) : Prop := ∀ (H : Hp) (q T : Addr), H q = some (.tup [.int part, .ref T, .str r, optZ lo, optZ hi]) → H T = some (.tup (ms.map V.int)) → LawM H q part ms r lo hi
theorem lawD {part : Int} {ms : List Int} {r : Str} {lo hi : Option Int} (p0 : 0 < part) (p1 : part ≤ 10007) (l0 : 0 < ms.length) (l1 : ms.length ≤ 24) (ri : RiseI ms) (bn : ∀ m ∈ ms, -5000000 ≤ m ∧ m ≤ 5000000) (bl : ∀ z, lo = some z → -5000000 ≤ z ∧ z ≤ 5000000) (bh : ∀ z, hi = some z → -5000000 ≤ z ∧ z ≤ 5000000) (ru : IsRule r) (sp : ∀ a b, lo = some a → hi = some b → a ≤ b) : LawD part ms r lo hi :=
  fun H q T h1 h2 => ⟨⟨T, h1, h2⟩, p0, p1, l0, l1, ri, True.intro, bn, bl, bh, ru, sp⟩
def Oth (H : Hp) (part : Int) (ms : List Int) (r : Str) (lo hi : Option Int) (x : V) : Prop := ∃ (q : Addr) (ms' : List Int) (r' : Str) (lo' hi' : Option Int), x = .ref q ∧ LawM H q part ms' r' lo' hi' ∧ ¬ (ms' = ms ∧ r' = r ∧ lo' = lo ∧ hi' = hi)
theorem Oth.nl {H H' : Hp} {part : Int} {ms : List Int} {r : Str} {lo hi : Option Int} {x : V} (a : Oth H part ms r lo hi x) (s : Nl H H') : Oth H' part ms r lo hi x := by
  obtain ⟨q, ms', r', lo', hi', e, l, n⟩ := a
  exact ⟨q, ms', r', lo', hi', e, l.nl s, n⟩
theorem Oth.same {H H' : Hp} {part : Int} {ms : List Int} {r : Str} {lo hi : Option Int} {x : V} (a : Oth H part ms r lo hi x) (s : Same H H') : Oth H' part ms r lo hi x := by
  obtain ⟨q, ms', r', lo', hi', e, l, n⟩ := a
  exact ⟨q, ms', r', lo', hi', e, l.same s, n⟩
structure FoundO (H H' : Hp) (h D : Addr) (n k : Nat) (xs : List V) (part : Int) (ms : List Int) (r : Str) (lo hi : Option Int) : Prop where
  ob : H' D = some (.lst xs)
  len : xs.length ≤ k
  all : ∀ x ∈ xs, Oth H' part ms r lo hi x
  ne : D ≠ h
  free : H D = none
  hand : HandAt H' h n
  kp : Kp h H H'
theorem FoundO.same {H H' H2 : Hp} {h D : Addr} {n k : Nat} {xs : List V} {part : Int} {ms : List Int} {r : Str} {lo hi : Option Int} (f : FoundO H H' h D n k xs part ms r lo hi) (s : Same H' H2) : FoundO H H2 h D n k xs part ms r lo hi :=
  ⟨s _ _ f.ob, f.len, fun x hx => (f.all x hx).same s, f.ne, f.free, f.hand.same s, f.kp.trans (Kp.same s)⟩
theorem FoundO.one {H H1 : Hp} {h D q T : Addr} {n : Nat} {part : Int} {ms ms' : List Int} {r r' : Str} {lo hi lo' hi' : Option Int} (k : Kp h H H1) (hh : HandAt H1 h n) (nq : H1 q = none) (nD : upd H1 q (.tup [.int part, .ref T, .str r', optZ lo', optZ hi']) D = none) (hT : H1 T = some (.tup (ms'.map V.int))) (d : LawD part ms' r' lo' hi') (ne : ¬ (ms' = ms ∧ r' = r ∧ lo' = lo ∧ hi' = hi)) : FoundO H (upd (upd H1 q (.tup [.int part, .ref T, .str r', optZ lo', optZ hi'])) D (.lst [.ref q])) h D n 1 [.ref q] part ms r lo hi := by
  have hh2 := hh.up (u := .tup [.int part, .ref T, .str r', optZ lo', optZ hi']) nq
  have nDh := hh2.ne nD
  have k2 := k.up (u := .tup [.int part, .ref T, .str r', optZ lo', optZ hi']) nq
  refine ⟨upd_same, Nat.le_refl _, fun x hx => ?_, nDh, k2.fresh nD nDh, hh2.up nD, k2.up nD⟩
  have hx : x = .ref q := by simpa using hx
  exact ⟨q, ms', r', lo', hi', hx, (d _ q T upd_same (up1 nq hT)).same (same1 nD), ne⟩
theorem FoundO.add {H H' : Hp} {h D q T : Addr} {n k : Nat} {xs : List V} {part : Int} {ms ms' : List Int} {r r' : Str} {lo hi lo' hi' : Option Int} (f : FoundO H H' h D n k xs part ms r lo hi) (nq : H' q = none) (hT : H' T = some (.tup (ms'.map V.int))) (d : LawD part ms' r' lo' hi') (ne : ¬ (ms' = ms ∧ r' = r ∧ lo' = lo ∧ hi' = hi)) : FoundO H (upd (upd H' q (.tup [.int part, .ref T, .str r', optZ lo', optZ hi'])) D (.lst (xs ++ [.ref q]))) h D n (k + 1) (xs ++ [.ref q]) part ms r lo hi := by
  have f2 := f.same (same1 (u := .tup [.int part, .ref T, .str r', optZ lo', optZ hi']) nq)
  have nl := Nl.put (u := .lst (xs ++ [.ref q])) f2.ob
  refine ⟨upd_same, ?_, fun x hx => ?_, f.ne, f.free, f2.hand.put f.ne, f2.kp.putN f.free⟩
  · have := f.len
    rw [List.length_append, List.length_singleton]; omega
  · rcases List.mem_append.mp hx with hx | hx
    · exact (f2.all x hx).nl nl
    · have hx : x = .ref q := by simpa using hx
      exact ⟨q, ms', r', lo', hi', hx, (d _ q T upd_same (up1 nq hT)).nl nl, ne⟩
def sp_others16 : Sp := fun vs H Q _ => ∃ (h p : Addr) (n : Nat) (part : Int) (ms : List Int) (r : Str) (lo hi : Option Int), vs = [.ref h, .ref p] ∧ HandAt H h n ∧ n < 1000 ∧ LawL H p part ms r lo hi ∧ EndB ms lo hi ∧
  ∀ (D : Addr) (xs : List V) (H' : Hp), FoundO H H' h D (n + 1) 9 xs part ms r lo hi → Q (.ref D) H'
theorem set_rise1 {ms : List Int} {j : Nat} {a : Int} (hr : RiseI ms) (h4 : ∀ m ∈ ms, m % 4 = 0) (ha : ms[j]? = some a) : RiseI (ms.set j (a + 1)) := fun i x y hx hy => by
  have jl := (List.getElem?_eq_some_iff.mp ha).1
  rw [List.getElem?_set] at hx hy
  have a4 := h4 a (List.mem_of_getElem? ha)
  by_cases c1 : j = i
  · subst c1
    rw [if_pos rfl, if_pos jl] at hx
    rw [if_neg (by omega)] at hy
    cases hx
    have := hr j a y ha hy
    have := h4 y (List.mem_of_getElem? hy)
    omega
  · rw [if_neg c1] at hx
    by_cases c2 : j = i + 1
    · subst c2
      rw [if_pos rfl, if_pos jl] at hy
      cases hy
      have := hr i x a hx ha
      omega
    · rw [if_neg c2] at hy
      exact hr i x y hx hy
section
variable {H : Hp} {p : Addr} {part : Int} {ms : List Int} {r : Str} {lo hi : Option Int} (a : LawL H p part ms r lo hi)
include a
theorem ld_bn : ∀ m ∈ ms, -5000000 ≤ m ∧ m ≤ 5000000 := fun m hm => by have := a.bnd m hm; omega
theorem ld_bl : ∀ z, lo = some z → -5000000 ≤ z ∧ z ≤ 5000000 := fun z hz => by have := a.blo z hz; omega
theorem ld_bh : ∀ z, hi = some z → -5000000 ≤ z ∧ z ≤ 5000000 := fun z hz => by have := a.bhi z hz; omega
theorem ld_set {j : Nat} {m : Int} (hm : ms[j]? = some m) : LawD part (ms.set j (m + 1)) r lo hi :=
  lawD a.p0 a.p1 (by rw [List.length_set]; exact a.len0) (by rw [List.length_set]; exact a.len1) (set_rise1 a.rise a.four hm) (fun x hx => by
    rcases List.mem_or_eq_of_mem_set hx with hx | rfl
    · exact ld_bn a x hx
    · have := a.bnd m (List.mem_of_getElem? hm); omega) (ld_bl a) (ld_bh a) a.rule a.span
theorem ld_rule {s : Str} (hs : IsRule s) : LawD part ms s lo hi := lawD a.p0 a.p1 a.len0 a.len1 a.rise (ld_bn a) (ld_bl a) (ld_bh a) hs a.span
theorem ld_init (h : 1 < ms.length) : LawD part (ms.take (ms.length - 1)) r lo hi :=
  lawD a.p0 a.p1 (by rw [List.length_take]; omega) (by rw [List.length_take]; have := a.len1; omega) (fun i x y hx hy => by
    have l2 := (List.getElem?_eq_some_iff.mp hy).1
    rw [List.length_take] at l2
    rw [List.getElem?_take_of_lt (by omega)] at hx hy
    exact a.rise i x y hx hy) (fun m hm => ld_bn a m (List.mem_of_mem_take hm)) (ld_bl a) (ld_bh a) a.rule a.span
theorem ld_tail (h : 1 < ms.length) : LawD part (ms.drop 1) r lo hi :=
  lawD a.p0 a.p1 (by rw [List.length_drop]; omega) (by rw [List.length_drop]; have := a.len1; omega) (fun i x y hx hy => by
    rw [List.getElem?_drop] at hx hy
    exact a.rise (1 + i) x y hx hy) (fun m hm => ld_bn a m (List.mem_of_mem_drop hm)) (ld_bl a) (ld_bh a) a.rule a.span
theorem ld_more {m : Int} (h : ms = [m]) : LawD part (ms ++ [m + 8]) r lo hi := by
  have bm := a.bnd m (by rw [h]; simp)
  subst h
  refine lawD a.p0 a.p1 (Nat.succ_pos _) (Nat.le_of_ble_eq_true rfl) (fun i x y hx hy => ?_) (fun z hz => ?_) (ld_bl a) (ld_bh a) a.rule a.span
  · match i, hx, hy with
    | 0, hx, hy => cases hx; cases hy; omega
    | i + 1, hx, hy => simp at hy
  · simp at hz
    rcases hz with rfl | rfl <;> omega
theorem ld_lo {z : Int} (h0 : -5000000 ≤ z) (h1 : z ≤ 5000000) (hs : ∀ y, hi = some y → z ≤ y) : LawD part ms r (some z) hi :=
  lawD a.p0 a.p1 a.len0 a.len1 a.rise (ld_bn a) (fun y e => by cases e; exact ⟨h0, h1⟩) (ld_bh a) a.rule (fun x y e f => by cases e; exact hs y f)
theorem ld_hi {z : Int} (h0 : -5000000 ≤ z) (h1 : z ≤ 5000000) (hs : ∀ y, lo = some y → y ≤ z) : LawD part ms r lo (some z) :=
  lawD a.p0 a.p1 a.len0 a.len1 a.rise (ld_bn a) (ld_bl a) (fun y e => by cases e; exact ⟨h0, h1⟩) a.rule (fun x y e f => by cases f; exact hs x e)
theorem ld_none : LawD part ms r none none :=
  lawD a.p0 a.p1 a.len0 a.len1 a.rise (ld_bn a) (fun y e => nomatch e) (fun y e => nomatch e) a.rule (fun x y e => nomatch e)
end
theorem set_ne {ms : List Int} {j : Nat} {a : Int} (ha : ms[j]? = some a) : ms.set j (a + 1) ≠ ms := fun e => by
  have jl := (List.getElem?_eq_some_iff.mp ha).1
  have h : (ms.set j (a + 1))[j]? = some (a + 1) := by rw [List.getElem?_set, if_pos rfl, if_pos jl]
  rw [e, ha] at h
  injection h with h
  omega

theorem low_inj {a b d : Int} (h : 0 < d) (e : lowQ (a, d) = lowQ (b, d)) : a = b := by
  have f := lowQ_fr (x := (a, d)) h
  have g := lowQ_fr (x := (b, d)) h
  rw [← e] at g
  have e1 := f.eq
  have e2 := g.eq
  have p := f.pos
  exact Int.eq_of_mul_eq_mul_right (by omega) (e1.symm.trans e2)
theorem eqM_d {a b d : Int} (h : 0 < d) : eqM (a, d) (b, d) = decide (a = b) := by
  unfold eqM
  by_cases c : a = b
  · subst c; simp
  · rw [decide_eq_false c]
    cases e1 : decide ((lowQ (a, d)).1 = (lowQ (b, d)).1) with
    | false => rfl
    | true =>
      cases e2 : decide ((lowQ (a, d)).2 = (lowQ (b, d)).2) with
      | false => rfl
      | true => exact absurd (low_inj h (Prod.ext (of_decide_eq_true e1) (of_decide_eq_true e2))) c
theorem eqsQ_d {d : Int} (h : 0 < d) : ∀ a b : List Int, eqsQ (zq d a) (zq d b) = decide (a = b)
  | [], [] => by simp [eqsQ, zq]
  | [], _ :: _ => by simp [eqsQ, zq]
  | _ :: _, [] => by simp [eqsQ, zq]
  | x :: a, y :: b => by
    have ih := eqsQ_d h a b
    have e : eqsQ (zq d (x :: a)) (zq d (y :: b)) = (eqM (x, d) (y, d) && eqsQ (zq d a) (zq d b)) := by
      simp [eqsQ, zq, Bool.and_assoc]
    rw [e, ih, eqM_d h]
    simp
theorem optEq_d {d : Int} (h : 0 < d) (hs : ∀ z : Int, True) : ∀ a b : Option Int, optEq ((oq d a).map lowQ) ((oq d b).map lowQ) = decide (a = b)
  | none, none => rfl
  | none, some _ => rfl
  | some _, none => rfl
  | some x, some y => by
    show eqq (lowQ (x, d)) (lowQ (y, d)) = _
    rw [decide_eq_decide.mpr (show (some x = some y) ↔ x = y from ⟨fun z => Option.some.inj z, fun z => by rw [z]⟩)]
    by_cases c : x = y
    · subst c
      rw [decide_eq_true rfl]
      simp [eqq]
    · rw [decide_eq_false c]
      refine decide_eq_false fun z => c ?_
      have f := lowQ_fr (x := (x, d)) h
      have g := lowQ_fr (x := (y, d)) h
      have e1 : (lowQ (x, d)).1 * d = x * (lowQ (x, d)).2 := f.eq
      have e2 : (lowQ (y, d)).1 * d = y * (lowQ (y, d)).2 := g.eq
      have p1 := f.pos
      have p2 := g.pos
      generalize (lowQ (x, d)).1 = A at *
      generalize (lowQ (x, d)).2 = U at *
      generalize (lowQ (y, d)).1 = B at *
      generalize (lowQ (y, d)).2 = W at *
      have h1 : A * d * W = x * U * W := by rw [e1]
      have h2 : B * d * U = y * W * U := by rw [e2]
      have h3 : A * d * W = B * d * U := by rw [Int.mul_right_comm A d W, z, Int.mul_right_comm B d U]
      have h4 : x * (U * W) = y * (U * W) := by rw [← Int.mul_assoc, ← h1, h3, h2, Int.mul_assoc, Int.mul_comm W U]
      exact Int.eq_of_mul_eq_mul_right (Int.ne_of_gt (Int.mul_pos p1 p2)) h4
theorem eqLQ_d {d : Int} (h : 0 < d) (ms : List Int) (r : Str) (lo hi : Option Int) (ms' : List Int) (r' : Str) (lo' hi' : Option Int) : eqLQ (zq d ms) r (oq d lo) (oq d hi) (zq d ms') r' (oq d lo') (oq d hi') = decide (ms = ms' ∧ r = r' ∧ lo = lo' ∧ hi = hi') := by
  unfold eqLQ
  rw [eqsQ_d h, optEq_d h (fun _ => True.intro), optEq_d h (fun _ => True.intro), ← Bool.decide_and, ← Bool.decide_and, ← Bool.decide_and]
theorem eqLQ_ne {d : Int} (h : 0 < d) {ms : List Int} {r : Str} {lo hi : Option Int} {ms' : List Int} {r' : Str} {lo' hi' : Option Int} (n : ¬ (ms' = ms ∧ r' = r ∧ lo' = lo ∧ hi' = hi)) : eqLQ (zq d ms) r (oq d lo) (oq d hi) (zq d ms') r' (oq d lo') (oq d hi') = false ∧ eqLQ (zq d ms') r' (oq d lo') (oq d hi') (zq d ms) r (oq d lo) (oq d hi) = false := by
  rw [eqLQ_d h, eqLQ_d h]
  exact ⟨decide_eq_false fun z => n ⟨z.1.symm, z.2.1.symm, z.2.2.1.symm, z.2.2.2.symm⟩, decide_eq_false n⟩
theorem eqLQ_self (zs : List Q2) (r : Str) (lo hi : Option Q2) : eqLQ zs r lo hi zs r lo hi = true := eqLQ_same rfl rfl rfl rfl
theorem lad_own {K : PySem.W.Frag} {CM CL p q : Addr} {H : Hp} {k k' : Nat} {zs zs' : List Q2} {r r' : Str} {lo hi lo' hi' : Option Q2} {b : Bool} (cl : Cls K CL) (ii : IsC K CL) (a : LadAt K CM CL H p k zs r lo hi) (c : LadAt K CM CL H q k' zs' r' lo' hi') (k4 : k ≤ 4000) (k4' : k' ≤ 4000) (e : eqLQ zs r lo hi zs' r' lo' hi' = b) (pq : p = q → b = true) : DOwn K CL (REqL K CM CL) (.ref p) (.ref q) H b := by
  obtain ⟨dx, T, ps, l, h, hp, _⟩ := a.ob
  obtain ⟨dy, T', ps', l', h', hq, _⟩ := c.ob
  exact ⟨p, dx, _, _, rfl, hp, tyM hq cl ii, nf_self, (fun e => by injection e with e; exact pq e), p, k, zs, r, lo, hi, rfl, a, k4, .inl ⟨q, k', zs', r', lo', hi', rfl, c, k4', e.symm⟩⟩
theorem lad_non {K : PySem.W.Frag} {CM CL p : Addr} {H : Hp} {k : Nat} {zs : List Q2} {r : Str} {lo hi : Option Q2} (ec : EqC K CL) (a : LadAt K CM CL H p k zs r lo hi) (k4 : k ≤ 4000) : DRef CL (REqL K CM CL) .non (.ref p) H false := by
  obtain ⟨dx, T, ps, l, h, hp, _⟩ := a.ob
  exact ⟨p, dx, _, _, rfl, hp, .non, (fun e => nomatch e), p, k, zs, r, lo, hi, rfl, a, k4, .inr ⟨_, (Bk.non (H := H)).ty, ec.kit _ (Bk.non (H := H)).mem, rfl⟩⟩
def DLad (K : PySem.W.Frag) (CM CL : Addr) : Eqb := DOr (DOwn K CL (REqL K CM CL)) (DRef CL (REqL K CM CL))
def bD (b : Bool) : PyData := .list [.bool b, .bool b, .bool !b, .bool !b, .bool b, .bool b]
theorem bD_ok (b : Bool) : (bD b).showable = true ∧ (bD b).hasDict = false ∧ (bD b).depth ≤ 60 ∧ (bD b).shown.length ≤ sizeLine := by
  cases b <;> exact ⟨by decide +kernel, by decide +kernel, by decide +kernel, zLen (by decide +kernel)⟩
theorem bD_dp {K : PySem.W.Frag} {H : Hp} {p : Addr} {b : Bool} (h : H p = some (.lst [.bl b, .bl b, .bl !b, .bl !b, .bl b, .bl b])) : Dp K H (.ref p) (bD b) := .lst (SqL.of h) (.cons (.bl _) (.cons (.bl _) (.cons (.bl _) (.cons (.bl _) (.cons (.bl _) (.cons (.bl _) .nil))))))
theorem int_ok {z : Int} (h : z.natAbs < 2 ^ 60) : (PyData.int z).showable = true ∧ (PyData.int z).hasDict = false ∧ (PyData.int z).depth ≤ 60 ∧ (PyData.int z).shown.length ≤ sizeLine := by
  have h3 : z.natAbs.log2 < 60 := by
    by_cases e : z.natAbs = 0
    · rw [e]; decide
    · exact (Nat.log2_lt e).mpr h
  have h4 := int_text_length_le (a := z) (k := 60) (by decide) h3
  have h5 : (Str.ofString (toString z)).length = (toString z).length := PySem.ofString_length _
  refine ⟨decide_eq_true (Nat.lt_of_lt_of_le h3 (by decide)), rfl, by show 0 ≤ 60; decide, zLen ?_⟩
  show (Str.ofString (toString z)).length ≤ _
  omega
def sp_are16 (K : PySem.W.Frag) (CM CL : Addr) : Sp := fun vs H Q _ => ∃ (p q : Addr) (b : Bool) (k k' : Nat) (zs zs' : List Q2) (r r' : Str) (lo hi lo' hi' : Option Q2), vs = [.ref p, .ref q, .bl b] ∧ LadAt K CM CL H p k zs r lo hi ∧ LadAt K CM CL H q k' zs' r' lo' hi' ∧ k ≤ 4000 ∧ k' ≤ 4000 ∧ eqLQ zs r lo hi zs' r' lo' hi' = b ∧ eqLQ zs' r' lo' hi' zs r lo hi = b ∧ (p = q → b = true) ∧ ∀ H', Same H H' → Q (.bl true) H'
inductive OddV (CM : Addr) (H : Hp) : V → Prop where
  | kd {y : V} {T : String} (b : Bk H y T) : OddV CM H y
  | dic {c : Addr} {kvs : List (Key × V)} (h : H c = some (.dK kvs)) : OddV CM H (.ref c)
  | ms {q : Addr} {t u : Int} (m : MAt CM H q t u) : OddV CM H (.ref q)
theorem OddV.same {CM : Addr} {H H' : Hp} {v : V} (o : OddV CM H v) (s : Same H H') : OddV CM H' v := by
  cases o with
  | kd b => exact .kd (b.same s)
  | dic h => exact .dic (s _ _ h)
  | ms m => exact .ms (m.same s)
theorem lad_notM {K : PySem.W.Frag} {CM CL p : Addr} {H : Hp} {k : Nat} {zs : List Q2} {r : Str} {lo hi : Option Q2} {t u : Int} (a : LadAt K CM CL H p k zs r lo hi) (m : MAt CM H p t u) : False := by
  obtain ⟨dx, T, ps, l, h, hp, _⟩ := a.ob
  obtain ⟨dm, hm⟩ := m
  rw [hp] at hm
  have e := (HO.ins.inj (Option.some.inj hm)).2.2
  have e2 := congrArg (fun fs : List (Str × V) => fs.lookup ("top" : Str)) e
  have e3 : (lf (.ref T) r l h).lookup ("top" : Str) = none := lf_no _ _ _ _ (by decide +kernel) (by decide +kernel) (by decide +kernel) (by decide +kernel)
  rw [show (lf (.ref T) r l h).lookup ("top" : Str) = (mf t u).lookup ("top" : Str) from e2, mf_top t u] at e3
  cases e3
section
variable {K : PySem.W.Frag} {CM CL p : Addr} {H : Hp} {k : Nat} {zs : List Q2} {r : Str} {lo hi : Option Q2} {v : V}
theorem OddV.fwd (a : LadAt K CM CL H p k zs r lo hi) (k4 : k ≤ 4000) (o : OddV CM H v) (cl : Cls K CM) (ii : IsC K CM) (ec : EqC K CL) (ed : EqD K CL) (nf : PySem.W.notFirst K CL (.ref CM) = true) (kt : PySem.W.kitOne K (.ref CM) (.ref CL) = some false) : DOwn K CL (REqL K CM CL) (.ref p) v H false := by
  obtain ⟨dx, T, ps, l, h, hp, _⟩ := a.ob
  cases o with
  | @kd _ T b => exact ⟨p, dx, _, _, rfl, hp, b.ty, ec.nf _ b.mem, (fun e => by subst e; exact (b.notIns hp).elim), p, k, zs, r, lo, hi, rfl, a, k4, .inr ⟨_, b.ty, ec.kit _ b.mem, rfl⟩⟩
  | @dic c kvs hc =>
    have ty : TyX K H (.ref c) (.type "dict") := .base (.dK hc)
    exact ⟨p, dx, _, _, rfl, hp, ty, ed.nf, (fun e => by cases e; rw [hp] at hc; cases hc), p, k, zs, r, lo, hi, rfl, a, k4, .inr ⟨_, ty, ed.kit, rfl⟩⟩
  | @ms q t u m =>
    obtain ⟨dm, hm⟩ := _root_.id m
    have ty := tyM hm cl ii
    exact ⟨p, dx, _, _, rfl, hp, ty, nf, (fun e => by cases e; exact (lad_notM a m).elim), p, k, zs, r, lo, hi, rfl, a, k4, .inr ⟨_, ty, kt, rfl⟩⟩
theorem OddV.bwd (a : LadAt K CM CL H p k zs r lo hi) (k4 : k ≤ 4000) (o : OddV CM H v) (cl : Cls K CL) (ii : IsC K CL) (ec : EqC K CL) (ed : EqD K CL) (nf : PySem.W.notFirst K CM (.ref CL) = true) (kt : PySem.W.kitOne K (.ref CL) (.ref CM) = some false) : DOr (DOr (DRef CL (REqL K CM CL)) (DRefD CL (REqL K CM CL))) (DOwn K CM (REq K CM)) v (.ref p) H false := by
  obtain ⟨dx, T, ps, l, h, hp, _⟩ := a.ob
  cases o with
  | @kd _ T b => exact .inl (.inl ⟨p, dx, _, _, rfl, hp, b, (fun e => by subst e; exact (b.notIns hp).elim), p, k, zs, r, lo, hi, rfl, a, k4, .inr ⟨_, b.ty, ec.kit _ b.mem, rfl⟩⟩)
  | @dic c kvs hc =>
    have ty : TyX K H (.ref c) (.type "dict") := .base (.dK hc)
    exact .inl (.inr ⟨p, dx, _, c, kvs, rfl, hp, rfl, hc, p, k, zs, r, lo, hi, rfl, a, k4, .inr ⟨_, ty, ed.kit, rfl⟩⟩)
  | @ms q t u m =>
    obtain ⟨dm, hm⟩ := _root_.id m
    have ty := tyM hp cl ii
    exact .inr ⟨q, dm, _, _, rfl, hm, ty, nf, (fun e => by cases e; exact (lad_notM a m).elim), q, t, u, rfl, m, .inr ⟨_, ty, kt, rfl⟩⟩
end
theorem rep_any (n : Nat) : (List.replicate n false).any _root_.id = false := by
  induction n with
  | zero => rfl
  | succ n ih => rw [List.replicate_succ, List.any_cons, ih]; rfl
theorem rep_fmF (n : Nat) : (List.replicate n (some (V.bl false))).filterMap _root_.id = (List.replicate n false).map V.bl := by
  induction n with
  | zero => rfl
  | succ n ih => rw [List.replicate_succ, List.filterMap_cons, List.replicate_succ, List.map_cons, ← ih]; rfl
def sp_right16 : Sp := fun vs H Q _ => ∃ (h : Addr), vs = [.ref h] ∧ HandAt H h 0 ∧ ∀ H', Kp h H H' → Q (.bl true) H'

def sp_law (K : PySem.W.Frag) : Sp := fun vs H Q _ => ∃ (a : Addr) (ns : List Int), vs = [.ref a] ∧ SqL K H a (ns.map V.int) ∧ ns.length ≤ 63 ∧ ∀ H', Q (.bl true) H'

theorem b_is_whole_1 {K : PySem.W.Frag} {mg : Str → Option Value} {φ : Fds} (T : Txt K mg φ) : ∃ ds, Vals ([] : List V) ds ∧ Binds K φ.is_whole p_is_whole ds :=
  ⟨[], .nil, T.f_is_whole.bindsN fun _ _ _ _ _ _ us hl => match us, hl with | [_], _ => rfl⟩
theorem b_common_part_2 {K : PySem.W.Frag} {mg : Str → Option Value} {φ : Fds} (T : Txt K mg φ) : ∃ ds, Vals ([] : List V) ds ∧ Binds K φ.common_part p_common_part ds :=
  ⟨[], .nil, T.f_common_part.bindsN fun _ _ _ _ _ _ us hl => match us, hl with | [_, _], _ => rfl⟩
theorem b_Measure_is_below_2 {K : PySem.W.Frag} {mg : Str → Option Value} {φ : Fds} (T : Txt K mg φ) : ∃ ds, Vals ([V.bl false] : List V) ds ∧ Binds K φ.Measure_is_below p_Measure_is_below ds :=
  T.f_Measure_is_below.binds1 2 0 (by simp) rfl fun _ _ _ _ _ _ _ us its h1 h2 => match us, its, h1, h2 with | [_, _], [_], _, _ => ⟨_, rfl, rfl⟩
theorem b_Measure_is_below_3 {K : PySem.W.Frag} {mg : Str → Option Value} {φ : Fds} (T : Txt K mg φ) : ∃ ds, Vals ([] : List V) ds ∧ Binds K φ.Measure_is_below p_Measure_is_below ds :=
  T.f_Measure_is_below.binds1 3 1 (by simp) rfl fun _ _ _ _ _ _ _ us its h1 h2 => match us, its, h1, h2 with | [_, _, _], [_], _, _ => ⟨_, rfl, rfl⟩
theorem b_are_marks_1 {K : PySem.W.Frag} {mg : Str → Option Value} {φ : Fds} (T : Txt K mg φ) : ∃ ds, Vals ([] : List V) ds ∧ Binds K φ.are_marks p_are_marks ds :=
  ⟨[], .nil, T.f_are_marks.bindsN fun _ _ _ _ _ _ us hl => match us, hl with | [_], _ => rfl⟩
theorem b_is_rule_1 {K : PySem.W.Frag} {mg : Str → Option Value} {φ : Fds} (T : Txt K mg φ) : ∃ ds, Vals ([] : List V) ds ∧ Binds K φ.is_rule p_is_rule ds :=
  ⟨[], .nil, T.f_is_rule.bindsN fun _ _ _ _ _ _ us hl => match us, hl with | [_], _ => rfl⟩
theorem b_is_measure_or_none_1 {K : PySem.W.Frag} {mg : Str → Option Value} {φ : Fds} (T : Txt K mg φ) : ∃ ds, Vals ([] : List V) ds ∧ Binds K φ.is_measure_or_none p_is_measure_or_none ds :=
  ⟨[], .nil, T.f_is_measure_or_none.bindsN fun _ _ _ _ _ _ us hl => match us, hl with | [_], _ => rfl⟩
theorem b_is_span_2 {K : PySem.W.Frag} {mg : Str → Option Value} {φ : Fds} (T : Txt K mg φ) : ∃ ds, Vals ([] : List V) ds ∧ Binds K φ.is_span p_is_span ds :=
  ⟨[], .nil, T.f_is_span.bindsN fun _ _ _ _ _ _ us hl => match us, hl with | [_, _], _ => rfl⟩
theorem b_slip_of_1 {K : PySem.W.Frag} {mg : Str → Option Value} {φ : Fds} (T : Txt K mg φ) : ∃ ds, Vals ([] : List V) ds ∧ Binds K φ.slip_of p_slip_of ds :=
  ⟨[], .nil, T.f_slip_of.bindsN fun _ _ _ _ _ _ us hl => match us, hl with | [_], _ => rfl⟩
theorem b_written_2 {K : PySem.W.Frag} {mg : Str → Option Value} {φ : Fds} (T : Txt K mg φ) : ∃ ds, Vals ([] : List V) ds ∧ Binds K φ.written p_written ds :=
  ⟨[], .nil, T.f_written.bindsN fun _ _ _ _ _ _ us hl => match us, hl with | [_, _], _ => rfl⟩
theorem b_Measure_str_1 {K : PySem.W.Frag} {mg : Str → Option Value} {φ : Fds} (T : Txt K mg φ) : ∃ ds, Vals ([] : List V) ds ∧ Binds K φ.Measure_str p_Measure_str ds :=
  ⟨[], .nil, T.f_Measure_str.bindsN fun _ _ _ _ _ _ us hl => match us, hl with | [_], _ => rfl⟩
theorem b_bound_text_2 {K : PySem.W.Frag} {mg : Str → Option Value} {φ : Fds} (T : Txt K mg φ) : ∃ ds, Vals ([] : List V) ds ∧ Binds K φ.bound_text p_bound_text ds :=
  ⟨[], .nil, T.f_bound_text.bindsN fun _ _ _ _ _ _ us hl => match us, hl with | [_, _], _ => rfl⟩
theorem b_Measure_repr_1 {K : PySem.W.Frag} {mg : Str → Option Value} {φ : Fds} (T : Txt K mg φ) : ∃ ds, Vals ([] : List V) ds ∧ Binds K φ.Measure_repr p_Measure_repr ds :=
  ⟨[], .nil, T.f_Measure_repr.bindsN fun _ _ _ _ _ _ us hl => match us, hl with | [_], _ => rfl⟩
theorem b_Measure_eq_2 {K : PySem.W.Frag} {mg : Str → Option Value} {φ : Fds} (T : Txt K mg φ) : ∃ ds, Vals ([] : List V) ds ∧ Binds K φ.Measure_eq p_Measure_eq ds :=
  ⟨[], .nil, T.f_Measure_eq.bindsN fun _ _ _ _ _ _ us hl => match us, hl with | [_, _], _ => rfl⟩
theorem b_l_take_2 {K : PySem.W.Frag} {mg : Str → Option Value} {φ : Fds} (T : Txt K mg φ) : ∃ ds, Vals ([] : List V) ds ∧ Binds K φ.l_take p_l_take ds :=
  ⟨[], .nil, T.f_l_take.bindsN fun _ _ _ _ _ _ us hl => match us, hl with | [_, _], _ => rfl⟩
theorem b_Measure_init_3 {K : PySem.W.Frag} {mg : Str → Option Value} {φ : Fds} (T : Txt K mg φ) : ∃ ds, Vals ([] : List V) ds ∧ Binds K φ.Measure_init p_Measure_init ds :=
  T.f_Measure_init.binds1 3 1 (by simp) rfl fun _ _ _ _ _ _ _ us its h1 h2 => match us, its, h1, h2 with | [_, _, _], [_], _, _ => ⟨_, rfl, rfl⟩
theorem b_l_measure_2 {K : PySem.W.Frag} {mg : Str → Option Value} {φ : Fds} (T : Txt K mg φ) : ∃ ds, Vals ([] : List V) ds ∧ Binds K φ.l_measure p_l_measure ds :=
  ⟨[], .nil, T.f_l_measure.bindsN fun _ _ _ _ _ _ us hl => match us, hl with | [_, _], _ => rfl⟩
theorem b_Ladder_init_5 {K : PySem.W.Frag} {mg : Str → Option Value} {φ : Fds} (T : Txt K mg φ) : ∃ ds, Vals ([] : List V) ds ∧ Binds K φ.Ladder_init p_Ladder_init ds :=
  T.f_Ladder_init.binds1 5 3 (by simp) rfl fun _ _ _ _ _ _ _ us its h1 h2 => match us, its, h1, h2 with | [_, _, _, _, _], [_, _, _], _, _ => ⟨_, rfl, rfl⟩
theorem b_l_end_2 {K : PySem.W.Frag} {mg : Str → Option Value} {φ : Fds} (T : Txt K mg φ) : ∃ ds, Vals ([] : List V) ds ∧ Binds K φ.l_end p_l_end ds :=
  ⟨[], .nil, T.f_l_end.bindsN fun _ _ _ _ _ _ us hl => match us, hl with | [_, _], _ => rfl⟩
theorem b_l_lowest_2 {K : PySem.W.Frag} {mg : Str → Option Value} {φ : Fds} (T : Txt K mg φ) : ∃ ds, Vals ([] : List V) ds ∧ Binds K φ.l_lowest p_l_lowest ds :=
  ⟨[], .nil, T.f_l_lowest.bindsN fun _ _ _ _ _ _ us hl => match us, hl with | [_, _], _ => rfl⟩
theorem b_l_shown_2 {K : PySem.W.Frag} {mg : Str → Option Value} {φ : Fds} (T : Txt K mg φ) : ∃ ds, Vals ([] : List V) ds ∧ Binds K φ.l_shown p_l_shown ds :=
  ⟨[], .nil, T.f_l_shown.bindsN fun _ _ _ _ _ _ us hl => match us, hl with | [_, _], _ => rfl⟩
theorem b_l_named_2 {K : PySem.W.Frag} {mg : Str → Option Value} {φ : Fds} (T : Txt K mg φ) : ∃ ds, Vals ([] : List V) ds ∧ Binds K φ.l_named p_l_named ds :=
  ⟨[], .nil, T.f_l_named.bindsN fun _ _ _ _ _ _ us hl => match us, hl with | [_, _], _ => rfl⟩
theorem b_l_of_2 {K : PySem.W.Frag} {mg : Str → Option Value} {φ : Fds} (T : Txt K mg φ) : ∃ ds, Vals ([] : List V) ds ∧ Binds K φ.l_of p_l_of ds :=
  ⟨[], .nil, T.f_l_of.bindsN fun _ _ _ _ _ _ us hl => match us, hl with | [_, _], _ => rfl⟩
theorem b_l_near_2 {K : PySem.W.Frag} {mg : Str → Option Value} {φ : Fds} (T : Txt K mg φ) : ∃ ds, Vals ([] : List V) ds ∧ Binds K φ.l_near p_l_near ds :=
  ⟨[], .nil, T.f_l_near.bindsN fun _ _ _ _ _ _ us hl => match us, hl with | [_, _], _ => rfl⟩
theorem b_Ladder_eq_2 {K : PySem.W.Frag} {mg : Str → Option Value} {φ : Fds} (T : Txt K mg φ) : ∃ ds, Vals ([] : List V) ds ∧ Binds K φ.Ladder_eq p_Ladder_eq ds :=
  ⟨[], .nil, T.f_Ladder_eq.bindsN fun _ _ _ _ _ _ us hl => match us, hl with | [_, _], _ => rfl⟩
theorem b_l_ladder_1 {K : PySem.W.Frag} {mg : Str → Option Value} {φ : Fds} (T : Txt K mg φ) : ∃ ds, Vals ([] : List V) ds ∧ Binds K φ.l_ladder p_l_ladder ds :=
  ⟨[], .nil, T.f_l_ladder.bindsN fun _ _ _ _ _ _ us hl => match us, hl with | [_], _ => rfl⟩
theorem b_l_made_1 {K : PySem.W.Frag} {mg : Str → Option Value} {φ : Fds} (T : Txt K mg φ) : ∃ ds, Vals ([] : List V) ds ∧ Binds K φ.l_made p_l_made ds :=
  ⟨[], .nil, T.f_l_made.bindsN fun _ _ _ _ _ _ us hl => match us, hl with | [_], _ => rfl⟩
theorem b_Ladder_repr_1 {K : PySem.W.Frag} {mg : Str → Option Value} {φ : Fds} (T : Txt K mg φ) : ∃ ds, Vals ([] : List V) ds ∧ Binds K φ.Ladder_repr p_Ladder_repr ds :=
  ⟨[], .nil, T.f_Ladder_repr.bindsN fun _ _ _ _ _ _ us hl => match us, hl with | [_], _ => rfl⟩
theorem b_l_name_1 {K : PySem.W.Frag} {mg : Str → Option Value} {φ : Fds} (T : Txt K mg φ) : ∃ ds, Vals ([] : List V) ds ∧ Binds K φ.l_name p_l_name ds :=
  ⟨[], .nil, T.f_l_name.bindsN fun _ _ _ _ _ _ us hl => match us, hl with | [_], _ => rfl⟩
theorem b_Ladder_str_1 {K : PySem.W.Frag} {mg : Str → Option Value} {φ : Fds} (T : Txt K mg φ) : ∃ ds, Vals ([] : List V) ds ∧ Binds K φ.Ladder_str p_Ladder_str ds :=
  ⟨[], .nil, T.f_Ladder_str.bindsN fun _ _ _ _ _ _ us hl => match us, hl with | [_], _ => rfl⟩
theorem b_l_text_1 {K : PySem.W.Frag} {mg : Str → Option Value} {φ : Fds} (T : Txt K mg φ) : ∃ ds, Vals ([] : List V) ds ∧ Binds K φ.l_text p_l_text ds :=
  ⟨[], .nil, T.f_l_text.bindsN fun _ _ _ _ _ _ us hl => match us, hl with | [_], _ => rfl⟩
theorem b_Ladder_len_1 {K : PySem.W.Frag} {mg : Str → Option Value} {φ : Fds} (T : Txt K mg φ) : ∃ ds, Vals ([] : List V) ds ∧ Binds K φ.Ladder_len p_Ladder_len ds :=
  ⟨[], .nil, T.f_Ladder_len.bindsN fun _ _ _ _ _ _ us hl => match us, hl with | [_], _ => rfl⟩
theorem b_l_are_3 {K : PySem.W.Frag} {mg : Str → Option Value} {φ : Fds} (T : Txt K mg φ) : ∃ ds, Vals ([] : List V) ds ∧ Binds K φ.l_are p_l_are ds :=
  ⟨[], .nil, T.f_l_are.bindsN fun _ _ _ _ _ _ us hl => match us, hl with | [_, _, _], _ => rfl⟩
theorem b_l_others_2 {K : PySem.W.Frag} {mg : Str → Option Value} {φ : Fds} (T : Txt K mg φ) : ∃ ds, Vals ([] : List V) ds ∧ Binds K φ.l_others p_l_others ds :=
  ⟨[], .nil, T.f_l_others.bindsN fun _ _ _ _ _ _ us hl => match us, hl with | [_, _], _ => rfl⟩
theorem b_l_right_1 {K : PySem.W.Frag} {mg : Str → Option Value} {φ : Fds} (T : Txt K mg φ) : ∃ ds, Vals ([] : List V) ds ∧ Binds K φ.l_right p_l_right ds :=
  ⟨[], .nil, T.f_l_right.bindsN fun _ _ _ _ _ _ us hl => match us, hl with | [_], _ => rfl⟩
theorem b_l_hand_2 {K : PySem.W.Frag} {mg : Str → Option Value} {φ : Fds} (T : Txt K mg φ) : ∃ ds, Vals ([] : List V) ds ∧ Binds K φ.l_hand p_l_hand ds :=
  ⟨[], .nil, T.f_l_hand.bindsN fun _ _ _ _ _ _ us hl => match us, hl with | [_, _], _ => rfl⟩
theorem ok_is_whole {P : Program} {w : World} {K : PySem.W.Frag} {mg : Str → Option Value} {base : Heap} {φ : Fds} (T : Txt K mg φ) : FnOk P w K mg base CX0 1 (He.fAd K ("is_whole", none)) φ.is_whole p_is_whole sp_whole := by
  refine T.f_is_whole.ok sc_is_whole (fun vs H Q E h => ?_) (fun cdv A outer s H vs Q E hr h => ?_)
  · obtain ⟨n, rfl, k⟩ := h; rfl
  · obtain ⟨n, rfl, k⟩ := h
    refine ⟨_, PSs.nox (pss_one (ps_ret (pe_and (pe_callB (id := "isinstance") (isi (K := K)) (by rfl) T.z_isinstance (by decide +kernel) (pa_cons (pv 0) (pa_cons (pe_bltn (v := .ty "int") rfl T.z_int (by decide +kernel) rfl) pa_nil))) (pe_one (pe_not (pe_callB (id := "isinstance") (isi (K := K)) (by rfl) T.z_isinstance (by decide +kernel) (pa_cons (pv 0) (pa_cons (pe_bltn (v := .ty "bool") rfl T.z_bool (by decide +kernel) rfl) pa_nil)))))))), ?_⟩
    refine ⟨_, rfl, _, _, _, _, _, rfl, .ty _, .base (.int _), kit_ty (r := true) (by decide +kernel), _, rfl, ?_⟩
    refine iteT ?_
    refine ⟨_, rfl, _, _, _, _, _, rfl, .ty _, .base (.int _), kit_ty (r := false) (by decide +kernel), _, rfl, ?_⟩
    exact k
theorem ok_common_part {P : Program} {w : World} {K : PySem.W.Frag} {mg : Str → Option Value} {base : Heap} {φ : Fds} (T : Txt K mg φ) : FnOk P w K mg base CX0 1 (He.fAd K ("common_part", none)) φ.common_part p_common_part sp_common := by
  refine T.f_common_part.ok sc_common_part (fun vs H Q E h => ?_) (fun cdv A outer s H vs Q E hr h => ?_)
  · obtain ⟨a, b, rfl, k⟩ := h; rfl
  · obtain ⟨a, b, rfl, k⟩ := h
    refine ⟨_, PSs.nox (pss_cons (ps_par (i := 2) (j := 3) rfl sc_common_part.nd rfl rfl (by decide) rfl rfl (pa_cons (pe_callB (id := "abs") call_abs (by rfl) T.z_abs (by decide +kernel) (pa_cons (pv 0) pa_nil)) (pa_cons (pe_callB (id := "abs") call_abs (by rfl) T.z_abs (by decide +kernel) (pa_cons (pv 1) pa_nil)) pa_nil)) (by rfl))
      (pss_cons (ps_while PassesOwn.never (pt_cmpR op_gt (pv 3) pe_int (nomark _))
      (pss_one (ps_par (i := 2) (j := 3) rfl sc_common_part.nd rfl rfl (by decide) rfl rfl (pa_cons (pv 3) (pa_cons (pe_op op_mod (pv 2) (pv 3)) pa_nil)) (by rfl))))
      (pss_one (ps_ret (pv 2))))), ?_⟩
    refine ⟨_, rfl, _, rfl, _, rfl, _, rfl, _, _, rfl, ?_⟩
    refine while_by (fun σ H' => H' = H ∧ ∃ g s : Int, σ = [some (.int a), some (.int b), some (.int g), some (.int s)] ∧ 0 ≤ g ∧ 0 ≤ s ∧ Int.gcd g s = Int.gcd a b)
      (fun σ _ => match σ with | [_, _, _, some (.int s)] => s.toNat | _ => 0) ⟨rfl, _, _, rfl, ?_, ?_, ?_⟩ ?_ (fun σ H Q Q' hQ ⟨v, e1, i, j, e2, e3, c, e4, q⟩ => ⟨v, e1, i, j, e2, e3, c, e4, hQ _ _ q⟩)
    · split <;> omega
    · split <;> omega
    · have e1 : (if a < 0 then -a else a) = (a.natAbs : Int) := by split <;> omega
      have e2 : (if b < 0 then -b else b) = (b.natAbs : Int) := by split <;> omega
      rw [e1, e2]
      rfl
    · rintro σ H' ⟨rfl, g, s, rfl, hg, hs, e⟩
      refine ⟨_, rfl, _, _, rfl, rfl, _, rfl, ?_⟩
      refine ite2 (fun c => ?_) (fun c => ?_)
      · have c0 : 0 < s := of_decide_eq_true c
        refine ⟨_, rfl, _, rfl, _, rfl, _, _, rfl, rfl, c0, _, _, rfl, ?_⟩
        refine ⟨⟨rfl, s, g % s, rfl, hs, Int.emod_nonneg _ (by omega), (gcd_step c0 hg).trans e⟩, ?_⟩
        show (g % s).toNat < s.toNat
        have h1 := Int.emod_nonneg g (show s ≠ 0 by omega)
        have h2 := Int.emod_lt_of_pos g c0
        omega
      · have c0 : ¬ 0 < s := fun z => c (decide_eq_true z)
        have s0 : s = 0 := by omega
        subst s0
        refine ⟨_, rfl, ?_⟩
        have eg : g = (Int.gcd a b : Int) := by
          rw [← e, Int.gcd_zero_right]
          omega
        rw [eg]
        exact k
theorem ok_Measure_init {P : Program} {w : World} {K : PySem.W.Frag} {mg : Str → Option Value} {base : Heap} {φ : Fds} (T : Txt K mg φ) : FnOk P w K mg base CX0 2 (He.fAd K ("Measure", some "__init__")) φ.Measure_init p_Measure_init (sp_minit (He.ga K "Measure")) := by
  obtain ⟨_, B0v, B0⟩ := b_is_whole_1 T
  obtain ⟨_, B1v, B1⟩ := b_common_part_2 T
  refine T.f_Measure_init.ok sc_Measure_init (fun vs H Q E h => ?_) (fun cdv A outer s H vs Q E hr h => ?_)
  · obtain ⟨p, dx, a, b, rfl, hp, hb, hl, k⟩ := h; rfl
  · obtain ⟨p, dx, a, b, rfl, hp, hb, hl, k⟩ := h
    refine ⟨_, PSs.nox (pss_cons (ps_if (PW.pt (pw_or (pt_not (pt_val (pe_call (ok_is_whole (K := K) T) (hr.mono (by decide)) rfl T.g_is_whole T.f_is_whole.kp B0 B0v pass0 (pa_cons (pv 1) pa_nil)))) (pw_or1 (pt_not (pt_val (pe_call (ok_is_whole (K := K) T) (hr.mono (by decide)) rfl T.g_is_whole T.f_is_whole.kp B0 B0v pass0 (pa_cons (pv 2) pa_nil)))))))
      (pss_one ps_never)
      pss_nil)
      (pss_cons (ps_if (pt_cmpR op_eq (pv 2) pe_int (nomark _))
      (pss_one ps_never)
      pss_nil)
      (pss_cons (ps_set (i := 3) sc_Measure_init.nd rfl (Or.inl rfl) (pe_call (ok_common_part (K := K) T) (hr.mono (by decide)) rfl T.g_common_part T.f_common_part.kp B1 B1v pass0 (pa_cons (pv 1) (pa_cons (pv 2) pa_nil))))
      (pss_cons (ps_cut (ps_if (pt_cmpR op_lt (pv 2) pe_int (nomark _))
      (pss_one (ps_set (i := 3) sc_Measure_init.nd rfl (Or.inl rfl) (pe_un un_neg (pv 3))))
      pss_nil))
      (pss_cons (ps_fld (pv 0) (pe_op op_fd (pv 1) (pv 3)) rfl)
      (pss_one (ps_fld (pv 0) (pe_op op_fd (pv 2) (pv 3)) rfl))))))), ?_⟩
    refine ⟨_, rfl, a, rfl, _, rfl, ?_⟩
    refine iteF ?_
    refine ⟨_, rfl, b, rfl, _, rfl, ?_⟩
    refine iteF ?_
    refine ⟨_, rfl, rfl, _, rfl, ?_⟩
    rw [dI]
    refine ite2 (fun e => absurd (of_decide_eq_true e) hb) (fun _ => ?_)
    refine ⟨_, rfl, _, rfl, a, b, rfl, ?_⟩
    refine ⟨fun σ' H' => H' = H ∧ ∃ c : Int, c = sgn b * (Int.gcd a b : Int) ∧ σ' = [some (.ref p), some (.int a), some (.int b), some (.int c)], ?_, ?_⟩
    · refine ⟨_, rfl, _, _, rfl, rfl, _, rfl, ?_⟩
      refine ite2 (fun e => ?_) (fun e => ?_)
      · have e0 : b < 0 := of_decide_eq_true e
        refine ⟨_, rfl, _, rfl, rfl, _, ?_, rfl⟩
        unfold sgn
        rw [if_neg (by omega), Int.neg_one_mul]
      · have e0 : ¬ b < 0 := fun z => e (decide_eq_true z)
        refine ⟨rfl, _, ?_, rfl⟩
        unfold sgn
        rw [if_pos (by omega), Int.one_mul]
    · rintro σ' H' ⟨rfl, c, hc, rfl⟩
      obtain ⟨c0, cl, fr⟩ := fr_mk hb hc
      have c9 : c.natAbs.log2 < 9000 := by
        refine Nat.lt_of_le_of_lt ?_ hl
        exact (Nat.le_log2 (by omega)).mpr (Nat.le_trans (Nat.log2_self_le (by omega)) cl)
      refine ⟨_, rfl, _, rfl, _, _, rfl, rfl, ⟨c0, c9⟩, _, rfl, p, _, dx, _, rfl, hp, T.cl_Measure, T.na_Measure_top, (by show 0 < 1000; decide), ?_⟩
      refine ⟨_, rfl, _, rfl, _, _, rfl, rfl, ⟨c0, c9⟩, _, rfl, p, _, dx, _, rfl, upd_same, T.cl_Measure, T.na_Measure_bottom, (by show 1 < 1000; decide), ?_⟩
      refine k _ _ _ fr ?_ fun q o e nq => ?_
      · rw [upd_same, mf_put]
      · rw [upd_ne nq, upd_ne nq]
        exact e
theorem ok_Measure_is_below {P : Program} {w : World} {K : PySem.W.Frag} {mg : Str → Option Value} {base : Heap} {φ : Fds} (T : Txt K mg φ) : FnOk P w K mg base CX0 1 (He.fAd K ("Measure", some "is_below")) φ.Measure_is_below p_Measure_is_below (sp_below (He.ga K "Measure")) := by
  refine T.f_Measure_is_below.ok sc_Measure_is_below (fun vs H Q E h => ?_) (fun cdv A outer s H vs Q E hr h => ?_)
  · obtain ⟨p, q, t, u, t', u', al, rfl, ⟨dp, hp⟩, ⟨dq, hq⟩, st, su, st', su', k⟩ := h; rfl
  · obtain ⟨p, q, t, u, t', u', al, rfl, ⟨dp, hp⟩, ⟨dq, hq⟩, st, su, st', su', k⟩ := h
    refine ⟨_, PSs.nox (pss_cons (ps_set (i := 3) sc_Measure_is_below.nd rfl (Or.inl rfl) (pe_op op_mulA (fldK (K := K) (pv 0) rfl) (fldK (K := K) (pv 1) rfl)))
      (pss_cons (ps_set (i := 4) sc_Measure_is_below.nd rfl (Or.inl rfl) (pe_op op_mulA (fldK (K := K) (pv 1) rfl) (fldK (K := K) (pv 0) rfl)))
      (pss_one (ps_ret (pe_or (pe_cmpR op_lt (pv 3) (pv 4) (nomark _)) (pe_one (pe_and (pv 2) (pe_one (pe_cmpR op_eq (pv 3) (pv 4) (nomark _)))))))))), ?_⟩
    refine ⟨_, rfl, _, _, _, _, _, rfl, hp, T.cl_Measure, T.na_Measure_top, mf_top _ _, _, rfl, _, _, _, _, _, rfl, hq, T.cl_Measure, T.na_Measure_bottom, mf_bottom _ _, _, _, rfl, rfl, st.cmul su' (by decide) (by decide) (by decide), ?_⟩
    refine ⟨_, rfl, _, _, _, _, _, rfl, hq, T.cl_Measure, T.na_Measure_top, mf_top _ _, _, rfl, _, _, _, _, _, rfl, hp, T.cl_Measure, T.na_Measure_bottom, mf_bottom _ _, _, _, rfl, rfl, st'.cmul su (by decide) (by decide) (by decide), ?_⟩
    refine ⟨_, rfl, _, rfl, _, _, rfl, rfl, _, rfl, ?_⟩
    have e : ∀ b : Bool, b = lessA t u t' u' al → Q (.bl b) H := fun b z => by rw [z]; exact k
    refine ite2 (fun c => e _ ?_) (fun c => ?_)
    · unfold lessA
      rw [c]
      rfl
    · have c0 : decide (t * u' < t' * u) = false := by simpa using c
      refine ⟨_, rfl, _, rfl, ?_⟩
      cases al with
      | false =>
        refine iteF (e _ ?_)
        unfold lessA
        rw [c0]
        rfl
      | true =>
        refine iteT ?_
        refine ⟨_, rfl, _, rfl, rfl, e _ ?_⟩
        unfold lessA
        rw [c0, dI]
        rfl
theorem ok_slip_of {P : Program} {w : World} {K : PySem.W.Frag} {mg : Str → Option Value} {base : Heap} {φ : Fds} (T : Txt K mg φ) : FnOk P w K mg base CX0 2 (He.fAd K ("slip_of", none)) φ.slip_of p_slip_of (sp_slip K (He.ga K "Measure")) := by
  obtain ⟨_, B0v, B0⟩ := b_Measure_is_below_2 T
  refine T.f_slip_of.ok sc_slip_of (fun vs H Q E h => ?_) (fun cdv A outer s H vs Q E hr h => ?_)
  · obtain ⟨T', k, ps, zs, rfl, hT, hm, hk, hl, kk⟩ := h; rfl
  · obtain ⟨T', k, ps, zs, rfl, hT, hm, hk, hl, kk⟩ := h
    refine ⟨_, PSs.nox (pss_cons (ps_for PassesOwn.never rfl (pi_range2 rfl T.z_range (pa_cons pe_int (pa_cons (pe_callB (id := "len") (lenS (K := K)) (by rfl) T.z_len PySem.boot_len (pa_cons (pv 0) pa_nil)) pa_nil))) (pg_name (i := 1) sc_slip_of.nd rfl (Or.inl rfl))
      (pss_one (ps_if (pt_not (pt_val (pe_meth (pe_ix (ixt (K := K)) (pv 0) (pe_op op_sub (pv 1) pe_int) (fun _ _ => rfl)) T.cl_Measure T.me_Measure_is_below (ok_Measure_is_below (K := K) T) (hr.mono (by decide)) B0 B0v pass0 (pa_cons (pe_ix (ixt (K := K)) (pv 0) (pv 1) (fun _ _ => rfl)) pa_nil))))
      (pss_one (ps_ret (pv 1)))
      pss_nil)))
      (pss_one (ps_ret pe_non))), ?_⟩
    have el : ((ps.length : Nat) : Int) = (zs.length : Int) := by rw [hm.len]
    walk_at "w"
    refine for_range (fun i σ H' => H' = H ∧ (∃ v, σ = [some (.ref T'), v]) ∧ ∀ j a b, j < i → zs[j]? = some a → zs[j + 1]? = some b → ltq a b = true) ⟨rfl, ⟨_, rfl⟩, fun j a b z => by omega⟩ ?_ ?_
    · rintro i σ H1 hi ⟨rfl, ⟨v, rfl⟩, hp⟩
      obtain ⟨a, ha⟩ := ge2 (zs := zs) (n := i) (by omega)
      obtain ⟨b, hb⟩ := ge2 (zs := zs) (n := i + 1) (by omega)
      obtain ⟨p, ep, qp⟩ := hm.at ha
      obtain ⟨q, eq, qq⟩ := hm.at hb
      walk_at "w"
      refine ⟨atI_of (n := i) (by omega) ep, ?_⟩
      walk_at "w"
      refine ⟨atI_of (n := i + 1) (by omega) eq, ?_⟩
      walk_at "w"
      cases e : ltq a b with
      | false =>
        refine iteT ⟨_, rfl, ?_⟩
        have z : (1 : Int) + i = ((i + 1 : Nat) : Int) := by omega
        rw [z]
        refine kk (some (i + 1)) ⟨by omega, by omega, fun a' b' h1 h2 => ?_, fun j a' b' hj h1 h2 => hp j a' b' (by omega) h1 h2⟩
        rw [Nat.add_sub_cancel, ha] at h1
        rw [hb] at h2
        cases h1; cases h2
        exact e
      | true =>
        refine iteF ⟨rfl, ⟨_, rfl⟩, fun j a' b' hj h1 h2 => ?_⟩
        by_cases hji : j < i
        · exact hp j a' b' hji h1 h2
        · have : j = i := by omega
          subst this
          rw [ha] at h1
          rw [hb] at h2
          cases h1; cases h2
          exact e
    · rintro σ H1 ⟨rfl, ⟨v, rfl⟩, hp⟩
      refine kk none fun j a b h1 h2 => hp j a b ?_ h1 h2
      have := (List.getElem?_eq_some_iff.mp h2).1
      omega
theorem ok_is_measure_or_none {P : Program} {w : World} {K : PySem.W.Frag} {mg : Str → Option Value} {base : Heap} {φ : Fds} (T : Txt K mg φ) : FnOk P w K mg base CX0 1 (He.fAd K ("is_measure_or_none", none)) φ.is_measure_or_none p_is_measure_or_none (sp_isendQ (He.ga K "Measure")) := by
  refine T.f_is_measure_or_none.ok sc_is_measure_or_none (fun vs H Q E h => ?_) (fun cdv A outer s H vs Q E hr h => ?_)
  · obtain ⟨v, k, e, rfl, he, kk⟩ := h; rfl
  · obtain ⟨v, k, e, rfl, he, kk⟩ := h
    refine ⟨_, PSs.nox (pss_one (ps_ret (pe_or (pe_cmpR op_isN (pv 0) pe_non (nomark _)) (pe_one (pe_callB (id := "isinstance") (isi (K := K)) (by rfl) T.z_isinstance (by decide +kernel) (pa_cons (pv 0) (pa_cons (pe_glob (v := .ref (He.ga K "Measure")) rfl T.g_Measure rfl) pa_nil))))))), ?_⟩
    cases e with
    | none =>
      cases he
      walk_at "w"
      exact kk
    | some z =>
      obtain ⟨p, rfl, qz⟩ := he
      obtain ⟨⟨t, u, ⟨dx, hp⟩, _⟩, _⟩ := qz
      refine ⟨_, rfl, rfl, _, rfl, ?_⟩
      walk_at "w"
      refine ⟨_, _, _, rfl, .own _, tyM hp T.cl_Measure T.ii_Measure, T.k_Measure_Measure, kk⟩
theorem ok_are_marks {P : Program} {w : World} {K : PySem.W.Frag} {mg : Str → Option Value} {base : Heap} {φ : Fds} (T : Txt K mg φ) : FnOk P w K mg base CX0 1 (He.fAd K ("are_marks", none)) φ.are_marks p_are_marks (sp_arem K (He.ga K "Measure")) := by
  refine T.f_are_marks.ok sc_are_marks (fun vs H Q E h => ?_) (fun cdv A outer s H vs Q E hr h => ?_)
  · obtain ⟨T', k, ps, zs, rfl, hT, hm, h0, h1, kk⟩ := h; rfl
  · obtain ⟨T', k, ps, zs, rfl, hT, hm, h0, h1, kk⟩ := h
    refine ⟨_, PSs.nox (pss_cons (ps_if (PW.pt (pw_or (pt_not (pt_val (pe_callB (id := "isinstance") (isi (K := K)) (by rfl) T.z_isinstance (by decide +kernel) (pa_cons (pv 0) (pa_cons (pe_bltn (v := .ty "tuple") rfl T.z_tuple (by decide +kernel) rfl) pa_nil))))) (pw_or1 (pt_not (pt_chain op_le op_le pe_int (pe_callB (id := "len") (lenS (K := K)) (by rfl) T.z_len PySem.boot_len (pa_cons (pv 0) pa_nil)) (C8.pe_gc (v := .int 24) rfl (T.v_MOST_MARKS.elim fun t e => ⟨_, e, ⟨t, rfl⟩⟩)))))))
      (pss_one (ps_ret pe_bl))
      pss_nil)
      (pss_one (ps_ret (pe_callB (id := "all") (allK (K := K)) (by rfl) T.z_all (by decide +kernel) (pa_cons (pe_lc (own := [("mark", 1)]) (g := gName 1) rfl sc_are_marks.nd (pi_tup (pv 0)) (blkOk_by (own := [("mark", 1)]) (N := N_are_marks) (sc := (defScope s_are_marks)) (by decide +kernel)) (fun _ _ _ _ _ => (pg_name (i := 1) sc_are_marks.nd rfl (Or.inl rfl))) (fun _ _ _ _ _ => pts_nil) (fun _ _ _ _ _ => (pe_callB (id := "isinstance") (isi (K := K)) (by rfl) T.z_isinstance (by decide +kernel) (pa_cons (pv 1) (pa_cons (pe_glob (v := .ref (He.ga K "Measure")) rfl T.g_Measure rfl) pa_nil))))) pa_nil))))), ?_⟩
    have el : ps.length = zs.length := hm.len
    refine ⟨_, rfl, _, _, _, _, _, rfl, .ty _, tyTup hT, kit_ty (r := true) (by decide +kernel), _, rfl, iteF ?_⟩
    walk_at "w"
    refine ⟨⟨_, hT⟩, fun D nD => ?_⟩
    refine lcz (n := ps.length) walk_tup (fun _ _ g s => s.sqt g) (List.replicate ps.length (some (V.bl true))) (by simp) (by rw [sizeLine_eq]; omega) hT nD (fun i x H1 H2 z N M hi hz s1 y hN hM => ?_) (fun H1 s1 hD => ?_)
    · obtain ⟨rfl, hx⟩ := y
      obtain ⟨p, z1, rfl, _, qz⟩ := (hm.same s1).of hx
      obtain ⟨⟨t, u, ⟨dx, hp⟩, _⟩, _⟩ := qz
      rw [List.getElem?_replicate, if_pos hi] at hz
      cases hz
      refine ⟨rfl, yesT ?_⟩
      exact ⟨_, rfl, _, _, _, _, _, rfl, .own _, tyM hp T.cl_Measure T.ii_Measure, T.k_Measure_Measure, hN _ _ rfl (Same.refl _)⟩
    have e : (List.replicate ps.length (some (V.bl true))).filterMap _root_.id = (List.replicate ps.length true).map V.bl := by
      generalize ps.length = n
      induction n with
      | zero => rfl
      | succ n ih => rw [List.replicate_succ, List.replicate_succ]; simpa using ih
    rw [e] at hD
    refine ⟨D, _, rfl, SqL.of hD, ?_⟩
    have e2 : (List.replicate ps.length true).all _root_.id = true := by
      generalize ps.length = n
      induction n with
      | zero => rfl
      | succ n ih => rw [List.replicate_succ]; simpa using ih
    rw [e2]
    exact kk _ s1
theorem ok_is_rule {P : Program} {w : World} {K : PySem.W.Frag} {mg : Str → Option Value} {base : Heap} {φ : Fds} (T : Txt K mg φ) : FnOk P w K mg base CX0 1 (He.fAd K ("is_rule", none)) φ.is_rule p_is_rule sp_isrule := by
  refine T.f_is_rule.ok sc_is_rule (fun vs H Q E h => ?_) (fun cdv A outer s H vs Q E hr h => ?_)
  · obtain ⟨r, rfl, hr', kk⟩ := h; rfl
  · obtain ⟨r, rfl, hr', kk⟩ := h
    refine ⟨_, PSs.nox (pss_one (ps_ret (pe_and (pe_callB (id := "isinstance") (isi (K := K)) (by rfl) T.z_isinstance (by decide +kernel) (pa_cons (pv 0) (pa_cons (pe_bltn (v := .ty "str") rfl T.z_str (by decide +kernel) rfl) pa_nil))) (pe_one (pe_cmpR (inK (K := K)) (pv 0) (pe_glob (v := .ref (He.ga K "RULES")) rfl T.g_RULES rfl) (by rfl)))))), ?_⟩
    refine ⟨_, rfl, _, _, _, _, _, rfl, .ty _, .base (.str _), kit_ty (r := true) (by decide +kernel), _, rfl, iteT ?_⟩
    refine ⟨_, rfl, _, _, rfl, .inr (T.tp_RULES H), rfl, rfl, ?_⟩
    have e : inV (.str r) (([Str.ofString "up", Str.ofString "down", Str.ofString "near"] : List Str).map V.str) = true := by
      rcases hr' with rfl | rfl | rfl <;> decide +kernel
    simp only [Bool.false_eq_true, if_false]
    rw [e]
    exact kk
theorem ok_is_span {P : Program} {w : World} {K : PySem.W.Frag} {mg : Str → Option Value} {base : Heap} {φ : Fds} (T : Txt K mg φ) : FnOk P w K mg base CX0 2 (He.fAd K ("is_span", none)) φ.is_span p_is_span (sp_span (He.ga K "Measure")) := by
  obtain ⟨_, B0v, B0⟩ := b_Measure_is_below_3 T
  refine T.f_is_span.ok sc_is_span (fun vs H Q E h => ?_) (fun cdv A outer s H vs Q E hr h => ?_)
  · obtain ⟨l, h, k, lo, hi, rfl, ql, qh, hk, kk⟩ := h; rfl
  · obtain ⟨l, h, k, lo, hi, rfl, ql, qh, hk, kk⟩ := h
    refine ⟨_, PSs.nox (pss_one (ps_ret (pe_or (pe_cmpR op_isN (pv 0) pe_non (nomark _)) (pe_or (pe_cmpR op_isN (pv 1) pe_non (nomark _)) (pe_one (pe_meth (pv 0) T.cl_Measure T.me_Measure_is_below (ok_Measure_is_below (K := K) T) (hr.mono (by decide)) B0 B0v pass0 (pa_cons (pv 1) (pa_cons pe_bl pa_nil)))))))), ?_⟩
    cases lo with
    | none =>
      cases ql
      walk_at "w"
      exact kk
    | some a =>
      obtain ⟨pl, rfl, qa⟩ := ql
      cases hi with
      | none =>
        cases qh
        walk_at "w"
        exact kk
      | some b =>
        obtain ⟨ph, rfl, qb⟩ := qh
        rw [span_leq] at kk
        walk_at "w"
        exact kk
theorem ok_Ladder_init {P : Program} {w : World} {K : PySem.W.Frag} {mg : Str → Option Value} {base : Heap} {φ : Fds} (T : Txt K mg φ) : FnOk P w K mg base CX0 3 (He.fAd K ("Ladder", some "__init__")) φ.Ladder_init p_Ladder_init (sp_linit K (He.ga K "Measure") (He.ga K "Ladder")) := by
  obtain ⟨_, B0v, B0⟩ := b_are_marks_1 T
  obtain ⟨_, B1v, B1⟩ := b_is_rule_1 T
  obtain ⟨_, B2v, B2⟩ := b_is_measure_or_none_1 T
  obtain ⟨_, B3v, B3⟩ := b_is_span_2 T
  obtain ⟨_, B4v, B4⟩ := b_slip_of_1 T
  refine T.f_Ladder_init.ok sc_Ladder_init (fun vs H Q E h => ?_) (fun cdv A outer s H vs Q E hr h => ?_)
  · obtain ⟨p, dx, T', k, ps, zs, r, l, h, lo, hi, rfl, hp, hT, hm, hk, h0, h1, hri, hru, ql, qh, hsp, kk⟩ := h; rfl
  · obtain ⟨p, dx, T', k, ps, zs, r, l, h, lo, hi, rfl, hp, hT, hm, hk, h0, h1, hri, hru, ql, qh, hsp, kk⟩ := h
    refine ⟨_, PSs.nox (pss_cons (ps_if (pt_not (pt_val (pe_call (ok_are_marks (K := K) T) (hr.mono (by decide)) rfl T.g_are_marks T.f_are_marks.kp B0 B0v pass0 (pa_cons (pv 1) pa_nil))))
      (pss_one ps_never)
      pss_nil)
      (pss_cons (ps_if (pt_not (pt_val (pe_call (ok_is_rule (K := K) T) (hr.mono (by decide)) rfl T.g_is_rule T.f_is_rule.kp B1 B1v pass0 (pa_cons (pv 2) pa_nil))))
      (pss_one ps_never)
      pss_nil)
      (pss_cons (ps_if (PW.pt (pw_or (pt_not (pt_val (pe_call (ok_is_measure_or_none (K := K) T) (hr.mono (by decide)) rfl T.g_is_measure_or_none T.f_is_measure_or_none.kp B2 B2v pass0 (pa_cons (pv 3) pa_nil)))) (pw_or1 (pt_not (pt_val (pe_call (ok_is_measure_or_none (K := K) T) (hr.mono (by decide)) rfl T.g_is_measure_or_none T.f_is_measure_or_none.kp B2 B2v pass0 (pa_cons (pv 4) pa_nil)))))))
      (pss_one ps_never)
      pss_nil)
      (pss_cons (ps_if (pt_not (pt_val (pe_call (ok_is_span (K := K) T) (hr.mono (by decide)) rfl T.g_is_span T.f_is_span.kp B3 B3v pass0 (pa_cons (pv 3) (pa_cons (pv 4) pa_nil)))))
      (pss_one ps_never)
      pss_nil)
      (pss_cons (ps_set (i := 5) sc_Ladder_init.nd rfl (Or.inl rfl) (pe_call (ok_slip_of (K := K) T) (hr.mono (by decide)) rfl T.g_slip_of T.f_slip_of.kp B4 B4v pass0 (pa_cons (pv 1) pa_nil)))
      (pss_cons (ps_if (pt_cmpR op_notN (pv 5) pe_non (nomark _))
      (pss_one ps_never)
      pss_nil)
      (pss_cons (ps_fld (pv 0) (pv 1) rfl)
      (pss_cons (ps_fld (pv 0) (pv 2) rfl)
      (pss_cons (ps_fld (pv 0) (pv 3) rfl)
      (pss_one (ps_fld (pv 0) (pv 4) rfl))))))))))), ?_⟩
    have cl_Ladder := T.cl_Ladder
    have na_Ladder_marks := T.na_Ladder_marks
    have na_Ladder_rule := T.na_Ladder_rule
    have na_Ladder_least := T.na_Ladder_least
    have na_Ladder_most := T.na_Ladder_most
    
    walk_at "w"
    refine ⟨zs, rfl, hT, hm, h0, h1, fun H1 s1 => ?_⟩
    walk_at "w"
    refine ⟨lo, rfl, ql.same s1, ?_⟩
    walk_at "w"
    refine ⟨hi, rfl, qh.same s1, ?_⟩
    have hT1 := s1.sqt hT
    have hm1 := hm.same s1
    replace ql := ql.same s1
    replace qh := qh.same s1
    have hp1 := s1 _ _ hp
    walk_at "w"
    refine ⟨lo, hi, rfl, ql, qh, by omega, ?_⟩
    rw [hsp]
    walk_at "w"
    refine ⟨zs, rfl, hT1, hm1, by omega, by omega, fun o ho => ?_⟩
    have eo : o = none := by
      cases o with
      | none => rfl
      | some n =>
        obtain ⟨n1, n2, n3, _⟩ := ho
        obtain ⟨a, ha⟩ := ge2 (zs := zs) (n := n - 1) (by omega)
        obtain ⟨b, hb⟩ := ge2 (zs := zs) (n := n) n2
        have z1 := n3 a b ha hb
        have z2 := hri (n - 1) a b ha (by rw [Nat.sub_add_cancel n1]; exact hb)
        rw [z1] at z2
        cases z2
    subst eo
    walk_at "w"
    refine ⟨by show 0 < 1000; decide, ?_⟩
    refine ⟨_, rfl, _, rfl, p, _, dx, _, rfl, upd_same, cl_Ladder, na_Ladder_rule, by show 1 < 1000; decide, ?_⟩
    refine ⟨_, rfl, _, rfl, p, _, dx, _, rfl, upd_same, cl_Ladder, na_Ladder_least, by show 2 < 1000; decide, ?_⟩
    refine ⟨_, rfl, _, rfl, p, _, dx, _, rfl, upd_same, cl_Ladder, na_Ladder_most, by show 3 < 1000; decide, ?_⟩
    refine kk _ ?_ fun c o ec nc => ?_
    · rw [upd_same, lf_put]
    · rw [upd_ne nc, upd_ne nc, upd_ne nc, upd_ne nc]
      exact s1 _ _ ec
theorem ok_written {P : Program} {w : World} {K : PySem.W.Frag} {mg : Str → Option Value} {base : Heap} {φ : Fds} (T : Txt K mg φ) : FnOk P w K mg base CX0 1 (He.fAd K ("written", none)) φ.written p_written sp_written := by
  refine T.f_written.ok sc_written (fun vs H Q E h => ?_) (fun cdv A outer s H vs Q E hr h => ?_)
  · obtain ⟨a, u, rfl, h0, hu, sa, su, k⟩ := h; rfl
  · obtain ⟨a, u, rfl, h0, hu, sa, su, k⟩ := h
    refine ⟨_, PSs.nox (pss_cons (ps_asg (pe_callB (id := "divmod") call_dm (by rfl) T.z_divmod (by decide +kernel) (pa_cons (pv 0) (pa_cons (pv 1) pa_nil))) (pg_tup rfl (pgs_cons (pg_name (i := 2) sc_written.nd rfl (Or.inl rfl)) (pgs_cons (pg_name (i := 3) sc_written.nd rfl (Or.inl rfl)) pgs_nil))))
      (pss_cons (ps_if (pt_cmpR op_eq (pv 3) pe_int (nomark _))
      (pss_one (ps_ret (pe_joined1 (pe_fmt (pv 2)))))
      pss_nil)
      (pss_cons (ps_if (pt_cmpR op_eq (pv 2) pe_int (nomark _))
      (pss_one (ps_ret (pe_joined (PJ.cons (pe_fmt (pv 3)) (PJ.cons pe_str (PJ.cons (pe_fmt (pv 1)) PJ.nil))))))
      pss_nil)
      (pss_one (ps_ret (pe_joined (PJ.cons (pe_fmt (pv 2)) (PJ.cons pe_str (PJ.cons (pe_fmt (pv 3)) (PJ.cons pe_str (PJ.cons (pe_fmt (pv 1)) PJ.nil))))))))))), ?_⟩
    refine ⟨_, rfl, _, rfl, a, u, rfl, hu, su.log (by decide) (by decide), fun p np => ?_⟩
    refine ⟨p, _, rfl, SqT.of upd_same, rfl, _, _, rfl, _, _, rfl, rfl, ?_⟩
    have sd := sa.ediv h0 hu
    have sm := su.emod (a := a) hu
    have l1 := iT_len sd
    have l2 := iT_len sm
    have l3 := iT_len su
    have l1' : (Str.ofString (toString (a / u))).length ≤ 1921 := l1
    have l2' : (Str.ofString (toString (a % u))).length ≤ 1921 := l2
    have l3' : (Str.ofString (toString u)).length ≤ 1921 := l3
    have e0 : Str.empty.length = 0 := rfl
    have e1 : (Str.ofString "/").length = 1 := rfl
    have e2 : (Str.ofString " ").length = 1 := rfl
    have k := k _ (same1 (u := .tup [.int (a / u), .int (a % u)]) np)
    unfold wTxt at k
    refine ⟨_, rfl, rfl, _, rfl, ?_⟩
    rw [dI]
    refine ite2 (fun e => ?_) (fun e => ?_)
    · rw [if_pos (of_decide_eq_true e)] at k
      exact ⟨_, rfl, .inr ⟨_, rfl, sd.log' (by decide) (by decide), k⟩⟩
    · rw [if_neg (fun z => e (decide_eq_true z))] at k
      refine ⟨_, rfl, rfl, _, rfl, ?_⟩
      rw [dI]
      refine ite2 (fun e => ?_) (fun e => ?_)
      · rw [if_pos (of_decide_eq_true e)] at k
        refine ⟨_, rfl, .inr ⟨_, rfl, sm.log' (by decide) (by decide), _, rfl, ?_, _, rfl, ?_, _, rfl, .inr ⟨_, rfl, su.log' (by decide) (by decide), _, rfl, ?_, k⟩⟩⟩
        all_goals (rw [sizeLine_eq]; simp only [Str.length_append]; omega)
      · rw [if_neg (fun z => e (decide_eq_true z))] at k
        refine ⟨_, rfl, .inr ⟨_, rfl, sd.log' (by decide) (by decide), _, rfl, ?_, _, rfl, ?_, _, rfl, .inr ⟨_, rfl, sm.log' (by decide) (by decide), _, rfl, ?_, _, rfl, ?_, _, rfl, .inr ⟨_, rfl, su.log' (by decide) (by decide), _, rfl, ?_, k⟩⟩⟩⟩
        all_goals (rw [sizeLine_eq]; simp only [Str.length_append]; omega)
theorem ok_Measure_str {P : Program} {w : World} {K : PySem.W.Frag} {mg : Str → Option Value} {base : Heap} {φ : Fds} (T : Txt K mg φ) : FnOk P w K mg base CX0 2 (He.fAd K ("Measure", some "__str__")) φ.Measure_str p_Measure_str (sp_mstr (He.ga K "Measure")) := by
  obtain ⟨_, B0v, B0⟩ := b_written_2 T
  refine T.f_Measure_str.ok sc_Measure_str (fun vs H Q E h => ?_) (fun cdv A outer s H vs Q E hr h => ?_)
  · obtain ⟨p, t, u, rfl, ⟨dx, hp⟩, hu, st, su, k⟩ := h; rfl
  · obtain ⟨p, t, u, rfl, ⟨dx, hp⟩, hu, st, su, k⟩ := h
    refine ⟨_, PSs.nox (pss_cons (ps_if (pt_cmpR op_lt (fldK (K := K) (pv 0) rfl) pe_int (nomark _))
      (pss_one (ps_ret (pe_joined (PJ.cons pe_str (PJ.cons (pe_fmt (pe_call (ok_written (K := K) T) (hr.mono (by decide)) rfl T.g_written T.f_written.kp B0 B0v pass0 (pa_cons (pe_un un_neg (fldK (K := K) (pv 0) rfl)) (pa_cons (fldK (K := K) (pv 0) rfl) pa_nil)))) PJ.nil)))))
      pss_nil)
      (pss_one (ps_ret (pe_joined1 (pe_fmt (pe_call (ok_written (K := K) T) (hr.mono (by decide)) rfl T.g_written T.f_written.kp B0 B0v pass0 (pa_cons (fldK (K := K) (pv 0) rfl) (pa_cons (fldK (K := K) (pv 0) rfl) pa_nil)))))))), ?_⟩
    refine ⟨_, rfl, _, _, _, _, _, rfl, hp, T.cl_Measure, T.na_Measure_top, mf_top _ _, _, _, rfl, rfl, _, rfl, ?_⟩
    have e1 : (Str.ofString "-").length = 1 := rfl
    have e0 : Str.empty.length = 0 := rfl
    refine ite2 (fun e => ?_) (fun e => ?_)
    · have e : t < 0 := of_decide_eq_true e
      have wl := wTxt_len st.neg su (by omega) hu
      refine ⟨_, rfl, ?_, _, rfl, _, _, _, _, _, rfl, hp, T.cl_Measure, T.na_Measure_top, mf_top _ _, _, rfl, _, rfl, _, _, _, _, _, rfl, hp, T.cl_Measure, T.na_Measure_bottom, mf_bottom _ _, _, _, rfl, by omega, hu, st.neg, su, fun H' s => .inl ⟨_, rfl, ?_, _, rfl, ?_, ?_⟩⟩
      · rw [sizeLine_eq]; simp only [Str.length_append]; omega
      · rw [sizeLine_eq]; omega
      · rw [sizeLine_eq]; simp only [Str.length_append]; omega
      · have k := k H' s
        unfold mTxt at k
        rw [if_pos e] at k
        exact k
    · have e : ¬ t < 0 := fun z => e (decide_eq_true z)
      have wl := wTxt_len st su (by omega) hu
      refine ⟨_, rfl, _, _, _, _, _, rfl, hp, T.cl_Measure, T.na_Measure_top, mf_top _ _, _, rfl, _, _, _, _, _, rfl, hp, T.cl_Measure, T.na_Measure_bottom, mf_bottom _ _, _, _, rfl, by omega, hu, st, su, fun H' s => .inl ⟨_, rfl, ?_, ?_⟩⟩
      · rw [sizeLine_eq]; omega
      · have k := k H' s
        unfold mTxt at k
        rw [if_neg e] at k
        exact k
theorem ok_Measure_repr {P : Program} {w : World} {K : PySem.W.Frag} {mg : Str → Option Value} {base : Heap} {φ : Fds} (T : Txt K mg φ) : FnOk P w K mg base CX0 1 (He.fAd K ("Measure", some "__repr__")) φ.Measure_repr p_Measure_repr (sp_mrep (He.ga K "Measure")) := by
  refine T.f_Measure_repr.ok sc_Measure_repr (fun vs H Q E h => ?_) (fun cdv A outer s H vs Q E hr h => ?_)
  · obtain ⟨p, t, u, rfl, ⟨dx, hp⟩, st, su, k⟩ := h; rfl
  · obtain ⟨p, t, u, rfl, ⟨dx, hp⟩, st, su, k⟩ := h
    refine ⟨_, PSs.nox (pss_one (ps_ret (pe_joined (PJ.cons pe_str (PJ.cons (pe_fmt (fldK (K := K) (pv 0) rfl)) (PJ.cons pe_str (PJ.cons (pe_fmt (fldK (K := K) (pv 0) rfl)) (PJ.cons pe_str PJ.nil)))))))), ?_⟩
    have l1 := iT_len st
    have l2 := iT_len su
    have l1' : (Str.ofString (toString t)).length ≤ 1921 := l1
    have l2' : (Str.ofString (toString u)).length ≤ 1921 := l2
    have e0 : Str.empty.length = 0 := rfl
    have e1 : (Str.ofString "Measure(").length = 8 := rfl
    have e2 : (Str.ofString ", ").length = 2 := rfl
    have e3 : (Str.ofString ")").length = 1 := rfl
    refine ⟨_, rfl, ?_, _, rfl, _, _, _, _, _, rfl, hp, T.cl_Measure, T.na_Measure_top, mf_top _ _, .inr ⟨_, rfl, st.log' (by decide) (by decide), _, rfl, ?_, _, rfl, ?_, _, rfl, _, _, _, _, _, rfl, hp, T.cl_Measure, T.na_Measure_bottom, mf_bottom _ _, .inr ⟨_, rfl, su.log' (by decide) (by decide), _, rfl, ?_, _, rfl, ?_, k⟩⟩⟩
    all_goals (rw [sizeLine_eq]; simp only [Str.length_append]; omega)
theorem ok_Measure_eqX {P : Program} {w : World} {K : PySem.W.Frag} {mg : Str → Option Value} {base : Heap} {φ : Fds} (T : Txt K mg φ) : FnOk P w K mg base CX0 1 (He.fAd K ("Measure", some "__eq__")) φ.Measure_eq p_Measure_eq (spEqB (REq K (He.ga K "Measure"))) := by
  refine T.f_Measure_eq.ok sc_Measure_eq (fun vs H Q E h => ?_) (fun cdv A outer s H vs Q E hr h => ?_)
  · obtain ⟨x, y, b, rfl, ⟨p, t, u, rfl, ⟨dp, hp⟩, hy⟩, k⟩ := h; rfl
  · obtain ⟨x, y, b, rfl, ⟨p, t, u, rfl, ⟨dp, hp⟩, hy⟩, k⟩ := h
    refine ⟨_, PSs.nox (pss_one (ps_ret (pe_and (pe_callB (id := "isinstance") (isi (K := K)) (by rfl) T.z_isinstance (by decide +kernel) (pa_cons (pv 1) (pa_cons (pe_glob (v := .ref (He.ga K "Measure")) rfl T.g_Measure rfl) pa_nil))) (pe_and (pe_cmpR op_eq (fldK (K := K) (pv 0) rfl) (fldK (K := K) (pv 1) rfl) (nomark _)) (pe_one (pe_cmpR op_eq (fldK (K := K) (pv 0) rfl) (fldK (K := K) (pv 1) rfl) (nomark _))))))), ?_⟩
    rcases hy with ⟨q, t', u', rfl, ⟨dq, hq⟩, rfl⟩ | ⟨tv, ty, kt, rfl⟩
    · refine ⟨_, rfl, _, _, _, _, true, rfl, .own _, tyM hq T.cl_Measure T.ii_Measure, T.k_Measure_Measure, _, rfl, iteT ?_⟩
      refine ⟨_, rfl, _, _, _, _, _, rfl, hp, T.cl_Measure, T.na_Measure_top, mf_top _ _, _, rfl, _, _, _, _, _, rfl, hq, T.cl_Measure, T.na_Measure_top, mf_top _ _, rfl, _, rfl, ?_⟩
      rw [dI]
      refine ite2 (fun e => ?_) (fun e => ?_)
      · rw [e] at k
        refine ⟨_, rfl, _, _, _, _, _, rfl, hp, T.cl_Measure, T.na_Measure_bottom, mf_bottom _ _, _, rfl, _, _, _, _, _, rfl, hq, T.cl_Measure, T.na_Measure_bottom, mf_bottom _ _, rfl, ?_⟩
        rw [dI]
        exact k
      · rw [isTrueN e] at k
        exact k
    · refine ⟨_, rfl, _, _, _, _, false, rfl, .own _, ty, kt, _, rfl, iteF ?_⟩
      exact k
theorem ok_bound_text {P : Program} {w : World} {K : PySem.W.Frag} {mg : Str → Option Value} {base : Heap} {φ : Fds} (T : Txt K mg φ) : FnOk P w K mg base CX0 4 (He.fAd K ("bound_text", none)) φ.bound_text p_bound_text (sp_bound (He.ga K "Measure")) := by
  obtain ⟨_, B0v, B0⟩ := b_Measure_str_1 T
  refine T.f_bound_text.ok sc_bound_text (fun vs H Q E h => ?_) (fun cdv A outer s H vs Q E hr h => ?_)
  · obtain ⟨w', v, k, e, rfl, lw, q, k9, kk⟩ := h; rfl
  · obtain ⟨w', v, k, e, rfl, lw, q, k9, kk⟩ := h
    refine ⟨_, PSs.nox (pss_cons (ps_if (pt_cmpR op_isN (pv 1) pe_non (nomark _))
      (pss_one (ps_ret pe_str))
      pss_nil)
      (pss_one (ps_ret (pe_joined (PJ.cons pe_str (PJ.cons (pe_fmt (pv 0)) (PJ.cons pe_str (PJ.cons (pe_fmtSO (ok_Measure_str (K := K) T) T.me_Measure_str (bnil B0v B0) pass0 (hr.mono (by decide)) T.fm_Measure (pv 1)) PJ.nil)))))))), ?_⟩
    cases e with
    | none =>
      cases q
      walk_at "w"
      exact kk _ (Same.refl _)
    | some x =>
      obtain ⟨p, rfl, a⟩ := q
      have m := qat_low a (by omega)
      obtain ⟨dx, hp⟩ := id m
      have fr := lowQ_fr a.pos
      have s1 : Sz 1900 (lowQ x).1 := (a.s1.mono k9).le fr.lt
      have s2 : Sz 1900 (lowQ x).2 := (a.s2.mono k9).le fr.lu
      have hl : (mT x).length ≤ 6001 := mTxt_len s1 s2 fr.pos
      have e0 : Str.empty.length = 0 := rfl
      have e1 : (Str.ofString " ").length = 1 := rfl
      walk_at "w"
      refine .inl ⟨_, rfl, (by rw [sizeLine_eq]; omega), _, rfl, (by rw [sizeLine_eq]; simp only [Str.length_append]; omega), _, rfl, (by rw [sizeLine_eq]; simp only [Str.length_append]; omega), _, rfl, p, dx, _, rfl, hp, p, _, _, rfl, ⟨dx, hp⟩, fr.pos, s1, s2, fun H' s => ⟨_, rfl, _, rfl, ?_, kk _ s⟩⟩
      show (Str.empty ++ Str.ofString " " ++ w' ++ Str.ofString " " ++ mT x).length ≤ sizeLine
      rw [sizeLine_eq]
      simp only [Str.length_append]
      omega
theorem ok_Ladder_str {P : Program} {w : World} {K : PySem.W.Frag} {mg : Str → Option Value} {base : Heap} {φ : Fds} (T : Txt K mg φ) : FnOk P w K mg base CX0 7 (He.fAd K ("Ladder", some "__str__")) φ.Ladder_str p_Ladder_str (sp_lstr K (He.ga K "Measure") (He.ga K "Ladder")) := by
  obtain ⟨_, B0v, B0⟩ := b_bound_text_2 T
  obtain ⟨_, B1v, B1⟩ := b_Measure_str_1 T
  refine T.f_Ladder_str.ok sc_Ladder_str (fun vs H Q E h => ?_) (fun cdv A outer s H vs Q E hr h => ?_)
  · obtain ⟨p, k, zs, r, lo, hi, rfl, hL, k9, kk⟩ := h; rfl
  · obtain ⟨p, k, zs, r, lo, hi, rfl, hL, k9, kk⟩ := h
    refine ⟨_, PSs.nox (pss_one (ps_ret (pe_join pe_str (pe_lst (pa_cons (fldK (K := K) (pv 0) rfl) (pa_cons pe_str (pa_cons (pe_join pe_str (pe_lc (own := [("mark", 1)]) (g := gName 1) rfl sc_Ladder_str.nd (pi_tup (fldK (K := K) (pv 0) rfl)) (blkOk_by (own := [("mark", 1)]) (N := N_Ladder_str) (sc := (defScope s_Ladder_str)) (by decide +kernel)) (fun _ _ _ _ _ => (pg_name (i := 1) sc_Ladder_str.nd rfl (Or.inl rfl))) (fun _ _ _ _ _ => pts_nil) (fun _ _ _ _ _ => (pe_callTy (T := "str") (call_strO (ok_Measure_str (K := K) T) T.me_Measure_str (bnil B1v B1) pass0 (hr.mono (by decide))) (by rfl) T.z_str (by decide +kernel) (pa_cons (pv 1) pa_nil))))) (pa_cons (pe_call (ok_bound_text (K := K) T) (hr.mono (by decide)) rfl T.g_bound_text T.f_bound_text.kp B0 B0v pass0 (pa_cons pe_str (pa_cons (fldK (K := K) (pv 0) rfl) pa_nil))) (pa_cons (pe_call (ok_bound_text (K := K) T) (hr.mono (by decide)) rfl T.g_bound_text T.f_bound_text.kp B0 B0v pass0 (pa_cons pe_str (pa_cons (fldK (K := K) (pv 0) rfl) pa_nil))) pa_nil))))))))), ?_⟩
    obtain ⟨⟨dx, T', ps, l, h, hp, hT, hm, ql, qh⟩, len0, len1, _, ru, _⟩ := id hL
    have cL := T.cl_Ladder
    have n1 := T.na_Ladder_marks
    have n2 := T.na_Ladder_rule
    have n3 := T.na_Ladder_least
    have n4 := T.na_Ladder_most
    refine ⟨⟨_, rfl⟩, ?_⟩
    walk_at "w"
    refine ⟨⟨_, rfl⟩, ?_⟩
    have lps := hm.len
    have hT' : ∀ H', Same H H' → SqT K H' T' ps := fun H' s => s.sqt hT
    walk_at "w"
    refine ⟨⟨_, hT⟩, fun D nD => ?_⟩
    refine lcz (n := ps.length) walk_tup (fun _ _ g s => s.sqt g) (zs.map fun z => some (V.str (mT z))) (by rw [List.length_map]; omega) (szs (by omega)) hT nD (fun i x H1 H2 z N M hi ez s1 yy hN hM => ?_) (fun H1 s1 hD => ?_)
    · obtain ⟨rfl, hx⟩ := yy
      have hz : zs[i]? = some zs[i] := List.getElem?_eq_getElem (by omega)
      obtain ⟨q, rfl, qa⟩ := hm.all i x _ hx hz
      rw [List.getElem?_map, hz] at ez
      cases ez
      generalize zs[i] = z0 at *
      replace qa := qa.same s1
      obtain ⟨dq, hq⟩ := qat_low qa (by omega)
      obtain ⟨l1, l2, l3, l4⟩ := mT_len qa.pos qa.s1 qa.s2 k9
      refine ⟨rfl, yesT ?_⟩
      refine ⟨_, rfl, _, rfl, q, dq, _, rfl, hq, q, _, _, rfl, ⟨dq, hq⟩, l4, l2, l3, fun H' s => ⟨_, rfl, hN _ _ rfl s⟩⟩
    have em : (zs.map fun z => some (V.str (mT z))).filterMap _root_.id = (zs.map mT).map V.str := by
      rw [List.map_map, List.filterMap_map]
      generalize zs = zs0
      induction zs0 with
      | nil => rfl
      | cons z zs0 ih => rw [List.filterMap_cons, List.map_cons, ← ih]; rfl
    rw [em] at hD
    have lm : (zs.map mT).length = zs.length := List.length_map ..
    have lall : ∀ y ∈ zs.map mT, y.length ≤ 6001 := fun y hy => by
      obtain ⟨z, hz, rfl⟩ := List.mem_map.mp hy
      obtain ⟨n, hn⟩ := List.mem_iff_getElem?.mp hz
      have ln := (List.getElem?_eq_some_iff.mp hn).1
      obtain ⟨q, _, qa⟩ := hm.all n _ z (List.getElem?_eq_getElem (show n < ps.length by omega)) hn
      exact (mT_len qa.pos qa.s1 qa.s2 k9).1
    have ls := sum_le _ lall
    have l2' : (Str.ofString ", ").length = 2 := rfl
    rw [lm] at ls
    refine ⟨_, D, zs.map mT, rfl, rfl, .inl (SqL.of hD), by rw [l2', lm]; omega, ?_⟩
    have hp1 := s1 _ _ hp
    have ql1 := ql.same s1
    walk_at "w"
    refine ⟨lo, rfl, by decide, ql1, k9, fun H2 s2 => ?_⟩
    have s12 := s1.trans s2
    have hp2 := s12 _ _ hp
    have qh2 := qh.same s12
    walk_at "w"
    refine ⟨hi, rfl, by decide, qh2, k9, fun H3 s3 => ?_⟩
    walk_at "w"
    intro p2 np2
    have b1 := bT_len (w := "from") (by decide) ql k9
    have b2 := bT_len (w := "to") (by decide) qh k9
    obtain ⟨rl, _⟩ := rule_len ru
    have jl := join_len ", " (zs.map mT)
    rw [lm, l2'] at jl
    refine ⟨_, p2, [r, ": ", Txt.join ", " (zs.map mT), bT "from" lo, bT "to" hi], rfl, rfl, .inl (SqL.of upd_same), ?_, kk _ ((s12.trans s3).up np2)⟩
    show r.length + (2 + ((Txt.join ", " (zs.map mT)).length + ((bT "from" lo).length + ((bT "to" hi).length + 0)))) + 5 * 0 ≤ 16777216
    omega
theorem ok_Ladder_repr {P : Program} {w : World} {K : PySem.W.Frag} {mg : Str → Option Value} {base : Heap} {φ : Fds} (T : Txt K mg φ)   : FnG P w K mg base CX0 4 (He.fAd K ("Ladder", some "__repr__")) φ.Ladder_repr p_Ladder_repr (sp_lrep K (He.ga K "Measure") (He.ga K "Ladder")) := by
  obtain ⟨_, B0v, B0⟩ := b_Measure_repr_1 T
  refine okG T.f_Ladder_repr sc_Ladder_repr (fun vs H Q E h => ?_) (fun cdv A outer s H vs Q E hr gd h => ?_)
  · obtain ⟨p, k, zs, r, lo, hi, rfl, hL, k9, kk⟩ := h; rfl
  · obtain ⟨p, k, zs, r, lo, hi, rfl, hL, k9, kk⟩ := h
    refine ⟨_, PSs.nox (pss_one (ps_ret (pe_joined (PJ.cons pe_str (PJ.cons (pe_fmtRT gd (ok_Measure_repr (K := K) T) T.me_Measure_repr (bnil B0v B0) pass0 (hr.mono (by decide)) (fldK (K := K) (pv 0) rfl)) (PJ.cons pe_str (PJ.cons (pe_fmtR (fldK (K := K) (pv 0) rfl)) (PJ.cons pe_str (PJ.cons (pe_fmtRO (ok_Measure_repr (K := K) T) T.me_Measure_repr (bnil B0v B0) pass0 (hr.mono (by decide)) (fldK (K := K) (pv 0) rfl)) (PJ.cons pe_str (PJ.cons (pe_fmtRO (ok_Measure_repr (K := K) T) T.me_Measure_repr (bnil B0v B0) pass0 (hr.mono (by decide)) (fldK (K := K) (pv 0) rfl)) (PJ.cons pe_str PJ.nil)))))))))))), ?_⟩
    obtain ⟨⟨dx, T', ps, l, h, hp, hT, hm, ql, qh⟩, len0, len1, _, ru, _⟩ := id hL
    have cL := T.cl_Ladder
    have n1 := T.na_Ladder_marks
    have n2 := T.na_Ladder_rule
    have n3 := T.na_Ladder_least
    have n4 := T.na_Ladder_most
    have lps := hm.len
    walk_at "w"
    refine marks_show hm k9 ?_
    have tl := tupleText_le (ts := zs.map mR) fun y hy => by
      obtain ⟨z, hz, rfl⟩ := List.mem_map.mp hy
      obtain ⟨n, hn⟩ := List.mem_iff_getElem?.mp hz
      have ln := (List.getElem?_eq_some_iff.mp hn).1
      obtain ⟨q, _, qa⟩ := hm.all n _ z (List.getElem?_eq_getElem (show n < ps.length by omega)) hn
      exact (mR_len qa.pos qa.s1 qa.s2 k9).1
    rw [List.length_map] at tl
    obtain ⟨_, rl⟩ := rule_len ru
    have o1 := oR_len ql k9
    have o2 := oR_len qh k9
    have e0 : Str.empty.length = 0 := rfl
    have e1 : (Str.ofString "Ladder(").length = 7 := rfl
    have e2 : (Str.ofString ", ").length = 2 := rfl
    have e3 : (Str.ofString ")").length = 1 := rfl
    walk_at "w"
    refine .inl ⟨_, rfl, zLen (by omega), ?_⟩
    walk_at "w"
    refine Or.symm (oR_show ql k9 ?_)
    walk_at "w"
    refine Or.symm (oR_show qh k9 ?_)
    walk_at "w"
    exact kk
theorem ok_Ladder_eq {P : Program} {w : World} {K : PySem.W.Frag} {mg : Str → Option Value} {base : Heap} {φ : Fds} (T : Txt K mg φ) : FnOk P w K mg base CX0 4 (He.fAd K ("Ladder", some "__eq__")) φ.Ladder_eq p_Ladder_eq (spEqB (REqL K (He.ga K "Measure") (He.ga K "Ladder"))) := by
  obtain ⟨_, B0v, B0⟩ := b_Measure_eq_2 T
  refine T.f_Ladder_eq.ok sc_Ladder_eq (fun vs H Q E h => ?_) (fun cdv A outer s H vs Q E hr h => ?_)
  · obtain ⟨x, y, b, rfl, ⟨p, k, zs, r, lo, hi, rfl, hL, k4, hy⟩, kk⟩ := h; rfl
  · obtain ⟨x, y, b, rfl, ⟨p, k, zs, r, lo, hi, rfl, hL, k4, hy⟩, kk⟩ := h
    refine ⟨_, PSs.nox (pss_one (ps_ret (pe_and (pe_callB (id := "isinstance") (isi (K := K)) (by rfl) T.z_isinstance (by decide +kernel) (pa_cons (pv 1) (pa_cons (pe_glob (v := .ref (He.ga K "Ladder")) rfl T.g_Ladder rfl) pa_nil))) (pe_and (pe_cmpR (op_eqB (rcB_tup (eqB_own (rcB_own (ok_Measure_eqX (K := K) T) T.me_Measure_eq (bnil B0v B0) pass0))) (hr.mono (by decide))) (fldK (K := K) (pv 0) rfl) (fldK (K := K) (pv 1) rfl) (nomark _)) (pe_and (pe_cmpR op_eq (fldK (K := K) (pv 0) rfl) (fldK (K := K) (pv 1) rfl) (nomark _)) (pe_and (pe_cmpR (op_eqB (RcB.or (RcB.or (rcB_own (ok_Measure_eqX (K := K) T) T.me_Measure_eq (bnil B0v B0) pass0) (rcB_ref (ok_Measure_eqX (K := K) T) T.me_Measure_eq T.ec_Measure (bnil B0v B0) pass0)) rcB_nn) (hr.mono (by decide))) (fldK (K := K) (pv 0) rfl) (fldK (K := K) (pv 1) rfl) (nomark _)) (pe_one (pe_cmpR (op_eqB (RcB.or (RcB.or (rcB_own (ok_Measure_eqX (K := K) T) T.me_Measure_eq (bnil B0v B0) pass0) (rcB_ref (ok_Measure_eqX (K := K) T) T.me_Measure_eq T.ec_Measure (bnil B0v B0) pass0)) rcB_nn) (hr.mono (by decide))) (fldK (K := K) (pv 0) rfl) (fldK (K := K) (pv 1) rfl) (nomark _))))))))), ?_⟩
    obtain ⟨⟨dx, T', ps, l, h, hp, hT, hm, ql, qh⟩, len0, len1, _, ru, _⟩ := id hL
    rcases hy with ⟨q, k', zs', r', lo', hi', rfl, hL', k4', rfl⟩ | ⟨tv, ty, kt, rfl⟩
    · obtain ⟨⟨dx', T2, ps', l', h', hp', hT', hm', ql', qh'⟩, len0', len1', _, ru', _⟩ := id hL'
      refine ⟨_, rfl, _, _, _, _, true, rfl, .own _, tyM hp' T.cl_Ladder T.ii_Ladder, T.k_Ladder_Ladder, _, rfl, iteT ?_⟩
      have cL := T.cl_Ladder
      have n1 := T.na_Ladder_marks
      have n2 := T.na_Ladder_rule
      have n3 := T.na_Ladder_least
      have n4 := T.na_Ladder_most
      obtain ⟨m1, lw1⟩ := qo_ms ql k4
      obtain ⟨m2, lw2⟩ := qo_ms qh k4
      obtain ⟨m1', lw1'⟩ := qo_ms ql' k4'
      obtain ⟨m2', lw2'⟩ := qo_ms qh' k4'
      unfold eqLQ at kk
      walk_at "w"
      refine ⟨marks_eq T.cl_Measure T.ii_Measure T.ec_Measure hT hT' hm hm' k4 k4', _, rfl, ?_⟩
      refine ite2 (fun e => ?_) (fun e => ?_)
      · rw [e, Bool.true_and] at kk
        walk_at "w"
        rw [show decide (V.str r = V.str r') = decide (r = r') from decide_eq_decide.mpr ⟨fun h => V.str.inj h, fun h => by rw [h]⟩]
        refine ite2 (fun e2 => ?_) (fun e2 => ?_)
        · rw [e2, Bool.true_and] at kk
          walk_at "w"
          refine ⟨ms_eq T.cl_Measure T.ii_Measure T.ec_Measure m1 m1' lw1 lw1', _, rfl, ?_⟩
          refine ite2 (fun e3 => ?_) (fun e3 => ?_)
          · rw [e3, Bool.true_and] at kk
            walk_at "w"
            exact ⟨ms_eq T.cl_Measure T.ii_Measure T.ec_Measure m2 m2' lw2 lw2', kk⟩
          · rw [isTrueN e3, Bool.false_and] at kk
            exact kk
        · rw [isTrueN e2, Bool.false_and] at kk
          exact kk
      · rw [isTrueN e, Bool.false_and] at kk
        exact kk
    · refine ⟨_, rfl, _, _, _, _, false, rfl, .own _, ty, kt, _, rfl, iteF ?_⟩
      exact kk
theorem ok_l_take {P : Program} {w : World} {K : PySem.W.Frag} {mg : Str → Option Value} {base : Heap} {φ : Fds} (T : Txt K mg φ) : FnOk P w K mg base CX0 1 (He.fAd K ("_law_take", none)) φ.l_take p_l_take sp_take := by
  refine T.f_l_take.ok sc_l_take (fun vs H Q E h => ?_) (fun cdv A outer s H vs Q E hr h => ?_)
  · obtain ⟨hd, n, m, rfl, hh, hn, hm, hl, k⟩ := h; rfl
  · obtain ⟨hd, n, m, rfl, hh, hn, hm, hl, k⟩ := h
    refine ⟨_, PSs.nox (pss_cons (ps_if (pt_cmpR op_gt (pe_ix (ixl (K := K)) (pv 0) pe_int (fun _ _ => rfl)) pe_int (nomark _))
      (pss_cons (ps_set (i := 2) sc_l_take.nd rfl (Or.inl rfl) (pe_op op_mod (pe_ix (ixl (K := K)) (pv 0) pe_int (fun _ _ => rfl)) (pv 1)))
      (pss_cons (ps_asg (pe_op op_fd (pe_ix (ixl (K := K)) (pv 0) pe_int (fun _ _ => rfl)) (pv 1)) (pg_sub (pv 0) pe_int set_list))
      (pss_one (ps_ret (pv 2)))))
      pss_nil)
      (pss_cons (ps_set (i := 3) sc_l_take.nd rfl (Or.inl rfl) (pe_op op_add (pe_ix (ixl (K := K)) (pv 0) pe_int (fun _ _ => rfl)) pe_int))
      (pss_cons (ps_asg (pv 3) (pg_sub (pv 0) pe_int set_list))
      (pss_cons (ps_set (i := 4) sc_l_take.nd rfl (Or.inl rfl) (pe_ix (ixl (K := K)) (pe_lst (pa_cons pe_int (pa_cons pe_int (pa_cons pe_int (pa_cons pe_int pa_nil))))) (pe_op op_mod (pv 3) pe_int) (fun _ _ => rfl)))
      (pss_cons (ps_set (i := 5) sc_l_take.nd rfl (Or.inl rfl) (pe_op op_mod (pe_op op_add (pe_op op_add (pe_ix (ixl (K := K)) (pv 0) pe_int (fun _ _ => rfl)) (pe_op op_mulA (pe_op op_mulA pe_int (pv 3)) (pv 3))) (pe_op op_mulA pe_int (pv 3))) (pv 4)))
      (pss_cons (ps_set (i := 5) sc_l_take.nd rfl (Or.inl rfl) (pe_op op_mod (pe_op op_pow (pv 5) pe_int) (pv 4)))
      (pss_one (ps_ret (pe_op op_mod (pe_op op_add (pe_op op_fd (pv 5) pe_int) (pe_op op_mulA (pe_op op_fd (pv 5) pe_int) pe_int)) (pv 1)))))))))), ?_⟩
    obtain ⟨a, b, c, h0, ha, hb, hb2, hc, hc2⟩ := hh
    refine ⟨_, rfl, _, _, _, _, rfl, rfl, SqL.of h0, rfl, _, _, rfl, rfl, _, rfl, ?_⟩
    refine ite2 (fun e => ?_) (fun e => ?_)
    · have e0 : 0 < a := of_decide_eq_true e
      refine ⟨_, rfl, _, _, _, _, rfl, rfl, SqL.of h0, rfl, _, rfl, _, _, rfl, rfl, hm, ?_⟩
      refine ⟨_, rfl, _, _, _, _, rfl, rfl, SqL.of h0, rfl, _, rfl, _, _, rfl, rfl, ⟨by omega, hl⟩, _, rfl, _, _, _, _, rfl, rfl, h0, rfl, ?_⟩
      refine ⟨_, rfl, k _ _ (Int.emod_nonneg _ (by omega)) (Int.emod_lt_of_pos _ hm) ⟨a.fdiv m, b, c, upd_same, ?_, hb, hb2, hc, by omega⟩ (Kp.refl _ _).set⟩
      rw [Int.fdiv_eq_ediv_of_nonneg a (by omega)]
      exact Int.ediv_nonneg ha (by omega)
    · have c9 : c ≤ 1000000 := by omega
      refine ⟨_, rfl, _, _, _, _, rfl, rfl, SqL.of h0, rfl, _, _, rfl, rfl, _, rfl, _, rfl, _, _, _, _, rfl, rfl, h0, rfl, ?_⟩
      have h1 : (upd H hd (.lst ([V.int a, V.int b, V.int c].set 2 (V.int (c + 1))))) hd = some (.lst [V.int a, V.int b, V.int (c + 1)]) := upd_same
      refine ⟨by show 4 ≤ sizeLine; decide, fun q nq => ?_⟩
      have nqh : q ≠ hd := (ne_of_none h1 nq).symm
      have hp : ∃ m : Int, 0 < m ∧ m < 2 ^ 62 ∧ atI [V.int 2305843009213693951, V.int 999999999989, V.int 1000000000039, V.int 67280421310721] ((c + 1) % 4) = some (V.int m) := by
        have e4 : (c + 1) % 4 = 0 ∨ (c + 1) % 4 = 1 ∨ (c + 1) % 4 = 2 ∨ (c + 1) % 4 = 3 := by omega
        rcases e4 with e | e | e | e <;> rw [e]
        · exact ⟨2305843009213693951, by decide, by decide, rfl⟩
        · exact ⟨999999999989, by decide, by decide, rfl⟩
        · exact ⟨1000000000039, by decide, by decide, rfl⟩
        · exact ⟨67280421310721, by decide, by decide, rfl⟩
      obtain ⟨p, p0, p1, hat⟩ := hp
      refine ⟨_, rfl, _, _, rfl, rfl, (by show (0 : Int) < 4; decide), _, _, _, _, rfl, rfl, SqL.of upd_same, hat, ?_⟩
      have h2 := up1 (u := .lst [V.int 2305843009213693951, V.int 999999999989, V.int 1000000000039, V.int 67280421310721]) nq h1
      have s2 : Kp hd H (upd (upd H hd (.lst ([V.int a, V.int b, V.int c].set 2 (V.int (c + 1))))) q (.lst [V.int 2305843009213693951, V.int 999999999989, V.int 1000000000039, V.int 67280421310721])) := ((Kp.refl hd H).set).up nq
      have cm : 0 ≤ 7919 * (c + 1) := by omega
      have cM : 7919 * (c + 1) ≤ 7919 * 1000001 := by omega
      refine ⟨_, rfl, _, _, _, _, rfl, rfl, SqL.of h2, rfl, _, rfl, _, _, rfl, rfl, .inl (.inl ⟨by decide, by decide⟩), _, rfl, _, _, rfl, rfl, .inl (.inl ⟨by omega, by omega⟩), _, _, rfl, rfl, _, rfl, _, _, rfl, rfl, .inl (.inl ⟨by decide, by decide⟩), _, _, rfl, rfl, _, rfl, _, _, rfl, rfl, p0, ?_⟩
      generalize (b + 7919 * (c + 1) * (c + 1) + 65537 * (c + 1)) = z
      have z0 := Int.emod_nonneg z (show p ≠ 0 by omega)
      have z1 := Int.emod_lt_of_pos z p0
      refine ⟨_, rfl, _, _, rfl, rfl, ⟨by decide, by decide, ?_⟩, _, rfl, _, _, rfl, rfl, p0, ?_⟩
      · show (z % p).natAbs < 2 ^ 64
        omega
      generalize (z % p) ^ Int.toNat 5 % p = y
      refine ⟨_, rfl, _, _, rfl, rfl, ⟨by decide, by decide +kernel⟩, _, rfl, _, _, rfl, rfl, ⟨by decide, by decide +kernel⟩, _, _, rfl, rfl, .inl (.inr ⟨by decide, by decide⟩), _, _, rfl, rfl, _, rfl, _, _, rfl, rfl, hm, ?_⟩
      exact k _ _ (Int.emod_nonneg _ (by omega)) (Int.emod_lt_of_pos _ hm) ⟨a, b, c + 1, h2, ha, hb, hb2, by omega, by omega⟩ s2
theorem ok_l_hand {P : Program} {w : World} {K : PySem.W.Frag} {mg : Str → Option Value} {base : Heap} {φ : Fds} (T : Txt K mg φ) : FnOk P w K mg base CX0 1 (He.fAd K ("_law_hand", none)) φ.l_hand p_l_hand (sp_hand K) := by
  refine T.f_l_hand.ok sc_l_hand (fun vs H Q E h => ?_) (fun cdv A outer s H vs Q E hr h => ?_)
  · obtain ⟨a, ns, kk, rfl, hS, hk, k⟩ := h; rfl
  · obtain ⟨a, ns, kk, rfl, hS, hk, k⟩ := h
    refine ⟨_, PSs.nox (pss_cons (ps_set (i := 2) sc_l_hand.nd rfl (Or.inl rfl) pe_int)
      (pss_cons (ps_cut (ps_if (pt_cmpR op_lt (pv 1) (pe_callB (id := "len") (lenS (K := K)) (by rfl) T.z_len PySem.boot_len (pa_cons (pv 0) pa_nil)) (nomark _))
      (pss_one (ps_set (i := 2) sc_l_hand.nd rfl (Or.inl rfl) (pe_ix (ixl (K := K)) (pv 0) (pv 1) (fun _ _ => rfl))))
      pss_nil))
      (pss_cons (ps_set (i := 3) sc_l_hand.nd rfl (Or.inl rfl) (pe_callB (id := "abs") call_abs (by rfl) T.z_abs (by decide +kernel) (pa_cons (pv 2) pa_nil)))
      (pss_cons (ps_cut (ps_if (pt_cmpR op_lt (pv 3) (pe_op op_pow pe_int pe_int) (nomark _))
      (pss_one (ps_set (i := 3) sc_l_hand.nd rfl (Or.inl rfl) pe_int))
      pss_nil))
      (pss_one (ps_ret (pe_lst (pa_cons (pv 3) (pa_cons (pe_op op_add (pe_op op_add (pe_op op_mod (pv 2) pe_int) (pe_op op_mulA pe_int (pv 1))) pe_int) (pa_cons pe_int pa_nil)))))))))), ?_⟩
    refine ⟨fun σ' H' => H' = H ∧ ∃ z : Int, σ' = [some (.ref a), some (.int kk), some (.int z), none], ?_, ?_⟩
    · refine ⟨_, rfl, _, rfl, a, _, rfl, .inl hS, _, _, rfl, rfl, _, rfl, ?_⟩
      refine ite2 (fun e => ?_) (fun e => ?_)
      · have e0 : (kk : Int) < ((ns.map V.int).length : Int) := of_decide_eq_true e
        rw [List.length_map] at e0
        have e1 : kk < ns.length := by omega
        refine ⟨_, rfl, _, rfl, a, _, _, V.int ns[kk], rfl, rfl, hS, atI_nat ?_, rfl, _, rfl⟩
        rw [List.getElem?_map, List.getElem?_eq_getElem e1]
        rfl
      · exact ⟨rfl, 0, rfl⟩
    · rintro σ' H' ⟨rfl, z, rfl⟩
      refine ⟨_, rfl, _, rfl, ?_⟩
      refine ⟨fun σ' H'' => H'' = H' ∧ ∃ y : Int, 0 ≤ y ∧ σ' = [some (.ref a), some (.int kk), some (.int z), some (.int y)], ?_, ?_⟩
      · refine ⟨_, rfl, _, _, rfl, rfl, ⟨by decide, by decide, by decide⟩, _, _, rfl, rfl, _, rfl, ?_⟩
        refine ite2 (fun e => ?_) (fun e => ?_)
        · exact ⟨rfl, 0, by decide, rfl⟩
        · exact ⟨rfl, _, by split <;> omega, rfl⟩
      rintro σ' H'' ⟨rfl, y, y0, rfl⟩
      refine ⟨_, rfl, _, rfl, _, _, rfl, rfl, (by show (0 : Int) < 2305843009213693951; decide), _, rfl, _, _, rfl, rfl, .inl (.inl ⟨by decide, by decide⟩), _, _, rfl, rfl, _, _, rfl, rfl, by show 3 ≤ sizeLine; decide, fun p hp => ?_⟩
      have e1 := Int.emod_nonneg z (show (2305843009213693951 : Int) ≠ 0 by decide)
      have e2 := Int.emod_lt_of_pos z (show (0 : Int) < 2305843009213693951 by decide)
      exact k p _ hp (same1 hp) ⟨_, _, _, upd_same, y0, by omega, by omega, by decide, by decide⟩
theorem ok_l_of {P : Program} {w : World} {K : PySem.W.Frag} {mg : Str → Option Value} {base : Heap} {φ : Fds} (T : Txt K mg φ) : FnOk P w K mg base CX0 2 (He.fAd K ("_law_of", none)) φ.l_of p_l_of (sp_of K) := by
  obtain ⟨_, B0v, B0⟩ := b_l_take_2 T
  refine T.f_l_of.ok sc_l_of (fun vs H Q E h => ?_) (fun cdv A outer s H vs Q E hr h => ?_)
  · obtain ⟨h, l, n, xs, rfl, hh, hn, hl, ne, l0, l1, k⟩ := h; rfl
  · obtain ⟨h, l, n, xs, rfl, hh, hn, hl, ne, l0, l1, k⟩ := h
    refine ⟨_, PSs.nox (pss_one (ps_ret (pe_ix (ixl (K := K)) (pv 1) (pe_call (ok_l_take (K := K) T) (hr.mono (by decide)) rfl T.g_l_take T.f_l_take.kp B0 B0v pass0 (pa_cons (pv 0) (pa_cons (pe_callB (id := "len") (lenS (K := K)) (by rfl) T.z_len PySem.boot_len (pa_cons (pv 1) pa_nil)) pa_nil))) (fun _ _ => rfl)))), ?_⟩
    refine ⟨_, rfl, _, rfl, _, rfl, l, xs, rfl, .inl hl, h, n, (xs.length : Int), rfl, hh, by omega, by omega, ?_, fun d H1 d0 d1 hh1 k1 => ?_⟩
    · have : (xs.length : Int).natAbs = xs.length := by omega
      rw [this]
      have : xs.length < 2 ^ 10 := by omega
      exact Nat.lt_of_lt_of_le (PySem.Flt.log2_lt_of (by decide) this) (by decide)
    obtain ⟨j, rfl⟩ := Int.eq_ofNat_of_zero_le d0
    have hj : j < xs.length := by omega
    exact ⟨l, xs, _, xs[j], rfl, rfl, k1.seq ne hl, atI_nat (List.getElem?_eq_getElem hj), k j _ _ (List.getElem?_eq_getElem hj) hh1 k1⟩
theorem ok_l_measure {P : Program} {w : World} {K : PySem.W.Frag} {mg : Str → Option Value} {base : Heap} {φ : Fds} (T : Txt K mg φ) : FnOk P w K mg base CX0 4 (He.fAd K ("_law_measure", none)) φ.l_measure p_l_measure (sp_lmeas (He.ga K "Measure")) := by
  obtain ⟨_, B0v, B0⟩ := b_Measure_init_3 T
  refine T.f_l_measure.ok sc_l_measure (fun vs H Q E h => ?_) (fun cdv A outer s H vs Q E hr h => ?_)
  · obtain ⟨part, z, rfl, h0, h1, sz, k⟩ := h; rfl
  · obtain ⟨part, z, rfl, h0, h1, sz, k⟩ := h
    refine ⟨_, PSs.nox (pss_one (ps_ret (pe_make T.mk_Measure (ok_Measure_init (K := K) T) (hr.mono (by decide)) rfl T.g_Measure B0 B0v pass0 (pa_cons (pv 1) (pa_cons (pe_op op_mulA pe_int (pv 0)) pa_nil))))), ?_⟩
    walk_at "w"
    refine q_made (k := 40) (by omega) sz ?_ (by decide) (by decide) fun q H1 s1 R => k q H1 s1 R
    show (4 * part).natAbs < 2 ^ 40
    omega
theorem ok_l_end {P : Program} {w : World} {K : PySem.W.Frag} {mg : Str → Option Value} {base : Heap} {φ : Fds} (T : Txt K mg φ) : FnOk P w K mg base CX0 4 (He.fAd K ("_law_end", none)) φ.l_end p_l_end (sp_lend (He.ga K "Measure")) := by
  obtain ⟨_, B0v, B0⟩ := b_Measure_init_3 T
  refine T.f_l_end.ok sc_l_end (fun vs H Q E h => ?_) (fun cdv A outer s H vs Q E hr h => ?_)
  · obtain ⟨part, o, rfl, h0, h1, sz, k⟩ := h; rfl
  · obtain ⟨part, o, rfl, h0, h1, sz, k⟩ := h
    refine ⟨_, PSs.nox (pss_cons (ps_if (pt_cmpR op_isN (pv 1) pe_non (nomark _))
      (pss_one (ps_ret pe_non))
      pss_nil)
      (pss_one (ps_ret (pe_make T.mk_Measure (ok_Measure_init (K := K) T) (hr.mono (by decide)) rfl T.g_Measure B0 B0v pass0 (pa_cons (pv 1) (pa_cons (pe_op op_mulA pe_int (pv 0)) pa_nil)))))), ?_⟩
    cases o with
    | none =>
      walk_at "w"
      exact k _ _ (Same.refl _) rfl
    | some z =>
      refine ⟨_, rfl, rfl, _, rfl, iteF ?_⟩
      walk_at "w"
      refine q_made (k := 40) (by omega) (sz z rfl) ?_ (by decide) (by decide) fun q H1 s1 R => k _ H1 s1 ⟨q, rfl, R⟩
      show (4 * part).natAbs < 2 ^ 40
      omega
theorem ok_l_made {P : Program} {w : World} {K : PySem.W.Frag} {mg : Str → Option Value} {base : Heap} {φ : Fds} (T : Txt K mg φ) : FnOk P w K mg base CX0 5 (He.fAd K ("_law_made", none)) φ.l_made p_l_made (sp_lmade16 K (He.ga K "Measure") (He.ga K "Ladder")) := by
  obtain ⟨_, B0v, B0⟩ := b_l_measure_2 T
  obtain ⟨_, B1v, B1⟩ := b_Ladder_init_5 T
  obtain ⟨_, B2v, B2⟩ := b_l_end_2 T
  refine T.f_l_made.ok sc_l_made (fun vs H Q E h => ?_) (fun cdv A outer s H vs Q E hr h => ?_)
  · obtain ⟨p, part, ms, r, lo, hi, rfl, hL, k⟩ := h; rfl
  · obtain ⟨p, part, ms, r, lo, hi, rfl, hL, k⟩ := h
    refine ⟨_, PSs.nox (pss_cons (ps_asg (pv 0) (pg_tup rfl (pgs_cons (pg_name (i := 1) sc_l_made.nd rfl (Or.inr rfl)) (pgs_cons (pg_name (i := 2) sc_l_made.nd rfl (Or.inl rfl)) (pgs_cons (pg_name (i := 3) sc_l_made.nd rfl (Or.inl rfl)) (pgs_cons (pg_name (i := 4) sc_l_made.nd rfl (Or.inl rfl)) (pgs_cons (pg_name (i := 5) sc_l_made.nd rfl (Or.inl rfl)) pgs_nil)))))))
      (pss_cons (ps_set (i := 6) sc_l_made.nd rfl (Or.inl rfl) (pe_callTy (T := "tuple") (tupleL (K := K)) (by rfl) T.z_tuple (by decide +kernel) (pa_cons (pe_lc (own := [("_law_mark", 7)]) (g := gName 7) rfl sc_l_made.nd (pi_tup (pv 2)) (blkOk_by (own := [("_law_mark", 7)]) (N := N_l_made) (sc := (defScope s_l_made)) (by decide +kernel)) (fun _ _ _ _ _ => (pg_name (i := 7) sc_l_made.nd rfl (Or.inl rfl))) (fun _ _ _ _ _ => pts_nil) (fun _ _ _ _ _ => (pe_call (ok_l_measure (K := K) T) (hr.mono (by decide)) rfl T.g_l_measure T.f_l_measure.kp B0 B0v pass0 (pa_cons (pv 1) (pa_cons (pv 7) pa_nil))))) pa_nil)))
      (pss_one (ps_ret (pe_make T.mk_Ladder (ok_Ladder_init (K := K) T) (hr.mono (by decide)) rfl T.g_Ladder B1 B1v pass0 (pa_cons (pv 6) (pa_cons (pv 3) (pa_cons (pe_call (ok_l_end (K := K) T) (hr.mono (by decide)) rfl T.g_l_end T.f_l_end.kp B2 B2v pass0 (pa_cons (pv 1) (pa_cons (pv 4) pa_nil))) (pa_cons (pe_call (ok_l_end (K := K) T) (hr.mono (by decide)) rfl T.g_l_end T.f_l_end.kp B2 B2v pass0 (pa_cons (pv 1) (pa_cons (pv 5) pa_nil))) pa_nil))))))))), ?_⟩
    have hL0 := hL
    obtain ⟨⟨T', hp, hT⟩, p0, p1, l0, l1, ri, fo, bn, bl, bh, ru, sp⟩ := hL
    walk_at "w"
    intro D nD
    have lm : (ms.map V.int).length = ms.length := List.length_map ..
    refine lcr (n := (ms.map V.int).length) walk_tup (fun _ _ g s => s.sqt g) (fun i H v => ∃ q m, v = .ref q ∧ ms[i]? = some m ∧ QAt (He.ga K "Measure") H q 40 (m, 4 * part)) (fun i H H' y ⟨q, m, e1, e2, e3⟩ n => ⟨q, m, e1, e2, e3.nl n⟩) (by rw [sizeLine_eq]; omega) (SqT.of hT) nD (fun i x H1 H2 N M hi s1 y hN => ?_) (fun H1 ys s1 hD ly hy => ?_)
    · obtain ⟨rfl, hx⟩ := y
      rw [List.getElem?_map] at hx
      obtain ⟨m, hm⟩ := geI (zs := ms) (n := i) (by omega)
      rw [hm] at hx
      cases hx
      have bm := bn m (List.mem_of_getElem? hm)
      refine ⟨rfl, yesT ?_⟩
      walk_at "w"
      exact fun q H3 s3 R => hN _ _ s3 ⟨q, m, rfl, hm, R⟩
    walk_at "w"
    intro T2 nT2
    walk_at "w"
    refine ⟨lo, rfl, p0, p1, fun z e => ?_, fun vl H3 s3 ql => ?_⟩
    · have := bl z e
      show z.natAbs < 2 ^ 40
      omega
    walk_at "w"
    refine ⟨hi, rfl, p0, p1, fun z e => ?_, fun vh H4 s4 qh => ?_⟩
    · have := bh z e
      show z.natAbs < 2 ^ 40
      omega
    have s2 : Same H1 H4 := ((same1 nT2 : Same H1 _).trans s3).trans s4
    have hT2 : H4 T2 = some (.tup ys) := (s3.trans s4) _ _ upd_same
    refine lad_made (k := 40) (SqT.of hT2) (zs := zq (4 * part) ms) ⟨by rw [zq_len]; omega, fun i v z h1 h2 => ?_⟩ (by decide) (by rw [zq_len]; exact l0) (by rw [zq_len]; exact l1) hL0.riseQ ru (ql.same s4) qh hL0.spanQ fun q H5 fq s5 L5 ⟨dx5, h5⟩ => k q H5 ((s1.trans s2).free fq) ((s1.trans s2).trans s5) L5 ⟨dx5, _, _, _, _, h5, s5 _ _ hT2⟩
    obtain ⟨q, m, e1, e2, e3⟩ := hy i v h1
    obtain ⟨m', e4, rfl⟩ := zq_get h2
    rw [e2] at e4
    cases e4
    exact ⟨q, e1, e3.same s2⟩
theorem ok_l_lowest {P : Program} {w : World} {K : PySem.W.Frag} {mg : Str → Option Value} {base : Heap} {φ : Fds} (T : Txt K mg φ) : FnOk P w K mg base CX0 1 (He.fAd K ("_law_lowest", none)) φ.l_lowest p_l_lowest sp_llow16 := by
  refine T.f_l_lowest.ok sc_l_lowest (fun vs H Q E h => ?_) (fun cdv A outer s H vs Q E hr h => ?_)
  · obtain ⟨part, z, rfl, p0, p1, z0, z1, kk⟩ := h; rfl
  · obtain ⟨part, z, rfl, p0, p1, z0, z1, kk⟩ := h
    refine ⟨_, PSs.nox (pss_cons (ps_par (i := 2) (j := 3) rfl sc_l_lowest.nd rfl rfl (by decide) rfl rfl (pa_cons (pe_callB (id := "abs") call_abs (by rfl) T.z_abs (by decide +kernel) (pa_cons (pv 1) pa_nil)) (pa_cons (pe_op op_mulA pe_int (pv 0)) pa_nil)) (by rfl))
      (pss_cons (ps_while PassesOwn.never (pt_cmpR op_ne (pv 3) pe_int (nomark _))
      (pss_one (ps_par (i := 2) (j := 3) rfl sc_l_lowest.nd rfl rfl (by decide) rfl rfl (pa_cons (pv 3) (pa_cons (pe_op op_mod (pv 2) (pv 3)) pa_nil)) (by rfl))))
      (pss_one (ps_ret (pe_tup (pa_cons (pe_op op_fd (pv 1) (pv 2)) (pa_cons (pe_op op_fd (pe_op op_mulA pe_int (pv 0)) (pv 2)) pa_nil))))))), ?_⟩
    have hb : 0 < 4 * part := by omega
    have sb : Sz 40 (4 * part) := by show (4 * part).natAbs < 2 ^ 40; omega
    walk_at "w"
    refine while_by (fun σ H' => H' = H ∧ ∃ g s : Int, σ = [some (.int part), some (.int z), some (.int g), some (.int s)] ∧ 0 ≤ g ∧ 0 ≤ s ∧ Int.gcd g s = Int.gcd z (4 * part))
      (fun σ _ => match σ with | [_, _, _, some (.int s)] => s.toNat | _ => 0) ⟨rfl, _, _, rfl, ?_, ?_, ?_⟩ ?_ (fun σ H Q Q' hQ ⟨v, e1, e2, k, e3, q⟩ => ⟨v, e1, e2, k, e3, hQ _ _ q⟩)
    · split <;> omega
    · omega
    · have e1 : (if z < 0 then -z else z) = (z.natAbs : Int) := by split <;> omega
      rw [e1]
      show Nat.gcd (z.natAbs : Int).natAbs (4 * part).natAbs = _
      rw [Int.natAbs_natCast]
      rfl
    rintro σ H' ⟨rfl, g, s, rfl, hg, hs, e⟩
    refine ⟨_, rfl, rfl, _, rfl, ?_⟩
    rw [dI]
    by_cases c : s = 0
    · subst c
      refine iteF ?_
      have eg : g = (Int.gcd z (4 * part) : Int) := by
        rw [← e, Int.gcd_zero_right]
        omega
      subst eg
      have es : (Int.gcd z (4 * part) : Int) = sgn (4 * part) * (Int.gcd z (4 * part) : Int) := by
        unfold sgn
        rw [if_pos hb, Int.one_mul]
      obtain ⟨c0, cl, fr⟩ := fr_mk (a := z) (b := 4 * part) (by omega) es
      have c9 : (Int.gcd z (4 * part) : Int).natAbs.log2 < 9000 := (sb.le cl).log (by decide) (by omega)
      have c09 : (Int.gcd z (4 * part) : Int) ≠ 0 ∧ (Int.gcd z (4 * part) : Int).natAbs.log2 < 9000 := ⟨c0, c9⟩
      walk_at "w"
      intro p np
      exact kk p _ _ np rfl
    · rw [decide_eq_false c]
      refine iteT ?_
      have c0 : 0 < s := by omega
      refine ⟨_, rfl, _, rfl, _, rfl, _, _, rfl, rfl, c0, _, _, rfl, ?_⟩
      refine ⟨⟨rfl, s, g % s, rfl, hs, Int.emod_nonneg _ (by omega), (gcd_step c0 hg).trans e⟩, ?_⟩
      show (g % s).toNat < s.toNat
      have h1 := Int.emod_nonneg g (show s ≠ 0 by omega)
      have h2 := Int.emod_lt_of_pos g c0
      omega
theorem ok_l_shown {P : Program} {w : World} {K : PySem.W.Frag} {mg : Str → Option Value} {base : Heap} {φ : Fds} (T : Txt K mg φ) : FnOk P w K mg base CX0 2 (He.fAd K ("_law_shown", none)) φ.l_shown p_l_shown sp_shown16 := by
  obtain ⟨_, B0v, B0⟩ := b_l_lowest_2 T
  refine T.f_l_shown.ok sc_l_shown (fun vs H Q E h => ?_) (fun cdv A outer s H vs Q E hr h => ?_)
  · obtain ⟨part, z, rfl, p0, p1, z0, z1, kk⟩ := h; rfl
  · obtain ⟨part, z, rfl, p0, p1, z0, z1, kk⟩ := h
    refine ⟨_, PSs.nox (pss_cons (ps_cut (ps_asg (pe_call (ok_l_lowest (K := K) T) (hr.mono (by decide)) rfl T.g_l_lowest T.f_l_lowest.kp B0 B0v pass0 (pa_cons (pv 0) (pa_cons (pv 1) pa_nil))) (pg_tup rfl (pgs_cons (pg_name (i := 2) sc_l_shown.nd rfl (Or.inl rfl)) (pgs_cons (pg_name (i := 3) sc_l_shown.nd rfl (Or.inl rfl)) pgs_nil)))))
      (pss_cons (ps_cut (ps_par (i := 4) (j := 5) rfl sc_l_shown.nd rfl rfl (by decide) rfl rfl (pa_cons (pe_op op_fd (pe_callB (id := "abs") call_abs (by rfl) T.z_abs (by decide +kernel) (pa_cons (pv 2) pa_nil)) (pv 3)) (pa_cons (pe_op op_mod (pe_callB (id := "abs") call_abs (by rfl) T.z_abs (by decide +kernel) (pa_cons (pv 2) pa_nil)) (pv 3)) pa_nil)) (by rfl)))
      (pss_cons (ps_cut (ps_set (i := 6) sc_l_shown.nd rfl (Or.inl rfl) (pe_lst pa_nil)))
      (pss_cons (ps_cut (ps_if (PW.pt (pw_or (pt_cmpR op_gt (pv 4) pe_int (nomark _)) (pw_or1 (pt_cmpR op_eq (pv 5) pe_int (nomark _)))))
      (pss_one (ps_expr (pe_bm PySem.F.plainAttrs_list PySem.F.slot_list_append PySem.F.type_list_append mt_append (pv 6) (pa_cons (pe_callTy (T := "str") call_str_int (by rfl) T.z_str (by decide +kernel) (pa_cons (pv 4) pa_nil)) pa_nil))))
      pss_nil))
      (pss_cons (ps_cut (ps_if (pt_cmpR op_gt (pv 5) pe_int (nomark _))
      (pss_one (ps_expr (pe_bm PySem.F.plainAttrs_list PySem.F.slot_list_append PySem.F.type_list_append mt_append (pv 6) (pa_cons (pe_op op_add_str (pe_op op_add_str (pe_callTy (T := "str") call_str_int (by rfl) T.z_str (by decide +kernel) (pa_cons (pv 5) pa_nil)) pe_str) (pe_callTy (T := "str") call_str_int (by rfl) T.z_str (by decide +kernel) (pa_cons (pv 3) pa_nil))) pa_nil))))
      pss_nil))
      (pss_one (ps_ret (pe_op op_add_str (pe_ix (ixl (K := K)) (pe_lst (pa_cons pe_str (pa_cons pe_str pa_nil))) (pe_callTy (T := "int") call_int1 (by rfl) T.z_int (by decide +kernel) (pa_cons (pe_cmpR op_lt (pv 2) pe_int (nomark _)) pa_nil)) (fun _ _ => rfl)) (pe_join pe_str (pv 6)))))))))), ?_⟩
    obtain ⟨t, u, e⟩ : ∃ t u, lowQ (z, 4 * part) = (t, u) := ⟨_, _, rfl⟩
    obtain ⟨hu, st, su⟩ := low16 p0 p1 z0 z1 e
    have kk : ∀ H', Same H H' → Q (.str (mTxt t u)) H' := fun H' s => by
      have h := kk H' s
      unfold mT at h
      rw [e] at h
      exact h
    have ea : (if t < 0 then -t else t) = (t.natAbs : Int) := by split <;> omega
    have a0 : (0 : Int) ≤ (t.natAbs : Int) := by omega
    have sA : Sz 40 (t.natAbs : Int) := by show (t.natAbs : Int).natAbs < 2 ^ 40; have : t.natAbs < 2 ^ 40 := st; omega
    obtain ⟨A, hA⟩ : ∃ A : Int, A = (t.natAbs : Int) := ⟨_, rfl⟩
    have kk : ∀ H', Same H H' → Q (.str ((if decide (t < 0) = true then ("-" : Str) else "") ++ Txt.join " " (wsA A u ++ wsB A u))) H' := fun H' s => by
      have h := kk H' s
      rw [← law_txt hu, ← hA] at h
      exact h
    rw [← hA] at ea a0 sA
    have sd : Sz 1900 (A / u) := (sA.ediv a0 hu).mono (by decide)
    have sm : Sz 1900 (A % u) := (su.emod (a := A) hu).mono (by decide)
    have su9 : Sz 1900 u := su.mono (by decide)
    have l1 := iT_len sd
    have l2 := iT_len sm
    have l3 := iT_len su9
    obtain ⟨wa1, wa2⟩ := wsA_len sd
    obtain ⟨wb1, wb2⟩ := wsB_len sm su9
    have m0 := Int.emod_nonneg A (show u ≠ 0 by omega)
    clear hA
    
    obtain ⟨J, eJ⟩ : ∃ J : L2.St → Hp → Prop, J = (fun σ' H' => σ' = [some (.int part), some (.int z), some (.int t), some (.int u), none, none, none] ∧ Same H H') := ⟨_, rfl⟩
    refine ⟨J, ?_, ?_⟩
    · walk_at "w"
      intro p t' u' np e'
      obtain ⟨rfl, rfl⟩ : t' = t ∧ u' = u := by rw [e] at e'; cases e'; exact ⟨rfl, rfl⟩
      have hp := upd_same (H := H) (a := p) (o := .tup [.int t', .int u'])
      have s1 := same1 (H := H) (u := .tup [.int t', .int u']) np
      generalize upd H p _ = H1 at *
      walk_at "w"
      subst eJ
      exact ⟨rfl, s1⟩
    subst eJ
    rintro σ' H1 ⟨rfl, s1⟩
    obtain ⟨J, eJ⟩ : ∃ J : L2.St → Hp → Prop, J = (fun σ' H' => ∃ (w r : Int), σ' = [some (.int part), some (.int z), some (.int t), some (.int u), some (.int w), some (.int r), none] ∧ w = A / u ∧ r = A % u ∧ Same H H') := ⟨_, rfl⟩
    refine ⟨J, ?_, ?_⟩
    · have ufd : u ≠ 0 ∧ u.natAbs.log2 < 9000 := ⟨by omega, su9.log (by decide) (by decide)⟩
      walk_at "w"
      subst eJ
      exact ⟨_, _, rfl, by rw [ea]; exact Int.fdiv_eq_ediv_of_nonneg A (by omega), by rw [ea], s1⟩
    subst eJ
    rintro σ' H2 ⟨w, r, rfl, ew, er, s2⟩
    obtain ⟨J, eJ⟩ : ∃ J : L2.St → Hp → Prop, J = (fun σ' H' => ∃ (W : Addr), σ' = [some (.int part), some (.int z), some (.int t), some (.int u), some (.int w), some (.int r), some (.ref W)] ∧ H W = none ∧ H' W = some (.lst []) ∧ Same H H') := ⟨_, rfl⟩
    refine ⟨J, ?_, ?_⟩
    · walk_at "w"
      intro W nW
      subst eJ
      exact ⟨W, rfl, s2.free nW, upd_same, s2.up nW⟩
    subst eJ
    rintro σ' H3 ⟨W, rfl, nW, hW, s3⟩
    obtain ⟨J, eJ⟩ : ∃ J : L2.St → Hp → Prop, J = (fun σ' H' => ∃ (W : Addr), σ' = [some (.int part), some (.int z), some (.int t), some (.int u), some (.int w), some (.int r), some (.ref W)] ∧ H W = none ∧ H' W = some (.lst ((wsA A u).map V.str)) ∧ Same H H') := ⟨_, rfl⟩
    refine ⟨J, ?_, ?_⟩
    · have k1 : ∀ H', Same H H' → True := fun _ _ => trivial
      subst ew er
      have ws : (0 < A / u ∨ A % u = 0) ↔ (u ≤ A ∨ A = 0) := wsA_if a0 hu
      have fx : Int.natAbs (A / u) < 2 ^ 1900 := sd
      have lg : (A / u).natAbs.log2 < 1920 := sd.log' (by decide) (by decide)
      have sY : ∀ c o, H c = some o → upd H3 W (.lst ([] ++ [.str (Str.ofString (toString (A / u)))])) c = some o := fun c o e => by rw [upd_ne (ne_of_none e nW)]; exact s3 _ _ e
      walk_at "w"
      refine ite2 (fun e1 => ?_) (fun e1 => ?_)
      · have e1 : 0 < A / u := of_decide_eq_true e1
        have hy : wsA A u = [iT (A / u)] := if_pos (ws.mp (.inl e1))
        walk_at "w"
        subst eJ
        exact ⟨W, rfl, nW, by rw [hy]; exact upd_same, sY⟩
      · have e1 : ¬ 0 < A / u := fun z => e1 (decide_eq_true z)
        walk_at "w"
        refine ite2 (fun e2 => ?_) (fun e2 => ?_)
        · have e2 : A % u = 0 := by simpa using e2
          have hy : wsA A u = [iT (A / u)] := if_pos (ws.mp (.inr e2))
          walk_at "w"
          subst eJ
          exact ⟨W, rfl, nW, by rw [hy]; exact upd_same, sY⟩
        · have e2 : ¬ A % u = 0 := by simpa using e2
          have hy : wsA A u = [] := if_neg fun z => (ws.mpr z).elim e1 e2
          walk_at "w"
          subst eJ
          exact ⟨W, rfl, nW, by rw [hy]; exact hW, s3⟩
    subst eJ
    rintro σ' H4 ⟨W, rfl, nW, hW, s4⟩
    obtain ⟨J, eJ⟩ : ∃ J : L2.St → Hp → Prop, J = (fun σ' H' => ∃ (W : Addr), σ' = [some (.int part), some (.int z), some (.int t), some (.int u), some (.int w), some (.int r), some (.ref W)] ∧ H W = none ∧ H' W = some (.lst ((wsA A u ++ wsB A u).map V.str)) ∧ Same H H') := ⟨_, rfl⟩
    refine ⟨J, ?_, ?_⟩
    · subst ew er
      have lm : ((wsA A u).map V.str).length = (wsA A u).length := List.length_map ..
      have lg : (A % u).natAbs.log2 < 1920 := sm.log' (by decide) (by decide)
      have lg3 : u.natAbs.log2 < 1920 := su9.log' (by decide) (by decide)
      have l2' : (Str.ofString (toString (A % u))).length ≤ 1921 := l2
      have l3' : (Str.ofString (toString u)).length ≤ 1921 := l3
      have w1 : (Str.ofString "/").length = 1 := rfl
      have c1 : (Str.ofString (toString (A % u))).length + (Str.ofString "/").length ≤ sizeLine := zLen (by omega)
      have c2 : (Str.ofString (toString (A % u)) ++ Str.ofString "/").length + (Str.ofString (toString u)).length ≤ sizeLine := zLen (by rw [Str.length_append]; omega)
      walk_at "w"
      refine ite2 (fun e1 => ?_) (fun e1 => ?_)
      · have e1 : 0 < A % u := of_decide_eq_true e1
        have hy : wsB A u = [iT (A % u) ++ "/" ++ iT u] := if_pos e1
        walk_at "w"
        subst eJ
        exact ⟨W, rfl, nW, by rw [hy, List.map_append]; exact upd_same, fun c o e => by rw [upd_ne (ne_of_none e nW)]; exact s4 _ _ e⟩
      · have e1 : ¬ 0 < A % u := fun z => e1 (decide_eq_true z)
        have hy : wsB A u = [] := if_neg e1
        walk_at "w"
        subst eJ
        exact ⟨W, rfl, nW, by rw [hy, List.append_nil]; exact hW, s4⟩
    subst eJ
    rintro σ' H5 ⟨W, rfl, nW, hW, s5⟩
    have jl := join_len " " (wsA A u ++ wsB A u)
    have q2' : (Str.ofString " ").length = 1 := rfl
    have ls : ((wsA A u ++ wsB A u).map fun x => x.length).sum + (wsA A u ++ wsB A u).length * (Str.ofString " ").length ≤ 16777216 := by
      rw [q2', List.map_append, List.sum_append, List.length_append]; omega
    rw [q2', List.map_append, List.sum_append, List.length_append] at jl
    walk_at "w"
    intro p np
    have hp := upd_same (H := H5) (a := p) (o := .lst [.str "", .str "-"])
    have s6 := s5.up (u := .lst [.str "", .str "-"]) np
    have hW6 := up1 (u := .lst [.str "", .str "-"]) np hW
    generalize upd H5 p (.lst [.str "", .str "-"]) = H6 at *
    walk_at "w"
    refine .inr ⟨_, rfl, ?_⟩
    have lm : (Str.ofString "-").length = 1 := rfl
    have l0 : (Str.ofString "").length = 0 := rfl
    cases c : decide (t < 0) with
    | true =>
      rw [c, if_pos rfl] at kk
      rw [if_pos rfl]
      walk_at "w"
      refine ⟨⟨_, rfl⟩, _, rfl, _, W, wsA A u ++ wsB A u, rfl, rfl, .inl (SqL.of hW6), ls, ?_⟩
      walk_at "w"
      exact ⟨zLen (by omega), kk _ s6⟩
    | false =>
      rw [c, if_neg Bool.false_ne_true] at kk
      rw [if_neg Bool.false_ne_true]
      walk_at "w"
      refine ⟨⟨_, rfl⟩, _, rfl, _, W, wsA A u ++ wsB A u, rfl, rfl, .inl (SqL.of hW6), ls, ?_⟩
      walk_at "w"
      exact ⟨zLen (by omega), kk _ s6⟩
theorem ok_l_named {P : Program} {w : World} {K : PySem.W.Frag} {mg : Str → Option Value} {base : Heap} {φ : Fds} (T : Txt K mg φ) : FnOk P w K mg base CX0 2 (He.fAd K ("_law_named", none)) φ.l_named p_l_named sp_named16 := by
  obtain ⟨_, B0v, B0⟩ := b_l_lowest_2 T
  refine T.f_l_named.ok sc_l_named (fun vs H Q E h => ?_) (fun cdv A outer s H vs Q E hr h => ?_)
  · obtain ⟨part, o, rfl, p0, p1, oo, kk⟩ := h; rfl
  · obtain ⟨part, o, rfl, p0, p1, oo, kk⟩ := h
    refine ⟨_, PSs.nox (pss_cons (ps_if (pt_cmpR op_isN (pv 1) pe_non (nomark _))
      (pss_one (ps_ret pe_str))
      pss_nil)
      (pss_cons (ps_asg (pe_call (ok_l_lowest (K := K) T) (hr.mono (by decide)) rfl T.g_l_lowest T.f_l_lowest.kp B0 B0v pass0 (pa_cons (pv 0) (pa_cons (pv 1) pa_nil))) (pg_tup rfl (pgs_cons (pg_name (i := 2) sc_l_named.nd rfl (Or.inl rfl)) (pgs_cons (pg_name (i := 3) sc_l_named.nd rfl (Or.inl rfl)) pgs_nil))))
      (pss_one (ps_ret (pe_op op_add_str (pe_op op_add_str (pe_op op_add_str (pe_op op_add_str pe_str (pe_callTy (T := "str") call_str_int (by rfl) T.z_str (by decide +kernel) (pa_cons (pv 2) pa_nil))) pe_str) (pe_callTy (T := "str") call_str_int (by rfl) T.z_str (by decide +kernel) (pa_cons (pv 3) pa_nil))) pe_str))))), ?_⟩
    cases o with
    | none =>
      walk_at "w"
      exact kk _ (Same.refl _)
    | some z =>
      obtain ⟨z0, z1⟩ := oo z rfl
      walk_at "w"
      intro p t u np e
      obtain ⟨hu, st, su⟩ := low16 p0 p1 z0 z1 e
      have hp := upd_same (H := H) (a := p) (o := .tup [.int t, .int u])
      have s1 := same1 (H := H) (u := .tup [.int t, .int u]) np
      generalize upd H p (.tup [.int t, .int u]) = H1 at *
      replace st := st.mono (show 40 ≤ 1900 by decide)
      replace su := su.mono (show 40 ≤ 1900 by decide)
      have l1 : (Str.ofString (toString t)).length ≤ 1921 := iT_len st
      have l2 : (Str.ofString (toString u)).length ≤ 1921 := iT_len su
      have e1 : (Str.ofString "Measure(").length = 8 := rfl
      have e2 : (Str.ofString ", ").length = 2 := rfl
      have e3 : (Str.ofString ")").length = 1 := rfl
      have lg : t.natAbs.log2 < 1920 := st.log' (by decide) (by decide)
      have lg3 : u.natAbs.log2 < 1920 := su.log' (by decide) (by decide)
      have er : oR (oq (4 * part) (some z)) = Str.ofString "Measure(" ++ Str.ofString (toString t) ++ Str.ofString ", " ++ Str.ofString (toString u) ++ Str.ofString ")" := by
        show mR (z, 4 * part) = _
        unfold mR
        rw [e]
        unfold mRep
        rw [Str.empty_append]
        rfl
      have k := kk _ s1
      rw [er] at k
      have c1 : (Str.ofString "Measure(").length + (Str.ofString (toString t)).length ≤ sizeLine := zLen (by omega)
      have c2 : (Str.ofString "Measure(" ++ Str.ofString (toString t)).length + (Str.ofString ", ").length ≤ sizeLine := zLen (by simp only [Str.length_append]; omega)
      have c3 : (Str.ofString "Measure(" ++ Str.ofString (toString t) ++ Str.ofString ", ").length + (Str.ofString (toString u)).length ≤ sizeLine := zLen (by simp only [Str.length_append]; omega)
      have c4 : (Str.ofString "Measure(" ++ Str.ofString (toString t) ++ Str.ofString ", " ++ Str.ofString (toString u)).length + (Str.ofString ")").length ≤ sizeLine := zLen (by simp only [Str.length_append]; omega)
      walk_at "w"
      exact k
theorem ok_l_text {P : Program} {w : World} {K : PySem.W.Frag} {mg : Str → Option Value} {base : Heap} {φ : Fds} (T : Txt K mg φ) : FnOk P w K mg base CX0 3 (He.fAd K ("_law_text", none)) φ.l_text p_l_text sp_text16 := by
  obtain ⟨_, B0v, B0⟩ := b_l_shown_2 T
  refine T.f_l_text.ok sc_l_text (fun vs H Q E h => ?_) (fun cdv A outer s H vs Q E hr h => ?_)
  · obtain ⟨p, part, ms, r, lo, hi, rfl, hL, kk⟩ := h; rfl
  · obtain ⟨p, part, ms, r, lo, hi, rfl, hL, kk⟩ := h
    refine ⟨_, PSs.nox (pss_cons (ps_cut (ps_asg (pv 0) (pg_tup rfl (pgs_cons (pg_name (i := 1) sc_l_text.nd rfl (Or.inr rfl)) (pgs_cons (pg_name (i := 2) sc_l_text.nd rfl (Or.inl rfl)) (pgs_cons (pg_name (i := 3) sc_l_text.nd rfl (Or.inl rfl)) (pgs_cons (pg_name (i := 4) sc_l_text.nd rfl (Or.inl rfl)) (pgs_cons (pg_name (i := 5) sc_l_text.nd rfl (Or.inl rfl)) pgs_nil))))))))
      (pss_cons (ps_cut (ps_set (i := 6) sc_l_text.nd rfl (Or.inl rfl) (pe_op op_add_str (pe_op op_add_str (pv 3) pe_str) (pe_join pe_str (pe_lc (own := [("_law_mark", 7)]) (g := gName 7) rfl sc_l_text.nd (pi_tup (pv 2)) (blkOk_by (own := [("_law_mark", 7)]) (N := N_l_text) (sc := (defScope s_l_text)) (by decide +kernel)) (fun _ _ _ _ _ => (pg_name (i := 7) sc_l_text.nd rfl (Or.inl rfl))) (fun _ _ _ _ _ => pts_nil) (fun _ _ _ _ _ => (pe_call (ok_l_shown (K := K) T) (hr.mono (by decide)) rfl T.g_l_shown T.f_l_shown.kp B0 B0v pass0 (pa_cons (pv 1) (pa_cons (pv 7) pa_nil)))))))))
      (pss_cons (ps_cut (ps_if (pt_cmpR op_notN (pv 4) pe_non (nomark _))
      (pss_one (ps_set (i := 6) sc_l_text.nd rfl (Or.inl rfl) (pe_op op_add_str (pe_op op_add_str (pv 6) pe_str) (pe_call (ok_l_shown (K := K) T) (hr.mono (by decide)) rfl T.g_l_shown T.f_l_shown.kp B0 B0v pass0 (pa_cons (pv 1) (pa_cons (pv 4) pa_nil))))))
      pss_nil))
      (pss_cons (ps_cut (ps_if (pt_cmpR op_notN (pv 5) pe_non (nomark _))
      (pss_one (ps_set (i := 6) sc_l_text.nd rfl (Or.inl rfl) (pe_op op_add_str (pe_op op_add_str (pv 6) pe_str) (pe_call (ok_l_shown (K := K) T) (hr.mono (by decide)) rfl T.g_l_shown T.f_l_shown.kp B0 B0v pass0 (pa_cons (pv 1) (pa_cons (pv 5) pa_nil))))))
      pss_nil))
      (pss_one (ps_ret (pv 6))))))), ?_⟩
    obtain ⟨⟨T', hp, hT⟩, p0, p1, l0, l1, ri, fo, bn, bl, bh, ru, sp⟩ := id hL
    have lm : (ms.map V.int).length = ms.length := List.length_map ..
    obtain ⟨rl, _⟩ := rule_len ru
    have lall : ∀ y ∈ (zq (4 * part) ms).map mT, y.length ≤ 6001 := fun y hy => by
      rw [zq_map] at hy
      obtain ⟨z, hz, rfl⟩ := List.mem_map.mp hy
      obtain ⟨b0, b1⟩ := bn z hz
      exact mT_l p0 p1 b0 b1
    have lq : ((zq (4 * part) ms).map mT).length = ms.length := by rw [List.length_map, zq_len]
    have ls := sum_le _ lall
    rw [lq] at ls
    have l2' : (Str.ofString ", ").length = 2 := rfl
    have jl := join_len ", " ((zq (4 * part) ms).map mT)
    rw [lq, l2'] at jl
    have l3' : (Str.ofString ": ").length = 2 := rfl
    have l4' : (Str.ofString " from ").length = 6 := rfl
    have l5' : (Str.ofString " to ").length = 4 := rfl
    have kk : ∀ H', Same H H' → Q (.str (fT " to " (oq (4 * part) hi) (fT " from " (oq (4 * part) lo) (r ++ ": " ++ Txt.join ", " ((zq (4 * part) ms).map mT))))) H' := fun H' s => by
      rw [← lTxt_eq]; exact kk H' s
    obtain ⟨T0, eT0⟩ : ∃ T0 : Str, T0 = r ++ ": " ++ Txt.join ", " ((zq (4 * part) ms).map mT) := ⟨_, rfl⟩
    have lT0 : T0.length ≤ 200000 := by rw [eT0]; simp only [Str.length_append]; omega
    rw [← eT0] at kk
    obtain ⟨T1, eT1⟩ : ∃ T1 : Str, T1 = fT " from " (oq (4 * part) lo) T0 := ⟨_, rfl⟩
    have lT1 : T1.length ≤ 300000 := by
      rw [eT1]
      cases lo with
      | none => show T0.length ≤ 300000; omega
      | some z =>
        obtain ⟨b0, b1⟩ := bl z rfl
        have := mT_l p0 p1 b0 b1
        show (T0 ++ " from " ++ mT (z, 4 * part)).length ≤ 300000
        simp only [Str.length_append]
        omega
    rw [← eT1] at kk
    
    obtain ⟨J, eJ⟩ : ∃ J : L2.St → Hp → Prop, J = (fun σ' H' => σ' = [some (.ref p), some (.int part), some (.ref T'), some (.str r), some (optZ lo), some (optZ hi), none, none] ∧ Same H H') := ⟨_, rfl⟩
    refine ⟨J, ?_, ?_⟩
    · walk_at "w"
      subst eJ
      exact ⟨rfl, Same.refl _⟩
    subst eJ
    rintro σ' H1 ⟨rfl, s1⟩
    obtain ⟨J, eJ⟩ : ∃ J : L2.St → Hp → Prop, J = (fun σ' H' => σ' = [some (.ref p), some (.int part), some (.ref T'), some (.str r), some (optZ lo), some (optZ hi), some (.str T0), none] ∧ Same H H') := ⟨_, rfl⟩
    refine ⟨J, ?_, ?_⟩
    · replace hT := s1 _ _ hT
      have ca : r.length + (Str.ofString ": ").length ≤ sizeLine := zLen (by omega)
      walk_at "w"
      refine ⟨⟨_, rfl⟩, ?_⟩
      walk_at "w"
      intro D nD
      refine lcz (n := (ms.map V.int).length) walk_tup (fun _ _ g s => s.sqt g) (ms.map fun z => some (V.str (mT (z, 4 * part)))) (by rw [List.length_map, lm]) (szs (by omega)) (SqT.of hT) nD (fun i x H2 H3 z N M hi' ez s2 yy hN hM => ?_) (fun H2 s2 hD => ?_)
      · obtain ⟨rfl, hx⟩ := yy
        rw [List.getElem?_map] at hx ez
        obtain ⟨m, hm⟩ := geI (zs := ms) (n := i) (by omega)
        rw [hm] at hx ez
        cases hx
        cases ez
        obtain ⟨b0, b1⟩ := bn m (List.mem_of_getElem? hm)
        refine ⟨rfl, yesT ?_⟩
        walk_at "w"
        exact fun H4 s4 => hN _ _ rfl s4
      rw [map_fm, show (ms.map fun z => mT (z, 4 * part)) = (zq (4 * part) ms).map mT from (zq_map mT _ _).symm] at hD
      refine ⟨_, D, (zq (4 * part) ms).map mT, rfl, rfl, .inl (SqL.of hD), by rw [lq, l2']; omega, ?_⟩
      have cb : (r ++ Str.ofString ": ").length + (Txt.join (Str.ofString ", ") ((zq (4 * part) ms).map mT)).length ≤ sizeLine := zLen (by simp only [Str.length_append]; omega)
      walk_at "w"
      subst eJ
      exact ⟨by rw [eT0]; rfl, s1.trans s2⟩
    subst eJ
    rintro σ' H2 ⟨rfl, s2⟩
    obtain ⟨J, eJ⟩ : ∃ J : L2.St → Hp → Prop, J = (fun σ' H' => σ' = [some (.ref p), some (.int part), some (.ref T'), some (.str r), some (optZ lo), some (optZ hi), some (.str T1), none] ∧ Same H H') := ⟨_, rfl⟩
    refine ⟨J, ?_, ?_⟩
    · cases lo with
      | none =>
        walk_at "w"
        subst eJ
        exact ⟨by rw [eT1]; rfl, s2⟩
      | some z =>
        obtain ⟨b0, b1⟩ := bl z rfl
        have lz := mT_l p0 p1 b0 b1
        have ca : T0.length + (Str.ofString " from ").length ≤ sizeLine := zLen (by omega)
        have cb : (T0 ++ Str.ofString " from ").length + (mT (z, 4 * part)).length ≤ sizeLine := zLen (by simp only [Str.length_append]; omega)
        walk_at "w"
        intro H5 s5
        walk_at "w"
        subst eJ
        exact ⟨by rw [eT1]; rfl, s2.trans s5⟩
    subst eJ
    rintro σ' H3 ⟨rfl, s3⟩
    obtain ⟨J, eJ⟩ : ∃ J : L2.St → Hp → Prop, J = (fun σ' H' => σ' = [some (.ref p), some (.int part), some (.ref T'), some (.str r), some (optZ lo), some (optZ hi), some (.str (fT (Str.ofString " to ") (oq (4 * part) hi) T1)), none] ∧ Same H H') := ⟨_, rfl⟩
    refine ⟨J, ?_, ?_⟩
    · cases hi with
      | none =>
        walk_at "w"
        subst eJ
        exact ⟨rfl, s3⟩
      | some z =>
        obtain ⟨b0, b1⟩ := bh z rfl
        have lz := mT_l p0 p1 b0 b1
        have ca : T1.length + (Str.ofString " to ").length ≤ sizeLine := zLen (by omega)
        have cb : (T1 ++ Str.ofString " to ").length + (mT (z, 4 * part)).length ≤ sizeLine := zLen (by simp only [Str.length_append]; omega)
        walk_at "w"
        intro H5 s5
        walk_at "w"
        subst eJ
        exact ⟨rfl, s3.trans s5⟩
    subst eJ
    rintro σ' H4 ⟨rfl, s4⟩
    walk_at "w"
    exact kk _ s4
theorem ok_l_name {P : Program} {w : World} {K : PySem.W.Frag} {mg : Str → Option Value} {base : Heap} {φ : Fds} (T : Txt K mg φ) : FnOk P w K mg base CX0 3 (He.fAd K ("_law_name", none)) φ.l_name p_l_name sp_name16 := by
  obtain ⟨_, B0v, B0⟩ := b_l_named_2 T
  refine T.f_l_name.ok sc_l_name (fun vs H Q E h => ?_) (fun cdv A outer s H vs Q E hr h => ?_)
  · obtain ⟨p, part, ms, r, lo, hi, rfl, hL, kk⟩ := h; rfl
  · obtain ⟨p, part, ms, r, lo, hi, rfl, hL, kk⟩ := h
    refine ⟨_, PSs.nox (pss_cons (ps_cut (ps_asg (pv 0) (pg_tup rfl (pgs_cons (pg_name (i := 1) sc_l_name.nd rfl (Or.inr rfl)) (pgs_cons (pg_name (i := 2) sc_l_name.nd rfl (Or.inl rfl)) (pgs_cons (pg_name (i := 3) sc_l_name.nd rfl (Or.inl rfl)) (pgs_cons (pg_name (i := 4) sc_l_name.nd rfl (Or.inl rfl)) (pgs_cons (pg_name (i := 5) sc_l_name.nd rfl (Or.inl rfl)) pgs_nil))))))))
      (pss_cons (ps_cut (ps_set (i := 6) sc_l_name.nd rfl (Or.inl rfl) (pe_join pe_str (pe_lc (own := [("_law_mark", 8)]) (g := gName 8) rfl sc_l_name.nd (pi_tup (pv 2)) (blkOk_by (own := [("_law_mark", 8)]) (N := N_l_name) (sc := (defScope s_l_name)) (by decide +kernel)) (fun _ _ _ _ _ => (pg_name (i := 8) sc_l_name.nd rfl (Or.inl rfl))) (fun _ _ _ _ _ => pts_nil) (fun _ _ _ _ _ => (pe_call (ok_l_named (K := K) T) (hr.mono (by decide)) rfl T.g_l_named T.f_l_named.kp B0 B0v pass0 (pa_cons (pv 1) (pa_cons (pv 8) pa_nil))))))))
      (pss_cons (ps_cut (ps_if (pt_cmpR op_eq (pe_callB (id := "len") (lenS (K := K)) (by rfl) T.z_len PySem.boot_len (pa_cons (pv 2) pa_nil)) pe_int (nomark _))
      (pss_one (ps_set (i := 6) sc_l_name.nd rfl (Or.inl rfl) (pe_op op_add_str (pv 6) pe_str)))
      pss_nil))
      (pss_cons (ps_cut (ps_set (i := 7) sc_l_name.nd rfl (Or.inl rfl) (pe_join pe_str (pe_lst (pa_cons (pe_call (ok_l_named (K := K) T) (hr.mono (by decide)) rfl T.g_l_named T.f_l_named.kp B0 B0v pass0 (pa_cons (pv 1) (pa_cons (pv 4) pa_nil))) (pa_cons (pe_call (ok_l_named (K := K) T) (hr.mono (by decide)) rfl T.g_l_named T.f_l_named.kp B0 B0v pass0 (pa_cons (pv 1) (pa_cons (pv 5) pa_nil))) pa_nil))))))
      (pss_one (ps_ret (pe_op op_add_str (pe_op op_add_str (pe_op op_add_str (pe_op op_add_str (pe_op op_add_str (pe_op op_add_str pe_str (pv 6)) pe_str) (pv 3)) pe_str) (pv 7)) pe_str))))))), ?_⟩
    obtain ⟨⟨T', hp, hT⟩, p0, p1, l0, l1, ri, fo, bn, bl, bh, ru, sp⟩ := id hL
    have lm : (ms.map V.int).length = ms.length := List.length_map ..
    obtain ⟨rl, _⟩ := rule_len ru
    have lall : ∀ y ∈ (zq (4 * part) ms).map mR, y.length ≤ 10000 := fun y hy => by
      rw [zq_map] at hy
      obtain ⟨z, hz, rfl⟩ := List.mem_map.mp hy
      exact oR_l (o := some z) p0 p1 fun w e => by cases e; exact bn z hz
    have lq : ((zq (4 * part) ms).map mR).length = ms.length := by rw [List.length_map, zq_len]
    have ls := sum_le _ lall
    rw [lq] at ls
    have l2' : (Str.ofString ", ").length = 2 := rfl
    have jl := join_len ", " ((zq (4 * part) ms).map mR)
    rw [lq, l2'] at jl
    have l3' : (Str.ofString ",").length = 1 := rfl
    have l4' : (Str.ofString "Ladder((").length = 8 := rfl
    have l5' : (Str.ofString "), '").length = 4 := rfl
    have l6' : (Str.ofString "', ").length = 3 := rfl
    have l7' : (Str.ofString ")").length = 1 := rfl
    have o1 := oR_l p0 p1 bl
    have o2 := oR_l p0 p1 bh
    have je := join_len ", " [oR (oq (4 * part) lo), oR (oq (4 * part) hi)]
    have je : (Txt.join ", " [oR (oq (4 * part) lo), oR (oq (4 * part) hi)]).length ≤ 30000 := by
      refine Nat.le_trans je ?_
      show (oR (oq (4 * part) lo)).length + ((oR (oq (4 * part) hi)).length + 0) + 2 * 2 ≤ 30000
      omega
    have kk : ∀ H', Same H H' → Q (.str (Str.ofString "Ladder((" ++ (if ms.length = 1 then Txt.join ", " ((zq (4 * part) ms).map mR) ++ Str.ofString "," else Txt.join ", " ((zq (4 * part) ms).map mR)) ++ Str.ofString "), '" ++ r ++ Str.ofString "', " ++ Txt.join ", " [oR (oq (4 * part) lo), oR (oq (4 * part) hi)] ++ Str.ofString ")")) H' := fun H' s => by
      have h := kk H' s
      rw [lRep_eq ru, zq_len] at h
      exact h
    obtain ⟨R0, eR0⟩ : ∃ R0 : Str, R0 = Txt.join ", " ((zq (4 * part) ms).map mR) := ⟨_, rfl⟩
    rw [← eR0] at kk jl
    obtain ⟨R1, eR1⟩ : ∃ R1 : Str, R1 = if ms.length = 1 then R0 ++ Str.ofString "," else R0 := ⟨_, rfl⟩
    have lR1 : R1.length ≤ 300000 := by
      rw [eR1]
      split
      · simp only [Str.length_append]; omega
      · omega
    rw [← eR1] at kk
    obtain ⟨E0', eE0⟩ : ∃ E0' : Str, E0' = Txt.join ", " [oR (oq (4 * part) lo), oR (oq (4 * part) hi)] := ⟨_, rfl⟩
    rw [← eE0] at kk je
    
    obtain ⟨J, eJ⟩ : ∃ J : L2.St → Hp → Prop, J = (fun σ' H' => σ' = [some (.ref p), some (.int part), some (.ref T'), some (.str r), some (optZ lo), some (optZ hi), none, none, none] ∧ Same H H') := ⟨_, rfl⟩
    refine ⟨J, ?_, ?_⟩
    · walk_at "w"
      subst eJ
      exact ⟨rfl, Same.refl _⟩
    subst eJ
    rintro σ' H1 ⟨rfl, s1⟩
    obtain ⟨J, eJ⟩ : ∃ J : L2.St → Hp → Prop, J = (fun σ' H' => σ' = [some (.ref p), some (.int part), some (.ref T'), some (.str r), some (optZ lo), some (optZ hi), some (.str R0), none, none] ∧ Same H H') := ⟨_, rfl⟩
    refine ⟨J, ?_, ?_⟩
    · replace hT := s1 _ _ hT
      refine ⟨⟨_, rfl⟩, ?_⟩
      walk_at "w"
      intro D nD
      refine lcz (n := (ms.map V.int).length) walk_tup (fun _ _ g s => s.sqt g) (ms.map fun z => some (V.str (mR (z, 4 * part)))) (by rw [List.length_map, lm]) (szs (by omega)) (SqT.of hT) nD (fun i x H2 H3 z N M hi' ez s2 yy hN hM => ?_) (fun H2 s2 hD => ?_)
      · obtain ⟨rfl, hx⟩ := yy
        rw [List.getElem?_map] at hx ez
        obtain ⟨m, hm⟩ := geI (zs := ms) (n := i) (by omega)
        rw [hm] at hx ez
        cases hx
        cases ez
        have bz := bn m (List.mem_of_getElem? hm)
        refine ⟨rfl, yesT ?_⟩
        walk_at "w"
        exact ⟨some m, rfl, p0, p1, (fun w e => by cases e; exact bz), fun H4 s4 => hN _ _ rfl s4⟩
      rw [map_fm, show (ms.map fun z => mR (z, 4 * part)) = (zq (4 * part) ms).map mR from (zq_map mR _ _).symm] at hD
      refine ⟨_, D, (zq (4 * part) ms).map mR, rfl, rfl, .inl (SqL.of hD), by rw [lq, l2']; omega, ?_⟩
      walk_at "w"
      subst eJ
      exact ⟨by rw [eR0]; rfl, s1.trans s2⟩
    subst eJ
    rintro σ' H2 ⟨rfl, s2⟩
    obtain ⟨J, eJ⟩ : ∃ J : L2.St → Hp → Prop, J = (fun σ' H' => σ' = [some (.ref p), some (.int part), some (.ref T'), some (.str r), some (optZ lo), some (optZ hi), some (.str R1), none, none] ∧ Same H H') := ⟨_, rfl⟩
    refine ⟨J, ?_, ?_⟩
    · replace hT := s2 _ _ hT
      have ca : R0.length + (Str.ofString ",").length ≤ sizeLine := zLen (by omega)
      walk_at "w"
      rw [lm]
      refine ite2 (fun e1 => ?_) (fun e1 => ?_)
      · have e1 : ms.length = 1 := by simp at e1; omega
        rw [if_pos e1] at eR1
        walk_at "w"
        subst eJ
        exact ⟨by rw [eR1]; rfl, s2⟩
      · have e1 : ¬ ms.length = 1 := fun q => e1 (by rw [q]; exact decide_eq_true rfl)
        rw [if_neg e1] at eR1
        walk_at "w"
        subst eJ
        exact ⟨by rw [eR1], s2⟩
    subst eJ
    rintro σ' H3 ⟨rfl, s3⟩
    obtain ⟨J, eJ⟩ : ∃ J : L2.St → Hp → Prop, J = (fun σ' H' => σ' = [some (.ref p), some (.int part), some (.ref T'), some (.str r), some (optZ lo), some (optZ hi), some (.str R1), some (.str E0'), none] ∧ Same H H') := ⟨_, rfl⟩
    refine ⟨J, ?_, ?_⟩
    · refine ⟨⟨_, rfl⟩, ?_⟩
      walk_at "w"
      refine ⟨lo, rfl, p0, p1, bl, fun H4 s4 => ?_⟩
      walk_at "w"
      refine ⟨hi, rfl, p0, p1, bh, fun H5 s5 => ?_⟩
      walk_at "w"
      intro D nD
      refine ⟨_, D, [oR (oq (4 * part) lo), oR (oq (4 * part) hi)], rfl, rfl, .inl (SqL.of upd_same), ?_, ?_⟩
      · show (oR (oq (4 * part) lo)).length + ((oR (oq (4 * part) hi)).length + 0) + 2 * 2 ≤ 16777216
        omega
      walk_at "w"
      subst eJ
      exact ⟨by rw [eE0]; rfl, ((s3.trans s4).trans s5).up nD⟩
    subst eJ
    rintro σ' H4 ⟨rfl, s4⟩
    have c1 : (Str.ofString "Ladder((").length + R1.length ≤ sizeLine := zLen (by omega)
    have c2 : (Str.ofString "Ladder((" ++ R1).length + (Str.ofString "), '").length ≤ sizeLine := zLen (by simp only [Str.length_append]; omega)
    have c3 : (Str.ofString "Ladder((" ++ R1 ++ Str.ofString "), '").length + r.length ≤ sizeLine := zLen (by simp only [Str.length_append]; omega)
    have c4 : (Str.ofString "Ladder((" ++ R1 ++ Str.ofString "), '" ++ r).length + (Str.ofString "', ").length ≤ sizeLine := zLen (by simp only [Str.length_append]; omega)
    have c5 : (Str.ofString "Ladder((" ++ R1 ++ Str.ofString "), '" ++ r ++ Str.ofString "', ").length + E0'.length ≤ sizeLine := zLen (by simp only [Str.length_append]; omega)
    have c6 : (Str.ofString "Ladder((" ++ R1 ++ Str.ofString "), '" ++ r ++ Str.ofString "', " ++ E0').length + (Str.ofString ")").length ≤ sizeLine := zLen (by simp only [Str.length_append]; omega)
    walk_at "w"
    exact kk _ s4
theorem ok_l_near {P : Program} {w : World} {K : PySem.W.Frag} {mg : Str → Option Value} {base : Heap} {φ : Fds} (T : Txt K mg φ) : FnOk P w K mg base CX0 3 (He.fAd K ("_law_near", none)) φ.l_near p_l_near (sp_near16 K) := by
  obtain ⟨_, B0v, B0⟩ := b_l_take_2 T
  obtain ⟨_, B1v, B1⟩ := b_l_of_2 T
  refine T.f_l_near.ok sc_l_near (fun vs H Q E h => ?_) (fun cdv A outer s H vs Q E hr h => ?_)
  · obtain ⟨h, l, n, ms, A', B, rfl, hh, hn, hl, ne, l0, l1, hA, hB, hb, k⟩ := h; rfl
  · obtain ⟨h, l, n, ms, A', B, rfl, hh, hn, hl, ne, l0, l1, hA, hB, hb, k⟩ := h
    refine ⟨_, PSs.nox (pss_cons (ps_set (i := 2) sc_l_near.nd rfl (Or.inl rfl) (pe_call (ok_l_take (K := K) T) (hr.mono (by decide)) rfl T.g_l_take T.f_l_take.kp B0 B0v pass0 (pa_cons (pv 0) (pa_cons (pe_callB (id := "len") (lenS (K := K)) (by rfl) T.z_len PySem.boot_len (pa_cons (pv 1) pa_nil)) pa_nil))))
      (pss_cons (ps_set (i := 3) sc_l_near.nd rfl (Or.inl rfl) (pe_ix (ixs (K := K)) (pv 1) (pe_callB (id := "max") (call_max2 rfl) (by rfl) T.z_max (by decide +kernel) (pa_cons pe_int (pa_cons (pe_op op_sub (pv 2) pe_int) pa_nil))) (fun _ _ => rfl)))
      (pss_cons (ps_set (i := 4) sc_l_near.nd rfl (Or.inl rfl) (pe_call (ok_l_of (K := K) T) (hr.mono (by decide)) rfl T.g_l_of T.f_l_of.kp B1 B1v pass0 (pa_cons (pv 0) (pa_cons (pe_lst (pa_cons (pe_ix (ixs (K := K)) (pv 1) (pv 2) (fun _ _ => rfl)) (pa_cons (pe_op op_fd (pe_op op_add (pe_ix (ixs (K := K)) (pv 1) (pv 2) (fun _ _ => rfl)) (pv 3)) pe_int) (pa_cons (pe_ix (ixs (K := K)) (pv 1) pe_int (fun _ _ => rfl)) (pa_cons (pe_ix (ixs (K := K)) (pv 1) (pe_un un_neg pe_int) (fun _ _ => rfl)) pa_nil))))) pa_nil))))
      (pss_one (ps_ret (pe_op op_add (pv 4) (pe_call (ok_l_of (K := K) T) (hr.mono (by decide)) rfl T.g_l_of T.f_l_of.kp B1 B1v pass0 (pa_cons (pv 0) (pa_cons (pe_lst (pa_cons pe_int (pa_cons pe_int (pa_cons pe_int (pa_cons pe_int (pa_cons (pe_un un_neg pe_int) (pa_cons pe_int (pa_cons (pe_un un_neg pe_int) (pa_cons pe_int pa_nil))))))))) pa_nil))))))))), ?_⟩
    have lm : (ms.map V.int).length = ms.length := List.length_map ..
    walk_at "w"
    intro d H1 d0 d1 hh1 k1
    obtain ⟨j, rfl⟩ := Int.eq_ofNat_of_zero_le d0
    have hl1 := sq_kp k1 hh ne hl
    obtain ⟨a, ha⟩ := geI (zs := ms) (n := j) (by omega)
    obtain ⟨b, hb'⟩ := geI (zs := ms) (n := j - 1) (by omega)
    obtain ⟨c, hc⟩ := geI (zs := ms) (n := 0) (by omega)
    obtain ⟨e, he⟩ := geI (zs := ms) (n := ms.length - 1) (by omega)
    have ba := hb a (List.mem_of_getElem? ha)
    have bb := hb b (List.mem_of_getElem? hb')
    have bc := hb c (List.mem_of_getElem? hc)
    have be := hb e (List.mem_of_getElem? he)
    replace ha := mapI ha
    replace hb' := mapI hb'
    replace hc := mapI hc
    replace he := mapI he
    walk_at "w"
    refine ⟨atI_of (n := j - 1) (by split <;> omega) hb', ?_⟩
    walk_at "w"
    refine ⟨⟨by decide, by decide +kernel⟩, ?_⟩
    walk_at "w"
    refine ⟨atI_end (n := ms.length - 1) (by omega) he, ?_⟩
    walk_at "w"
    intro p np
    have hh2 := hh1.up (u := .lst [.int a, .int ((a + b).fdiv 2), .int c, .int e]) np
    refine ⟨h, p, n + 1, _, rfl, hh2, by omega, SqL.of upd_same, hh1.ne np, Nat.le_of_ble_eq_true rfl, Nat.le_of_ble_eq_true rfl, fun i x H2 hx hh3 k3 => ?_⟩
    have fd : (a + b).fdiv 2 = (a + b) / 2 := Int.fdiv_eq_ediv_of_nonneg _ (by decide)
    have hz : ∃ z : Int, x = .int z ∧ A' ≤ z ∧ z ≤ B := by
      have hm := List.mem_of_getElem? hx
      simp at hm
      rcases hm with rfl | rfl | rfl | rfl
      · exact ⟨_, rfl, ba⟩
      · exact ⟨_, rfl, by rw [fd]; omega, by rw [fd]; omega⟩
      · exact ⟨_, rfl, bc⟩
      · exact ⟨_, rfl, be⟩
    obtain ⟨z, rfl, z0, z1⟩ := hz
    walk_at "w"
    intro p2 np2
    have hh4 := hh3.up (u := .lst [.int 0, .int 0, .int 0, .int 1, .int (-1), .int 2, .int (-3), .int 40]) np2
    refine ⟨h, p2, n + 1 + 1, _, rfl, hh4, by omega, SqL.of upd_same, hh3.ne np2, by decide, by decide, fun i x H3 hx hh5 k5 => ?_⟩
    have hy : ∃ y : Int, x = .int y ∧ -3 ≤ y ∧ y ≤ 40 := by
      have hm := List.mem_of_getElem? hx
      simp at hm
      rcases hm with rfl | rfl | rfl | rfl | rfl | rfl <;> exact ⟨_, rfl, by decide, by decide⟩
    obtain ⟨y, rfl, y0, y1⟩ := hy
    walk_at "w"
    exact k _ _ (by omega) (by omega) hh5 (((k1.up np).trans (k3.up np2)).trans k5)
theorem ok_l_ladder {P : Program} {w : World} {K : PySem.W.Frag} {mg : Str → Option Value} {base : Heap} {φ : Fds} (T : Txt K mg φ) : FnOk P w K mg base CX0 4 (He.fAd K ("_law_ladder", none)) φ.l_ladder p_l_ladder sp_lad16 := by
  obtain ⟨_, B0v, B0⟩ := b_l_of_2 T
  obtain ⟨_, B1v, B1⟩ := b_l_take_2 T
  obtain ⟨_, B2v, B2⟩ := b_l_near_2 T
  refine T.f_l_ladder.ok sc_l_ladder (fun vs H Q E h => ?_) (fun cdv A outer s H vs Q E hr h => ?_)
  · obtain ⟨h, n, rfl, hh, hn, k⟩ := h; rfl
  · obtain ⟨h, n, rfl, hh, hn, k⟩ := h
    refine ⟨_, PSs.nox (pss_cons (ps_par3 (i := 1) (j := 2) (l := 3) rfl sc_l_ladder.nd rfl rfl rfl (by decide) (by decide) (by decide) rfl rfl rfl (pa_cons (pe_call (ok_l_of (K := K) T) (hr.mono (by decide)) rfl T.g_l_of T.f_l_of.kp B0 B0v pass0 (pa_cons (pv 0) (pa_cons (pe_lst (pa_cons pe_str (pa_cons pe_str (pa_cons pe_str pa_nil)))) pa_nil))) (pa_cons (pe_call (ok_l_take (K := K) T) (hr.mono (by decide)) rfl T.g_l_take T.f_l_take.kp B1 B1v pass0 (pa_cons (pv 0) (pa_cons pe_int pa_nil))) (pa_cons (pe_call (ok_l_of (K := K) T) (hr.mono (by decide)) rfl T.g_l_of T.f_l_of.kp B0 B0v pass0 (pa_cons (pv 0) (pa_cons (pe_lst (pa_cons pe_int (pa_cons pe_int (pa_cons pe_int (pa_cons pe_int (pa_cons pe_int pa_nil)))))) pa_nil))) pa_nil))) (by rfl))
      (pss_cons (ps_set (i := 4) sc_l_ladder.nd rfl (Or.inl rfl) (pe_call (ok_l_of (K := K) T) (hr.mono (by decide)) rfl T.g_l_of T.f_l_of.kp B0 B0v pass0 (pa_cons (pv 0) (pa_cons (pe_lst (pa_cons pe_int (pa_cons pe_int (pa_cons pe_int (pa_cons pe_int (pa_cons pe_int (pa_cons pe_int pa_nil))))))) pa_nil))))
      (pss_cons (ps_set (i := 5) sc_l_ladder.nd rfl (Or.inl rfl) (pe_call (ok_l_of (K := K) T) (hr.mono (by decide)) rfl T.g_l_of T.f_l_of.kp B0 B0v pass0 (pa_cons (pv 0) (pa_cons (pe_lst (pa_cons pe_int (pa_cons pe_int (pa_cons pe_int (pa_cons (pe_op op_mulA pe_int (pv 3)) pa_nil))))) pa_nil))))
      (pss_cons (ps_par (i := 6) (j := 7) rfl sc_l_ladder.nd rfl rfl (by decide) rfl rfl (pa_cons (pe_op op_sub (pe_call (ok_l_take (K := K) T) (hr.mono (by decide)) rfl T.g_l_take T.f_l_take.kp B1 B1v pass0 (pa_cons (pv 0) (pa_cons (pe_op op_add (pe_op op_mulA pe_int (pv 3)) pe_int) pa_nil))) (pe_op op_mulA pe_int (pv 3))) (pa_cons (pe_lst pa_nil) pa_nil)) (by rfl))
      (pss_cons (ps_for PassesOwn.never rfl (pi_range1 rfl T.z_range (pa_cons (pv 4) pa_nil)) (pg_name (i := 8) sc_l_ladder.nd rfl (Or.inl rfl))
      (pss_cons (ps_expr (pe_bm PySem.F.plainAttrs_list PySem.F.slot_list_append PySem.F.type_list_append mt_append (pv 7) (pa_cons (pe_op op_mulA pe_int (pv 6)) pa_nil)))
      (pss_one (ps_set (i := 6) sc_l_ladder.nd rfl (Or.inl rfl) (pe_op op_add (pe_op op_add (pv 6) pe_int) (pe_call (ok_l_take (K := K) T) (hr.mono (by decide)) rfl T.g_l_take T.f_l_take.kp B1 B1v pass0 (pa_cons (pv 0) (pa_cons (pv 5) pa_nil))))))))
      (pss_cons (ps_par (i := 9) (j := 10) rfl sc_l_ladder.nd rfl rfl (by decide) rfl rfl (pa_cons (pe_call (ok_l_near (K := K) T) (hr.mono (by decide)) rfl T.g_l_near T.f_l_near.kp B2 B2v pass0 (pa_cons (pv 0) (pa_cons (pv 7) pa_nil))) (pa_cons (pe_call (ok_l_near (K := K) T) (hr.mono (by decide)) rfl T.g_l_near T.f_l_near.kp B2 B2v pass0 (pa_cons (pv 0) (pa_cons (pv 7) pa_nil))) pa_nil)) (by rfl))
      (pss_cons (ps_set (i := 11) sc_l_ladder.nd rfl (Or.inl rfl) (pe_ix (ixl (K := K)) (pe_lst (pa_cons pe_non (pa_cons pe_non (pa_cons (pe_callB (id := "min") (call_min2 rfl) (by rfl) T.z_min (by decide +kernel) (pa_cons (pv 9) (pa_cons (pv 10) pa_nil))) (pa_cons (pe_callB (id := "min") (call_min2 rfl) (by rfl) T.z_min (by decide +kernel) (pa_cons (pv 9) (pa_cons (pv 10) pa_nil))) (pa_cons (pv 9) pa_nil)))))) (pv 2) (fun _ _ => rfl)))
      (pss_cons (ps_set (i := 12) sc_l_ladder.nd rfl (Or.inl rfl) (pe_ix (ixl (K := K)) (pe_lst (pa_cons pe_non (pa_cons (pe_callB (id := "max") (call_max2 rfl) (by rfl) T.z_max (by decide +kernel) (pa_cons (pv 9) (pa_cons (pv 10) pa_nil))) (pa_cons pe_non (pa_cons (pe_callB (id := "max") (call_max2 rfl) (by rfl) T.z_max (by decide +kernel) (pa_cons (pv 9) (pa_cons (pv 10) pa_nil))) (pa_cons (pv 9) pa_nil)))))) (pv 2) (fun _ _ => rfl)))
      (pss_one (ps_ret (pe_tup (pa_cons (pv 3) (pa_cons (pe_callTy (T := "tuple") (tupleL (K := K)) (by rfl) T.z_tuple (by decide +kernel) (pa_cons (pv 7) pa_nil)) (pa_cons (pv 1) (pa_cons (pv 11) (pa_cons (pv 12) pa_nil)))))))))))))))), ?_⟩
    walk_at "w"
    intro p1 np1
    refine ⟨h, p1, n, _, rfl, hh.up np1, by omega, SqL.of upd_same, hh.ne np1, by decide, by decide, fun i1 vr H1 hr1 hh1 k1 => ?_⟩
    have hru : ∃ r : Str, vr = .str r ∧ IsRule r := by
      have hm := List.mem_of_getElem? hr1
      simp at hm
      rcases hm with rfl | rfl | rfl
      · exact ⟨_, rfl, .inl rfl⟩
      · exact ⟨_, rfl, .inr (.inl rfl)⟩
      · exact ⟨_, rfl, .inr (.inr rfl)⟩
    obtain ⟨r, rfl, hru⟩ := hru
    walk_at "w"
    intro en H2 en0 en1 hh2 k2
    walk_at "w"
    intro p2 np2
    refine ⟨h, p2, _, _, rfl, hh2.up np2, by omega, SqL.of upd_same, hh2.ne np2, by decide, by decide, fun i2 vp H3 hr2 hh3 k3 => ?_⟩
    have hpa : ∃ part : Int, vp = .int part ∧ 0 < part ∧ part ≤ 10007 := by
      have hm := List.mem_of_getElem? hr2
      simp at hm
      rcases hm with rfl | rfl | rfl | rfl | rfl <;> exact ⟨_, rfl, by decide, by decide⟩
    obtain ⟨part, rfl, pa0, pa1⟩ := hpa
    walk_at "w"
    intro p3 np3
    refine ⟨h, p3, _, _, rfl, hh3.up np3, by omega, SqL.of upd_same, hh3.ne np3, by decide, by decide, fun i3 vm H4 hr3 hh4 k4 => ?_⟩
    have hma : ∃ many : Nat, vm = .int many ∧ 0 < many ∧ many ≤ 24 := by
      have hm := List.mem_of_getElem? hr3
      simp at hm
      rcases hm with rfl | rfl | rfl | rfl | rfl | rfl
      · exact ⟨1, rfl, by decide, by decide⟩
      · exact ⟨2, rfl, by decide, by decide⟩
      · exact ⟨3, rfl, by decide, by decide⟩
      · exact ⟨5, rfl, by decide, by decide⟩
      · exact ⟨8, rfl, by decide, by decide⟩
      · exact ⟨24, rfl, by decide, by decide⟩
    obtain ⟨many, rfl, ma0, ma1⟩ := hma
    walk_at "w"
    intro p4 np4
    refine ⟨h, p4, _, _, rfl, hh4.up np4, by omega, SqL.of upd_same, hh4.ne np4, Nat.le_of_ble_eq_true rfl, Nat.le_of_ble_eq_true rfl, fun i4 vw H5 hr4 hh5 k5 => ?_⟩
    have hwi : ∃ wd : Int, vw = .int wd ∧ 0 < wd ∧ wd ≤ 3 * part + 7 := by
      have hm := List.mem_of_getElem? hr4
      simp at hm
      rcases hm with rfl | rfl | rfl | rfl
      · exact ⟨_, rfl, by omega, by omega⟩
      · exact ⟨_, rfl, by omega, by omega⟩
      · exact ⟨_, rfl, by omega, by omega⟩
      · exact ⟨_, rfl, by omega, by omega⟩
    obtain ⟨wd, rfl, wd0, wd1⟩ := hwi
    clear hr1 hr2 hr3 hr4
    walk_at "w"
    intro d H6 d0 d1 hh6 k6
    walk_at "w"
    intro l nl
    have kA : Kp h H (upd H6 l (.lst [])) := (((((((((Kp.refl h H).up np1).trans k1).trans (k2.up np2)).trans (k3.up np3)).trans (k4.up np4)).trans k5).trans k6)).up nl
    have hhA := hh6.up (u := .lst []) nl
    have nlh := hh6.ne nl
    have hlA : upd H6 l (.lst []) l = some (.lst []) := upd_same
    have nlH : H l = none := (((((((((Kp.refl h H).up np1).trans k1).trans (k2.up np2)).trans (k3.up np3)).trans (k4.up np4)).trans k5).trans k6)).fresh nl nlh
    generalize upd H6 l (.lst []) = HA at *
    clear hh hh1 hh2 hh3 hh4 hh5 hh6 k1 k2 k3 k4 k5 k6 np1 np2 np3 np4 nl
    walk_at "w"
    refine for_range (fun i σ H' => ∃ (mk : Int) (ms : List Int) (vk : Option V), σ = [some (.ref h), some (.str r), some (.int en), some (.int part), some (.int many), some (.int wd), some (.int mk), some (.ref l), vk, none, none, none, none] ∧ H' l = some (.lst (ms.map V.int)) ∧ ms.length = i ∧ HandAt H' h (n + 6 + i) ∧ Kp h H H' ∧
      -60042 ≤ mk ∧ mk ≤ 60042 + i * 30028 ∧ (∀ m ∈ ms, m % 4 = 0 ∧ -240168 ≤ m ∧ m < 4 * mk) ∧ ∀ (i : Nat) (a b : Int), ms[i]? = some a → ms[i + 1]? = some b → a < b) ?_ ?_ ?_
    · exact ⟨_, [], _, rfl, hlA, rfl, hhA, kA, by omega, by omega, fun m hm => by simp at hm, fun i a b hx => by simp at hx⟩
    · rintro i σ H7 hi ⟨mk, ms, vk, rfl, hl, lms, hh7, k7, b0, b1, hms, hri⟩
      have lm : (ms.map V.int).length = ms.length := List.length_map ..
      walk_at "w"
      refine ⟨hh7.put nlh, by omega, wd0, logS (by omega), fun t H9 t0 t1 hh9 k9 => ?_⟩
      have hl9 := k9 _ _ upd_same nlh
      rw [map_snoc] at hl9
      walk_at "w"
      refine ⟨ms ++ [4 * mk], _, rfl, hl9, by rw [List.length_append, lms]; rfl, hh9, (k7.putN nlH).trans k9, by omega, by omega, fun m hm => ?_, rise_snoc hri fun m hm => (hms m hm).2.2⟩
      rcases List.mem_append.mp hm with hm | hm
      · have := hms m hm
        omega
      · have : m = 4 * mk := by simpa using hm
        omega
    rintro σ H7 ⟨mk, ms, vk, rfl, hl, lms, hh7, k7, b0, b1, hms, hri⟩
    have lm : (ms.map V.int).length = ms.length := List.length_map ..
    have bnd : ∀ m ∈ ms, -4000000 ≤ m ∧ m ≤ 4000000 := fun m hm => by
      have := hms m hm
      omega
    walk_at "w"
    obtain ⟨m0, hm0⟩ := geI (zs := ms) (n := 0) (by omega)
    obtain ⟨ml, hml⟩ := geI (zs := ms) (n := ms.length - 1) (by omega)
    have bnd2 := rise_bnd hri hm0 hml
    have bm0 := bnd m0 (List.mem_of_getElem? hm0)
    have bml := bnd ml (List.mem_of_getElem? hml)
    refine ⟨ms, m0, ml, rfl, hh7, by omega, .inl (SqL.of hl), nlh, by omega, by omega, by omega, by omega, bnd2, fun a H8 a0 a1 hh8 k8 => ?_⟩
    have hl8 := k8 _ _ hl nlh
    walk_at "w"
    refine ⟨ms, m0, ml, rfl, hh8, by omega, .inl (SqL.of hl8), nlh, by omega, by omega, by omega, by omega, bnd2, fun b H9 b0' b1' hh9 k9 => ?_⟩
    have hl9 := k9 _ _ hl8 nlh
    walk_at "w"
    intro p5 np5
    have hlo : ∃ lo hi : Option Int, atI [V.non, V.non, V.int (if b < a then b else a), V.int (if b < a then b else a), V.int a] en = some (optZ lo) ∧ atI [V.non, V.int (if b > a then b else a), V.non, V.int (if b > a then b else a), V.int a] en = some (optZ hi) ∧
        (∀ z, lo = some z → m0 - 3 ≤ z ∧ z ≤ ml + 40) ∧ (∀ z, hi = some z → m0 - 3 ≤ z ∧ z ≤ ml + 40) ∧ ∀ x y, lo = some x → hi = some y → x ≤ y := by
      obtain rfl | rfl | rfl | rfl | rfl : en = 0 ∨ en = 1 ∨ en = 2 ∨ en = 3 ∨ en = 4 := by omega
      · exact ⟨none, none, rfl, rfl, (fun z e => nomatch e), (fun z e => nomatch e), (fun x y e => nomatch e)⟩
      · exact ⟨none, some _, rfl, rfl, (fun z e => nomatch e), (fun z e => by cases e; split <;> omega), (fun x y e => nomatch e)⟩
      · exact ⟨some _, none, rfl, rfl, (fun z e => by cases e; split <;> omega), (fun z e => nomatch e), (fun x y _ e => nomatch e)⟩
      · exact ⟨some _, some _, rfl, rfl, (fun z e => by cases e; split <;> omega), (fun z e => by cases e; split <;> omega), fun x y e f => by cases e; cases f; split <;> split <;> omega⟩
      · exact ⟨some a, some a, rfl, rfl, (fun z e => by cases e; omega), (fun z e => by cases e; omega), fun x y e f => by cases e; cases f; omega⟩
    obtain ⟨lo, hi, e1, e2, bl, bh, sp⟩ := hlo
    refine ⟨_, rfl, p5, _, _, _, rfl, rfl, SqL.of upd_same, e1, ?_⟩
    walk_at "w"
    intro p6 np6
    refine ⟨_, rfl, p6, _, _, _, rfl, rfl, SqL.of upd_same, e2, ?_⟩
    have hl10 := up1 (u := .lst [V.non, V.int (if b > a then b else a), V.non, V.int (if b > a then b else a), V.int a]) np6 (up1 (u := .lst [V.non, V.non, V.int (if b < a then b else a), V.int (if b < a then b else a), V.int a]) np5 hl9)
    walk_at "w"
    intro T2 nT2
    walk_at "w"
    intro p7 np7
    refine k p7 part ms r lo hi _ ⟨m0, ml, hm0, hml, bl, bh⟩ ⟨⟨T2, upd_same, up1 np7 upd_same⟩, pa0, pa1, by omega, by omega, hri, fun m hm => (hms m hm).1, bnd, (fun z e => by have := bl z e; omega), (fun z e => by have := bh z e; omega), hru, sp⟩ ((((hh9.up np5).up np6).up nT2).up np7 |>.mono (by omega)) (((((k7.trans k8).trans k9).up np5).up np6).up nT2 |>.up np7)
theorem ok_l_others {P : Program} {w : World} {K : PySem.W.Frag} {mg : Str → Option Value} {base : Heap} {φ : Fds} (T : Txt K mg φ) : FnOk P w K mg base CX0 2 (He.fAd K ("_law_others", none)) φ.l_others p_l_others sp_others16 := by
  obtain ⟨_, B0v, B0⟩ := b_l_take_2 T
  refine T.f_l_others.ok sc_l_others (fun vs H Q E h => ?_) (fun cdv A outer s H vs Q E hr h => ?_)
  · obtain ⟨h, p, n, part, ms, r, lo, hi, rfl, hh, hn, hL, eb, kk⟩ := h; rfl
  · obtain ⟨h, p, n, part, ms, r, lo, hi, rfl, hh, hn, hL, eb, kk⟩ := h
    refine ⟨_, PSs.nox (pss_cons (ps_cut (ps_asg (pv 1) (pg_tup rfl (pgs_cons (pg_name (i := 2) sc_l_others.nd rfl (Or.inr rfl)) (pgs_cons (pg_name (i := 3) sc_l_others.nd rfl (Or.inr rfl)) (pgs_cons (pg_name (i := 4) sc_l_others.nd rfl (Or.inr rfl)) (pgs_cons (pg_name (i := 5) sc_l_others.nd rfl (Or.inr rfl)) (pgs_cons (pg_name (i := 6) sc_l_others.nd rfl (Or.inr rfl)) pgs_nil))))))))
      (pss_cons (ps_cut (ps_set (i := 7) sc_l_others.nd rfl (Or.inl rfl) (pe_call (ok_l_take (K := K) T) (hr.mono (by decide)) rfl T.g_l_take T.f_l_take.kp B0 B0v pass0 (pa_cons (pv 0) (pa_cons (pe_callB (id := "len") (lenS (K := K)) (by rfl) T.z_len PySem.boot_len (pa_cons (pv 3) pa_nil)) pa_nil)))))
      (pss_cons (ps_cut (ps_set (i := 8) sc_l_others.nd rfl (Or.inl rfl) (pe_lst (pa_cons (pe_tup (pa_cons (pv 2) (pa_cons (pe_op catH (pe_op catH (pe_slice slH (pv 3) po_none (po_some (pv 7))) (pe_tup (pa_cons (pe_op op_add (pe_ix (ixt (K := K)) (pv 3) (pv 7) (fun _ _ => rfl)) pe_int) pa_nil))) (pe_slice slH (pv 3) (po_some (pe_op op_add (pv 7) pe_int)) po_none)) (pa_cons (pv 4) (pa_cons (pv 5) (pa_cons (pv 6) pa_nil)))))) pa_nil))))
      (pss_cons (ps_cut (ps_set (i := 8) sc_l_others.nd rfl (Or.inl rfl) (pe_op op_cat (pv 8) (pe_lc (own := [("_law_other", 11)]) (g := gName 11) rfl sc_l_others.nd (pi_tup (pe_tup (pa_cons pe_str (pa_cons pe_str (pa_cons pe_str pa_nil))))) (blkOk_by (own := [("_law_other", 11)]) (N := N_l_others) (sc := (defScope s_l_others)) (by decide +kernel)) (fun _ _ _ _ _ => (pg_name (i := 11) sc_l_others.nd rfl (Or.inl rfl))) (fun _ _ _ _ _ => (pts_one (pt_cmpR op_ne (pv 11) (pv 4) (nomark _)))) (fun _ _ _ _ _ => (pe_tup (pa_cons (pv 2) (pa_cons (pv 3) (pa_cons (pv 11) (pa_cons (pv 5) (pa_cons (pv 6) pa_nil)))))))))))
      (pss_cons (ps_cut (ps_if (pt_cmpR op_gt (pe_callB (id := "len") (lenS (K := K)) (by rfl) T.z_len PySem.boot_len (pa_cons (pv 3) pa_nil)) pe_int (nomark _))
      (pss_cons (ps_expr (pe_bm PySem.F.plainAttrs_list PySem.F.slot_list_append PySem.F.type_list_append mt_append (pv 8) (pa_cons (pe_tup (pa_cons (pv 2) (pa_cons (pe_slice slH (pv 3) po_none (po_some (pe_un un_neg pe_int))) (pa_cons (pv 4) (pa_cons (pv 5) (pa_cons (pv 6) pa_nil)))))) pa_nil)))
      (pss_one (ps_expr (pe_bm PySem.F.plainAttrs_list PySem.F.slot_list_append PySem.F.type_list_append mt_append (pv 8) (pa_cons (pe_tup (pa_cons (pv 2) (pa_cons (pe_slice slH (pv 3) (po_some pe_int) po_none) (pa_cons (pv 4) (pa_cons (pv 5) (pa_cons (pv 6) pa_nil)))))) pa_nil)))))
      (pss_one (ps_expr (pe_bm PySem.F.plainAttrs_list PySem.F.slot_list_append PySem.F.type_list_append mt_append (pv 8) (pa_cons (pe_tup (pa_cons (pv 2) (pa_cons (pe_op catH (pv 3) (pe_tup (pa_cons (pe_op op_add (pe_ix (ixt (K := K)) (pv 3) pe_int (fun _ _ => rfl)) pe_int) pa_nil))) (pa_cons (pv 4) (pa_cons (pv 5) (pa_cons (pv 6) pa_nil)))))) pa_nil))))))
      (pss_cons (ps_cut (ps_par (i := 9) (j := 10) rfl sc_l_others.nd rfl rfl (by decide) rfl rfl (pa_cons (pe_op op_sub (pe_ix (ixt (K := K)) (pv 3) pe_int (fun _ _ => rfl)) (pe_op op_mulA pe_int (pv 2))) (pa_cons (pe_op op_add (pe_ix (ixt (K := K)) (pv 3) (pe_un un_neg pe_int) (fun _ _ => rfl)) (pe_op op_mulA pe_int (pv 2))) pa_nil)) (by rfl)))
      (pss_cons (ps_cut (ps_expr (pe_bm PySem.F.plainAttrs_list PySem.F.slot_list_append PySem.F.type_list_append mt_append (pv 8) (pa_cons (pe_tup (pa_cons (pv 2) (pa_cons (pv 3) (pa_cons (pv 4) (pa_cons (pe_ifExp (pt_cmpR op_isN (pv 5) pe_non (nomark _)) (pv 9) (pe_op op_sub (pv 5) pe_int)) (pa_cons (pv 6) pa_nil)))))) pa_nil))))
      (pss_cons (ps_cut (ps_expr (pe_bm PySem.F.plainAttrs_list PySem.F.slot_list_append PySem.F.type_list_append mt_append (pv 8) (pa_cons (pe_tup (pa_cons (pv 2) (pa_cons (pv 3) (pa_cons (pv 4) (pa_cons (pv 5) (pa_cons (pe_ifExp (pt_cmpR op_isN (pv 6) pe_non (nomark _)) (pv 10) (pe_op op_add (pv 6) pe_int)) pa_nil)))))) pa_nil))))
      (pss_cons (ps_cut (ps_if (PW.pt (pw_or (pt_cmpR op_notN (pv 5) pe_non (nomark _)) (pw_or1 (pt_cmpR op_notN (pv 6) pe_non (nomark _)))))
      (pss_one (ps_expr (pe_bm PySem.F.plainAttrs_list PySem.F.slot_list_append PySem.F.type_list_append mt_append (pv 8) (pa_cons (pe_tup (pa_cons (pv 2) (pa_cons (pv 3) (pa_cons (pv 4) (pa_cons pe_non (pa_cons pe_non pa_nil)))))) pa_nil))))
      pss_nil))
      (pss_one (ps_ret (pv 8)))))))))))), ?_⟩
    obtain ⟨T', hp, hT⟩ := id hL.ob
    have p0 := hL.p0
    have p1 := hL.p1
    have l0 := hL.len0
    have l1 := hL.len1
    have lm : (ms.map V.int).length = ms.length := List.length_map ..
    obtain ⟨za, zb, hza, hzb, ebl, ebh⟩ := eb
    have bza := hL.bnd za (List.mem_of_getElem? hza)
    have bzb := hL.bnd zb (List.mem_of_getElem? hzb)
    
    obtain ⟨J, eJ⟩ : ∃ J : L2.St → Hp → Prop, J = (fun σ' H' => σ' = [some (.ref h), some (.ref p), some (.int part), some (.ref T'), some (.str r), some (optZ lo), some (optZ hi), none, none, none, none, none] ∧ Same H H') := ⟨_, rfl⟩
    refine ⟨J, ?_, ?_⟩
    · walk_at "w"
      subst eJ
      exact ⟨rfl, Same.refl _⟩
    subst eJ
    rintro σ' H1 ⟨rfl, s1⟩
    obtain ⟨J, eJ⟩ : ∃ J : L2.St → Hp → Prop, J = (fun σ' H' => ∃ (j : Nat), σ' = [some (.ref h), some (.ref p), some (.int part), some (.ref T'), some (.str r), some (optZ lo), some (optZ hi), some (.int (j : Int)), none, none, none, none] ∧ j < ms.length ∧ HandAt H' h (n + 1) ∧ Kp h H H') := ⟨_, rfl⟩
    refine ⟨J, ?_, ?_⟩
    · replace hh := hh.same s1
      replace hT := s1 _ _ hT
      walk_at "w"
      intro d1 H2 d10 d11 hh1 k1
      rw [lm] at d11
      obtain ⟨j, rfl⟩ := Int.eq_ofNat_of_zero_le d10
      walk_at "w"
      subst eJ
      exact ⟨j, rfl, by omega, hh1, (Kp.same s1).trans k1⟩
    subst eJ
    rintro σ' H2 ⟨j, rfl, jl, hh2, k2⟩
    obtain ⟨J, eJ⟩ : ∃ J : L2.St → Hp → Prop, J = (fun σ' H' => ∃ (v0 : Option V) (D : Addr) (xs : List V), σ' = [some (.ref h), some (.ref p), some (.int part), some (.ref T'), some (.str r), some (optZ lo), some (optZ hi), v0, some (.ref D), none, none, none] ∧ FoundO H H' h D (n + 1) 1 xs part ms r lo hi) := ⟨_, rfl⟩
    refine ⟨J, ?_, ?_⟩
    · replace hT := k2.get hh hT rfl
      obtain ⟨a, ha⟩ := geI (zs := ms) (n := j) jl
      have hav := mapI ha
      walk_at "w"
      intro q1 H5 s5 hq1
      rw [cutV_take _ (i := (j : Int)) (n := j) rfl] at hq1
      have hT5 := s5 _ _ hT
      walk_at "w"
      intro p3 np3
      have s6 := same1 (H := H5) (u := .tup [.int (a + 1)]) np3
      have hp3 := upd_same (H := H5) (a := p3) (o := .tup [.int (a + 1)])
      generalize upd H5 p3 _ = H6 at *
      have hq6 := s6 _ _ hq1
      have hT6 := s6 _ _ hT5
      refine ⟨q1, p3, _, _, rfl, rfl, hq6, hp3, (by rw [sizeLine_eq]; simp only [List.length_take, List.length_cons, List.length_nil]; omega), fun p4 H7 s7 hp4 => ?_⟩
      have hT7 := s7 _ _ hT6
      walk_at "w"
      intro p5 H8 s8 hp5
      rw [cutV_drop _ (i := (j : Int) + 1) (n := j + 1) rfl] at hp5
      have hp48 := s8 _ _ hp4
      refine ⟨p4, p5, _, _, rfl, rfl, hp48, hp5, (by rw [sizeLine_eq]; simp only [List.length_append, List.length_take, List.length_drop, List.length_cons, List.length_nil]; omega), fun p6 H9 s9 hp6 => ?_⟩
      have eset : (ms.map V.int).take j ++ [V.int (a + 1)] ++ (ms.map V.int).drop (j + 1) = (ms.set j (a + 1)).map V.int := by
        rw [List.set_eq_take_append_cons_drop, if_pos jl, List.map_append, List.map_cons, List.map_take, List.map_drop, List.append_assoc]
        rfl
      rw [eset] at hp6
      have sA := (((s5.trans s6).trans s7).trans s8).trans s9
      walk_at "w"
      intro q nq
      walk_at "w"
      intro D nD
      subst eJ
      exact ⟨_, D, _, rfl, FoundO.one (k2.trans (Kp.same sA)) (hh2.same sA) nq nD hp6 (ld_set hL ha) fun z => set_ne ha z.1⟩
    subst eJ
    rintro σ' H3 ⟨v0, D, xs, rfl, f⟩
    obtain ⟨J, eJ⟩ : ∃ J : L2.St → Hp → Prop, J = (fun σ' H' => ∃ (v0 : Option V) (D : Addr) (xs : List V), σ' = [some (.ref h), some (.ref p), some (.int part), some (.ref T'), some (.str r), some (optZ lo), some (optZ hi), v0, some (.ref D), none, none, none] ∧ FoundO H H' h D (n + 1) 4 xs part ms r lo hi) := ⟨_, rfl⟩
    refine ⟨J, ?_, ?_⟩
    · replace hT := f.kp.get hh hT rfl
      have hD := f.ob
      walk_at "w"
      intro q1 nq1
      have hTT : upd H3 q1 (.tup [.str "up", .str "down", .str "near"]) q1 = some (.tup [.str "up", .str "down", .str "near"]) := upd_same
      have s3 : Same H3 (upd H3 q1 (.tup [.str "up", .str "down", .str "near"])) := same1 nq1
      generalize upd H3 q1 (.tup [.str "up", .str "down", .str "near"]) = H4 at *
      replace f := f.same s3
      replace hD := s3 _ _ hD
      replace hT := s3 _ _ hT
      refine ⟨q1, rfl, ⟨_, SqT.of hTT⟩, fun D1 nD1 => ?_⟩
      refine lcpT (fun H v => Oth H part ms r lo hi v) (fun _ _ _ e s => e.nl s) (xs := [V.str "up", V.str "down", V.str "near"]) (szs (by decide)) (SqT.of hTT) nD1 (fun i x H5 N M hx s5 hN hM => ?_) (fun H5 ys s5 hD5 ly py => ?_)
      · have hxs : ∃ s : Str, x = .str s ∧ IsRule s := by
          have hm := List.mem_of_getElem? hx
          simp at hm
          rcases hm with rfl | rfl | rfl
          · exact ⟨_, rfl, .inl rfl⟩
          · exact ⟨_, rfl, .inr (.inl rfl)⟩
          · exact ⟨_, rfl, .inr (.inr rfl)⟩
        obtain ⟨s0, rfl, rs⟩ := hxs
        have hT5 := s5 _ _ hT
        walk_at "w"
        refine ite2 (fun e => ?_) (fun e => ?_)
        · have ne : ¬ s0 = r := fun q => by subst q; simp at e
          walk_at "w"
          intro q nq
          exact hN _ _ (same1 nq) ⟨q, ms, s0, lo, hi, rfl, ld_rule hL rs _ q T' upd_same (up1 nq hT5), fun z => ne z.2.1⟩
        · exact hM
      replace f := f.same s5
      replace hD := s5 _ _ hD
      have lx := f.len
      have ly3 : ys.length ≤ 3 := ly
      have lxy : xs.length + ys.length ≤ sizeLine := zLen (by omega)
      walk_at "w"
      intro D2 nD2
      have s6 := same1 (H := H5) (u := .lst (xs ++ ys)) nD2
      have nDh := f.hand.ne nD2
      subst eJ
      exact ⟨_, D2, _, rfl, ⟨upd_same, by rw [List.length_append]; have := f.len; have h3 : ys.length ≤ 3 := ly; omega, (fun x hx => by
        rcases List.mem_append.mp hx with hx | hx
        · exact (f.all x hx).same s6
        · exact (py x hx).same s6), nDh, f.kp.fresh nD2 nDh, f.hand.same s6, f.kp.trans (Kp.same s6)⟩⟩
    subst eJ
    rintro σ' H4 ⟨v0, D, xs, rfl, f⟩
    obtain ⟨J, eJ⟩ : ∃ J : L2.St → Hp → Prop, J = (fun σ' H' => ∃ (v0 : Option V) (D : Addr) (xs : List V), σ' = [some (.ref h), some (.ref p), some (.int part), some (.ref T'), some (.str r), some (optZ lo), some (optZ hi), v0, some (.ref D), none, none, none] ∧ FoundO H H' h D (n + 1) 6 xs part ms r lo hi) := ⟨_, rfl⟩
    refine ⟨J, ?_, ?_⟩
    · have hT4 := f.kp.get hh hT rfl
      have hD := f.ob
      have lx := f.len
      walk_at "w"
      rw [lm]
      refine ite2 (fun e => ?_) (fun e => ?_)
      · have e : 1 < ms.length := by simp at e; omega
        walk_at "w"
        intro q1 H5 s5 hq1
        rw [cutV_init _ rfl, lm, ← List.map_take] at hq1
        have f5 := f.same s5
        walk_at "w"
        intro q nq
        have hDq := up1 (u := .tup [.int part, .ref q1, .str r, optZ lo, optZ hi]) nq f5.ob
        have f6 := f5.add nq hq1 (ld_init hL e) (fun z => by have := congrArg List.length z.1; rw [List.length_take] at this; omega)
        walk_at "w"
        revert f6
        generalize upd (upd H5 q _) D _ = H6
        intro f6
        have hT6 := f6.kp.get hh hT rfl
        have lx6 := f6.len
        have hD6 := f6.ob
        walk_at "w"
        intro q2 H7 s7 hq2
        rw [cutV_drop _ (i := 1) (n := 1) rfl, ← List.map_drop] at hq2
        have f7 := f6.same s7
        walk_at "w"
        intro q3 nq3
        have hDq3 := up1 (u := .tup [.int part, .ref q2, .str r, optZ lo, optZ hi]) nq3 f7.ob
        have f8 := f7.add nq3 hq2 (ld_tail hL e) (fun z => by have := congrArg List.length z.1; rw [List.length_drop] at this; omega)
        walk_at "w"
        subst eJ
        exact ⟨_, D, _, rfl, f8⟩
      · have e : ms.length = 1 := by
          have e : ¬ 1 < ms.length := fun z => e (decide_eq_true (by omega))
          omega
        have em : ms = [za] := by
          match ms, e, hza with
          | [m], _, hza => cases hza; rfl
        have h0 := mapI hza
        walk_at "w"
        intro p3 np3
        have s6 := same1 (H := H4) (u := .tup [.int (za + 8)]) np3
        have hp3 := upd_same (H := H4) (a := p3) (o := .tup [.int (za + 8)])
        generalize upd H4 p3 _ = H6 at *
        have hT6 := s6 _ _ hT4
        refine ⟨T', p3, _, _, rfl, rfl, hT6, hp3, (by rw [sizeLine_eq]; simp only [List.length_map, List.length_cons, List.length_nil]; omega), fun q1 H7 s7 hq1 => ?_⟩
        have hq1 : H7 q1 = some (.tup ((ms ++ [za + 8]).map V.int)) := by rw [hq1, List.map_append]; rfl
        have f7 := (f.same s6).same s7
        walk_at "w"
        intro q nq
        have hDq := up1 (u := .tup [.int part, .ref q1, .str r, optZ lo, optZ hi]) nq f7.ob
        have f8 := f7.add nq hq1 (ld_more hL em) (fun z => by have := congrArg List.length z.1; rw [List.length_append, List.length_singleton] at this; omega)
        walk_at "w"
        subst eJ
        exact ⟨_, D, _, rfl, ⟨f8.ob, Nat.le_succ_of_le f8.len, f8.all, f8.ne, f8.free, f8.hand, f8.kp⟩⟩
    subst eJ
    rintro σ' H5 ⟨v0, D, xs, rfl, f⟩
    obtain ⟨J, eJ⟩ : ∃ J : L2.St → Hp → Prop, J = (fun σ' H' => ∃ (v0 : Option V) (D : Addr) (xs : List V), σ' = [some (.ref h), some (.ref p), some (.int part), some (.ref T'), some (.str r), some (optZ lo), some (optZ hi), v0, some (.ref D), some (.int (za - 40 * part)), some (.int (zb + 40 * part)), none] ∧ FoundO H H' h D (n + 1) 6 xs part ms r lo hi) := ⟨_, rfl⟩
    refine ⟨J, ?_, ?_⟩
    · have hT4 := f.kp.get hh hT rfl
      have h0 := mapI hza
      have h1 := atI_end (n := ms.length - 1) (xs := ms.map V.int) (by omega) (mapI hzb)
      walk_at "w"
      subst eJ
      exact ⟨_, D, _, rfl, f⟩
    subst eJ
    rintro σ' H6 ⟨v0, D, xs, rfl, f⟩
    obtain ⟨J, eJ⟩ : ∃ J : L2.St → Hp → Prop, J = (fun σ' H' => ∃ (v0 : Option V) (D : Addr) (xs : List V), σ' = [some (.ref h), some (.ref p), some (.int part), some (.ref T'), some (.str r), some (optZ lo), some (optZ hi), v0, some (.ref D), some (.int (za - 40 * part)), some (.int (zb + 40 * part)), none] ∧ FoundO H H' h D (n + 1) 7 xs part ms r lo hi) := ⟨_, rfl⟩
    refine ⟨J, ?_, ?_⟩
    · have hT4 := f.kp.get hh hT rfl
      have hD := f.ob
      have lx := f.len
      walk_at "w"
      cases lo with
      | none =>
        walk_at "w"
        intro q nq
        have hDq := up1 (u := .tup [.int part, .ref T', .str r, .int (za - 40 * part), optZ hi]) nq f.ob
        have f8 := f.add (lo' := some (za - 40 * part)) nq hT4 (ld_lo hL (by omega) (by omega) fun y e => by have := ebh y e; omega) (fun z => nomatch z.2.2.1)
        walk_at "w"
        subst eJ
        exact ⟨_, D, _, rfl, f8⟩
      | some z =>
        have bz := ebl z rfl
        walk_at "w"
        intro q nq
        have hDq := up1 (u := .tup [.int part, .ref T', .str r, .int (z - 1), optZ hi]) nq f.ob
        have f8 := f.add (lo' := some (z - 1)) nq hT4 (ld_lo hL (by omega) (by omega) fun y e => by have := hL.span z y rfl e; omega) (fun q => by have := Option.some.inj q.2.2.1; omega)
        walk_at "w"
        subst eJ
        exact ⟨_, D, _, rfl, f8⟩
    subst eJ
    rintro σ' H7 ⟨v0, D, xs, rfl, f⟩
    obtain ⟨J, eJ⟩ : ∃ J : L2.St → Hp → Prop, J = (fun σ' H' => ∃ (v0 : Option V) (D : Addr) (xs : List V), σ' = [some (.ref h), some (.ref p), some (.int part), some (.ref T'), some (.str r), some (optZ lo), some (optZ hi), v0, some (.ref D), some (.int (za - 40 * part)), some (.int (zb + 40 * part)), none] ∧ FoundO H H' h D (n + 1) 8 xs part ms r lo hi) := ⟨_, rfl⟩
    refine ⟨J, ?_, ?_⟩
    · have hT4 := f.kp.get hh hT rfl
      have hD := f.ob
      have lx := f.len
      walk_at "w"
      cases hi with
      | none =>
        walk_at "w"
        intro q nq
        have hDq := up1 (u := .tup [.int part, .ref T', .str r, optZ lo, .int (zb + 40 * part)]) nq f.ob
        have f8 := f.add (hi' := some (zb + 40 * part)) nq hT4 (ld_hi hL (by omega) (by omega) fun y e => by have := ebl y e; omega) (fun z => nomatch z.2.2.2)
        walk_at "w"
        subst eJ
        exact ⟨_, D, _, rfl, f8⟩
      | some z =>
        have bz := ebh z rfl
        walk_at "w"
        intro q nq
        have hDq := up1 (u := .tup [.int part, .ref T', .str r, optZ lo, .int (z + 1)]) nq f.ob
        have f8 := f.add (hi' := some (z + 1)) nq hT4 (ld_hi hL (by omega) (by omega) fun y e => by have := hL.span y z e rfl; omega) (fun q => by have := Option.some.inj q.2.2.2; omega)
        walk_at "w"
        subst eJ
        exact ⟨_, D, _, rfl, f8⟩
    subst eJ
    rintro σ' H8 ⟨v0, D, xs, rfl, f⟩
    obtain ⟨J, eJ⟩ : ∃ J : L2.St → Hp → Prop, J = (fun σ' H' => ∃ (v0 : Option V) (D : Addr) (xs : List V), σ' = [some (.ref h), some (.ref p), some (.int part), some (.ref T'), some (.str r), some (optZ lo), some (optZ hi), v0, some (.ref D), some (.int (za - 40 * part)), some (.int (zb + 40 * part)), none] ∧ FoundO H H' h D (n + 1) 9 xs part ms r lo hi) := ⟨_, rfl⟩
    refine ⟨J, ?_, ?_⟩
    · have hT4 := f.kp.get hh hT rfl
      have hD := f.ob
      have lx := f.len
      have go : ∀ (q : Addr), H8 q = none → ¬ (lo = none ∧ hi = none) → FoundO H (upd (upd H8 q (.tup [.int part, .ref T', .str r, .non, .non])) D (.lst (xs ++ [.ref q]))) h D (n + 1) 9 (xs ++ [.ref q]) part ms r lo hi := fun q nq ne => f.add (lo' := none) (hi' := none) nq hT4 (ld_none hL) fun z => ne ⟨z.2.2.1.symm, z.2.2.2.symm⟩
      cases lo with
      | none =>
        cases hi with
        | none =>
          walk_at "w"
          subst eJ
          exact ⟨_, D, _, rfl, ⟨f.ob, Nat.le_succ_of_le f.len, f.all, f.ne, f.free, f.hand, f.kp⟩⟩
        | some z =>
          walk_at "w"
          intro q nq
          have hDq := up1 (u := .tup [.int part, .ref T', .str r, .non, .non]) nq f.ob
          have f8 := go q nq fun z => nomatch z.2
          walk_at "w"
          subst eJ
          exact ⟨_, D, _, rfl, f8⟩
      | some z =>
        walk_at "w"
        intro q nq
        have hDq := up1 (u := .tup [.int part, .ref T', .str r, .non, .non]) nq f.ob
        have f8 := go q nq fun z => nomatch z.1
        walk_at "w"
        subst eJ
        exact ⟨_, D, _, rfl, f8⟩
    subst eJ
    rintro σ' H9 ⟨v0, D, xs, rfl, f⟩
    walk_at "w"
    exact kk D xs _ f
theorem ok_l_are {P : Program} {w : World} {K : PySem.W.Frag} {mg : Str → Option Value} {base : Heap} {φ : Fds} (T : Txt K mg φ)   : FnG P w K mg base CX0 7 (He.fAd K ("_law_are", none)) φ.l_are p_l_are (sp_are16 K (He.ga K "Measure") (He.ga K "Ladder")) := by
  obtain ⟨_, B0v, B0⟩ := b_Ladder_eq_2 T
  refine okG T.f_l_are sc_l_are (fun vs H Q E h => ?_) (fun cdv A outer s H vs Q E hr gd h => ?_)
  · obtain ⟨p, q, b, k, k', zs, zs', r, r', lo, hi, lo', hi', rfl, LA, LB, k4, k4', e1, e2, pq, kk⟩ := h; rfl
  · obtain ⟨p, q, b, k, k', zs, zs', r, r', lo, hi, lo', hi', rfl, LA, LB, k4, k4', e1, e2, pq, kk⟩ := h
    refine ⟨_, PSs.nox (pss_cons (ps_set (i := 3) sc_l_are.nd rfl (Or.inl rfl) (pe_lst (pa_cons (pe_cmpR (op_eqB (rcB_own (ok_Ladder_eq (K := K) T) T.me_Ladder_eq (bnil B0v B0) pass0) (hr.mono (by decide))) (pv 0) (pv 1) (nomark _)) (pa_cons (pe_cmpR (op_eqB (rcB_own (ok_Ladder_eq (K := K) T) T.me_Ladder_eq (bnil B0v B0) pass0) (hr.mono (by decide))) (pv 1) (pv 0) (nomark _)) (pa_cons (pe_cmpR (op_neB (ok_Ladder_eq (K := K) T) T.me_Ladder_eq T.ec_Ladder (bnil B0v B0) pass0 (hr.mono (by decide))) (pv 0) (pv 1) (nomark _)) (pa_cons (pe_cmpR (op_neB (ok_Ladder_eq (K := K) T) T.me_Ladder_eq T.ec_Ladder (bnil B0v B0) pass0 (hr.mono (by decide))) (pv 1) (pv 0) (nomark _)) (pa_cons (pe_cmpR (op_inBl (eqB_own (rcB_own (ok_Ladder_eq (K := K) T) T.me_Ladder_eq (bnil B0v B0) pass0)) (hr.mono (by decide))) (pv 0) (pe_lst (pa_cons (pv 1) pa_nil)) (by rfl)) (pa_cons (pe_cmpR (op_inBt (EqB.or (eqB_own (rcB_own (ok_Ladder_eq (K := K) T) T.me_Ladder_eq (bnil B0v B0) pass0)) (eqB_ref (rcB_ref (ok_Ladder_eq (K := K) T) T.me_Ladder_eq T.ec_Ladder (bnil B0v B0) pass0))) (hr.mono (by decide))) (pv 1) (pe_tup (pa_cons pe_non (pa_cons (pv 0) pa_nil))) (by rfl)) pa_nil))))))))
      (pss_one (ps_ret (pe_cmpR op_eq (pe_callB (id := "repr") (call_reprD gd hr) (by rfl) T.z_repr (by decide +kernel) (pa_cons (pv 3) pa_nil)) (pe_callB (id := "repr") (call_reprD gd hr) (by rfl) T.z_repr (by decide +kernel) (pa_cons (pe_lst (pa_cons (pv 2) (pa_cons (pv 2) (pa_cons (pe_not (pv 2)) (pa_cons (pe_not (pv 2)) (pa_cons (pv 2) (pa_cons (pv 2) pa_nil))))))) pa_nil)) (nomark _))))), ?_⟩
    have D1 := lad_own T.cl_Ladder T.ii_Ladder LA LB k4 k4' e1 pq
    have D2 := lad_own T.cl_Ladder T.ii_Ladder LB LA k4' k4 e2 fun e => pq e.symm
    walk_at "w"
    intro l1 nl1
    have LA1 := LA.same (same1 (u := .lst [.ref q]) nl1)
    have LB1 := LB.same (same1 (u := .lst [.ref q]) nl1)
    have s1 := same1 (u := .lst [.ref q]) nl1
    have hl1 := upd_same (H := H) (a := l1) (o := .lst [.ref q])
    generalize upd H l1 (.lst [.ref q]) = H1 at *
    have D3 : DOwn K (He.ga K "Ladder") (REqL K (He.ga K "Measure") (He.ga K "Ladder")) (.ref q) (.ref p) H1 b := lad_own T.cl_Ladder T.ii_Ladder LB1 LA1 k4' k4 e2 fun e => pq e.symm
    have I3 : InB (DOwn K (He.ga K "Ladder") (REqL K (He.ga K "Measure") (He.ga K "Ladder"))) (.ref p) H1 [.ref q] b := by
      cases b with
      | true => exact .inl ⟨D3, rfl⟩
      | false => exact .inr ⟨D3, rfl⟩
    walk_at "w"
    intro l2 nl2
    have LA2 := LA1.same (same1 (u := .tup [.non, .ref p]) nl2)
    have LB2 := LB1.same (same1 (u := .tup [.non, .ref p]) nl2)
    have s2 := s1.up (u := .tup [.non, .ref p]) nl2
    have hl2 := upd_same (H := H1) (a := l2) (o := .tup [.non, .ref p])
    generalize upd H1 l2 (.tup [.non, .ref p]) = H2 at *
    have D4 : DOwn K (He.ga K "Ladder") (REqL K (He.ga K "Measure") (He.ga K "Ladder")) (.ref p) (.ref q) H2 b := lad_own T.cl_Ladder T.ii_Ladder LA2 LB2 k4 k4' e1 pq
    have I4 : InB (DOr (DOwn K (He.ga K "Ladder") (REqL K (He.ga K "Measure") (He.ga K "Ladder"))) (DRef (He.ga K "Ladder") (REqL K (He.ga K "Measure") (He.ga K "Ladder")))) (.ref q) H2 [.non, .ref p] b := by
      refine .inr ⟨.inr (lad_non T.ec_Ladder LB2 k4'), ?_⟩
      cases b with
      | true => exact .inl ⟨.inl D4, rfl⟩
      | false => exact .inr ⟨.inl D4, rfl⟩
    walk_at "w"
    intro l3 nl3
    have hl3 := upd_same (H := H2) (a := l3) (o := .lst [.bl b, .bl b, .bl !b, .bl !b, .bl b, .bl b])
    have s3 := s2.up (u := .lst [.bl b, .bl b, .bl !b, .bl !b, .bl b, .bl b]) nl3
    generalize upd H2 l3 (.lst [.bl b, .bl b, .bl !b, .bl !b, .bl b, .bl b]) = H3 at *
    obtain ⟨w1, w2, w3, w4⟩ := bD_ok b
    walk_at "w"
    refine ⟨bD b, rfl, bD_dp hl3, w1, w2, w3, w4, ?_⟩
    walk_at "w"
    intro l4 nl4
    have hl4 := upd_same (H := H3) (a := l4) (o := .lst [.bl b, .bl b, .bl !b, .bl !b, .bl b, .bl b])
    have s4 := s3.up (u := .lst [.bl b, .bl b, .bl !b, .bl !b, .bl b, .bl b]) nl4
    generalize upd H3 l4 (.lst [.bl b, .bl b, .bl !b, .bl !b, .bl b, .bl b]) = H4 at *
    walk_at "w"
    refine ⟨bD b, rfl, bD_dp hl4, w1, w2, w3, w4, ?_⟩
    walk_at "w"
    rw [decide_eq_true rfl]
    exact kk _ s4
theorem ok_Ladder_len {P : Program} {w : World} {K : PySem.W.Frag} {mg : Str → Option Value} {base : Heap} {φ : Fds} (T : Txt K mg φ) : FnOk P w K mg base CX0 1 (He.fAd K ("Ladder", some "__len__")) φ.Ladder_len p_Ladder_len (sp_llen K (He.ga K "Measure") (He.ga K "Ladder")) := by
  refine T.f_Ladder_len.ok sc_Ladder_len (fun vs H Q E h => ?_) (fun cdv A outer s H vs Q E hr h => ?_)
  · obtain ⟨p, k, zs, r, lo, hi, rfl, hL, kk⟩ := h; rfl
  · obtain ⟨p, k, zs, r, lo, hi, rfl, hL, kk⟩ := h
    refine ⟨_, PSs.nox (pss_one (ps_ret (pe_callB (id := "len") (lenS (K := K)) (by rfl) T.z_len PySem.boot_len (pa_cons (fldK (K := K) (pv 0) rfl) pa_nil)))), ?_⟩
    have cl_Ladder := T.cl_Ladder
    have na_Ladder_marks := T.na_Ladder_marks
    have na_Ladder_rule := T.na_Ladder_rule
    have na_Ladder_least := T.na_Ladder_least
    have na_Ladder_most := T.na_Ladder_most
    
    obtain ⟨⟨dx, T', ps, l, h, hp, hT, hm, ql, qh⟩, l0, l1, hri, hru, hsp⟩ := hL
    have el : ps.length = zs.length := hm.len
    walk_at "w"
    rw [el]
    exact kk
theorem ok_l_right {P : Program} {w : World} {K : PySem.W.Frag} {mg : Str → Option Value} {base : Heap} {φ : Fds} (T : Txt K mg φ)   : FnG P w K mg base CX0 10 (He.fAd K ("_law_right", none)) φ.l_right p_l_right sp_right16 := by
  obtain ⟨_, B0v, B0⟩ := b_l_ladder_1 T
  obtain ⟨_, B1v, B1⟩ := b_l_made_1 T
  obtain ⟨_, B2v, B2⟩ := b_Ladder_repr_1 T
  obtain ⟨_, B3v, B3⟩ := b_l_name_1 T
  obtain ⟨_, B4v, B4⟩ := b_Ladder_str_1 T
  obtain ⟨_, B5v, B5⟩ := b_l_text_1 T
  obtain ⟨_, B6v, B6⟩ := b_Ladder_len_1 T
  obtain ⟨_, B7v, B7⟩ := b_l_are_3 T
  obtain ⟨_, B8v, B8⟩ := b_l_others_2 T
  obtain ⟨_, B9v, B9⟩ := b_Ladder_eq_2 T
  obtain ⟨_, B10v, B10⟩ := b_Measure_eq_2 T
  refine okG T.f_l_right sc_l_right (fun vs H Q E h => ?_) (fun cdv A outer s H vs Q E hr gd h => ?_)
  · obtain ⟨h, rfl, hh, kk⟩ := h; rfl
  · obtain ⟨h, rfl, hh, kk⟩ := h
    refine ⟨_, PSs.nox (pss_cons (ps_cut (ps_set (i := 1) sc_l_right.nd rfl (Or.inl rfl) (pe_call (ok_l_ladder (K := K) T) (hr.mono (by decide)) rfl T.g_l_ladder T.f_l_ladder.kp B0 B0v pass0 (pa_cons (pv 0) pa_nil))))
      (pss_cons (ps_cut (ps_asg (pe_tup (pa_cons (pe_call (ok_l_made (K := K) T) (hr.mono (by decide)) rfl T.g_l_made T.f_l_made.kp B1 B1v pass0 (pa_cons (pv 1) pa_nil)) (pa_cons (pe_call (ok_l_made (K := K) T) (hr.mono (by decide)) rfl T.g_l_made T.f_l_made.kp B1 B1v pass0 (pa_cons (pv 1) pa_nil)) pa_nil))) (pg_tup rfl (pgs_cons (pg_name (i := 2) sc_l_right.nd rfl (Or.inr rfl)) (pgs_cons (pg_name (i := 3) sc_l_right.nd rfl (Or.inl rfl)) pgs_nil)))))
      (pss_cons (ps_cut (ps_if (PW.pt (pw_or (pt_cmpR op_ne (pe_callB (id := "repr") (call_reprD gd hr) (by rfl) T.z_repr (by decide +kernel) (pa_cons (pe_callB (id := "len") (call_lenO (ok_Ladder_len (K := K) T) T.me_Ladder_len (bnil B6v B6) pass0 (hr.mono (by decide))) (by rfl) T.z_len PySem.boot_len (pa_cons (pv 2) pa_nil)) pa_nil)) (pe_callB (id := "repr") (call_reprD gd hr) (by rfl) T.z_repr (by decide +kernel) (pa_cons (pe_callB (id := "len") (lenS (K := K)) (by rfl) T.z_len PySem.boot_len (pa_cons (pe_ix (ixt (K := K)) (pv 1) pe_int (fun _ _ => rfl)) pa_nil)) pa_nil)) (nomark _)) (pw_or (pt_cmpR op_ne (pe_callTy (T := "str") (call_strO (ok_Ladder_str (K := K) T) T.me_Ladder_str (bnil B4v B4) pass0 (hr.mono (by decide))) (by rfl) T.z_str (by decide +kernel) (pa_cons (pv 2) pa_nil)) (pe_call (ok_l_text (K := K) T) (hr.mono (by decide)) rfl T.g_l_text T.f_l_text.kp B5 B5v pass0 (pa_cons (pv 1) pa_nil)) (nomark _)) (pw_or1 (pt_cmpR op_ne (pe_callB (id := "repr") (call_reprOG gd (ok_Ladder_repr (K := K) T) T.me_Ladder_repr (bnil B2v B2) pass0 (hr.mono (by decide))) (by rfl) T.z_repr (by decide +kernel) (pa_cons (pv 2) pa_nil)) (pe_call (ok_l_name (K := K) T) (hr.mono (by decide)) rfl T.g_l_name T.f_l_name.kp B3 B3v pass0 (pa_cons (pv 1) pa_nil)) (nomark _))))))
      (pss_one (ps_ret pe_bl))
      pss_nil))
      (pss_cons (ps_cut (ps_if (PW.pt (pw_or (pt_not (pt_val (pe_callG (ok_l_are (K := K) T) gd (hr.mono (by decide)) rfl T.g_l_are T.f_l_are.kp B7 B7v pass0 (pa_cons (pv 2) (pa_cons (pv 3) (pa_cons pe_bl pa_nil)))))) (pw_or1 (pt_not (pt_val (pe_callG (ok_l_are (K := K) T) gd (hr.mono (by decide)) rfl T.g_l_are T.f_l_are.kp B7 B7v pass0 (pa_cons (pv 2) (pa_cons (pv 2) (pa_cons pe_bl pa_nil)))))))))
      (pss_one (ps_ret pe_bl))
      pss_nil))
      (pss_cons (ps_cut (ps_for PassesOwn.never rfl (pi_list (pe_call (ok_l_others (K := K) T) (hr.mono (by decide)) rfl T.g_l_others T.f_l_others.kp B8 B8v pass0 (pa_cons (pv 0) (pa_cons (pv 1) pa_nil)))) (pg_name (i := 4) sc_l_right.nd rfl (Or.inl rfl))
      (pss_cons (ps_set (i := 5) sc_l_right.nd rfl (Or.inl rfl) (pe_call (ok_l_made (K := K) T) (hr.mono (by decide)) rfl T.g_l_made T.f_l_made.kp B1 B1v pass0 (pa_cons (pv 4) pa_nil)))
      (pss_cons (ps_if (pt_not (pt_val (pe_callG (ok_l_are (K := K) T) gd (hr.mono (by decide)) rfl T.g_l_are T.f_l_are.kp B7 B7v pass0 (pa_cons (pv 2) (pa_cons (pv 5) (pa_cons pe_bl pa_nil))))))
      (pss_one (ps_ret pe_bl))
      pss_nil)
      (pss_one (ps_if (PW.pt (pw_or (pt_cmpR op_ne (pe_callTy (T := "str") (call_strO (ok_Ladder_str (K := K) T) T.me_Ladder_str (bnil B4v B4) pass0 (hr.mono (by decide))) (by rfl) T.z_str (by decide +kernel) (pa_cons (pv 5) pa_nil)) (pe_call (ok_l_text (K := K) T) (hr.mono (by decide)) rfl T.g_l_text T.f_l_text.kp B5 B5v pass0 (pa_cons (pv 4) pa_nil)) (nomark _)) (pw_or1 (pt_cmpR op_ne (pe_callB (id := "repr") (call_reprOG gd (ok_Ladder_repr (K := K) T) T.me_Ladder_repr (bnil B2v B2) pass0 (hr.mono (by decide))) (by rfl) T.z_repr (by decide +kernel) (pa_cons (pv 5) pa_nil)) (pe_call (ok_l_name (K := K) T) (hr.mono (by decide)) rfl T.g_l_name T.f_l_name.kp B3 B3v pass0 (pa_cons (pv 4) pa_nil)) (nomark _)))))
      (pss_one (ps_ret pe_bl))
      pss_nil))))))
      (pss_cons (ps_cut (ps_set (i := 6) sc_l_right.nd rfl (Or.inl rfl) (pe_lst (pa_cons pe_non (pa_cons pe_int (pa_cons pe_int (pa_cons pe_bl (pa_cons pe_str (pa_cons (pe_callTy (T := "str") (call_strO (ok_Ladder_str (K := K) T) T.me_Ladder_str (bnil B4v B4) pass0 (hr.mono (by decide))) (by rfl) T.z_str (by decide +kernel) (pa_cons (pv 2) pa_nil)) (pa_cons (pe_callB (id := "repr") (call_reprOG gd (ok_Ladder_repr (K := K) T) T.me_Ladder_repr (bnil B2v B2) pass0 (hr.mono (by decide))) (by rfl) T.z_repr (by decide +kernel) (pa_cons (pv 2) pa_nil)) (pa_cons (fldK (K := K) (pv 2) rfl) (pa_cons (pe_tup pa_nil) (pa_cons (pe_lst (pa_cons (pv 2) pa_nil)) (pa_cons (pe_lst pa_nil) (pa_cons pe_dnewK (pa_cons (pe_ix (ixt (K := K)) (fldK (K := K) (pv 2) rfl) pe_int (fun _ _ => rfl)) pa_nil))))))))))))))))
      (pss_one (ps_ret (pe_and (pe_not (pe_callB (id := "any") (anyK (K := K)) (by rfl) T.z_any (by decide +kernel) (pa_cons (pe_lc (own := [("_law_thing", 7)]) (g := gName 7) rfl sc_l_right.nd (pi_list (pv 6)) (blkOk_by (own := [("_law_thing", 7)]) (N := N_l_right) (sc := (defScope s_l_right)) (by decide +kernel)) (fun _ _ _ _ _ => (pg_name (i := 7) sc_l_right.nd rfl (Or.inl rfl))) (fun _ _ _ _ _ => pts_nil) (fun _ _ _ _ _ => (pe_or (pe_cmpR (op_eqB (rcB_ownK (K := K) (ok_Ladder_eq (K := K) T) T.me_Ladder_eq (bnil B9v B9) pass0) (hr.mono (by decide))) (pv 2) (pv 7) (nomark _)) (pe_one (pe_cmpR (op_eqB (RcB.or (RcB.or (rcB_ref (ok_Ladder_eq (K := K) T) T.me_Ladder_eq T.ec_Ladder (bnil B9v B9) pass0) (rcB_refD (ok_Ladder_eq (K := K) T) T.me_Ladder_eq T.ed_Ladder (bnil B9v B9) pass0)) (RcB.mono (rcB_ownK (K := K) (ok_Measure_eqX (K := K) T) T.me_Measure_eq (bnil B10v B10) pass0) (by decide))) (hr.mono (by decide))) (pv 7) (pv 2) (nomark _)))))) pa_nil))) (pe_one (pe_callB (id := "all") (allK (K := K)) (by rfl) T.z_all (by decide +kernel) (pa_cons (pe_lc (own := [("_law_thing", 7)]) (g := gName 7) rfl sc_l_right.nd (pi_list (pv 6)) (blkOk_by (own := [("_law_thing", 7)]) (N := N_l_right) (sc := (defScope s_l_right)) (by decide +kernel)) (fun _ _ _ _ _ => (pg_name (i := 7) sc_l_right.nd rfl (Or.inl rfl))) (fun _ _ _ _ _ => pts_nil) (fun _ _ _ _ _ => (pe_cmpR (op_neBK (K := K) (ok_Ladder_eq (K := K) T) T.me_Ladder_eq T.ec_Ladder (bnil B9v B9) pass0 (hr.mono (by decide))) (pv 2) (pv 7) (nomark _)))) pa_nil)))))))))))), ?_⟩
    obtain ⟨J, eJ⟩ : ∃ J : L2.St → Hp → Prop, J = (fun σ' H' => ∃ (p : Addr) (part : Int) (ms : List Int) (r : Str) (lo hi : Option Int), σ' = [some (.ref h), some (.ref p), none, none, none, none, none, none] ∧ EndB ms lo hi ∧ LawL H' p part ms r lo hi ∧ HandAt H' h 60 ∧ Kp h H H') := ⟨_, rfl⟩
    refine ⟨J, ?_, ?_⟩
    · walk_at "w"
      intro p part ms r lo hi H1 eb hL hh1 k1
      walk_at "w"
      subst eJ
      exact ⟨p, part, ms, r, lo, hi, rfl, eb, hL, hh1, k1⟩
    subst eJ
    rintro σ' H1 ⟨p, part, ms, r, lo, hi, rfl, eb, hL, hh1, k1⟩
    obtain ⟨J, eJ⟩ : ∃ J : L2.St → Hp → Prop, J = (fun σ' H' => ∃ (M A : Addr), σ' = [some (.ref h), some (.ref p), some (.ref M), some (.ref A), none, none, none, none] ∧ LadAt K (He.ga K "Measure") (He.ga K "Ladder") H' M 40 (zq (4 * part) ms) r (oq (4 * part) lo) (oq (4 * part) hi) ∧ MkT (He.ga K "Ladder") H' M r ∧ LadAt K (He.ga K "Measure") (He.ga K "Ladder") H' A 40 (zq (4 * part) ms) r (oq (4 * part) lo) (oq (4 * part) hi) ∧ LawL H' p part ms r lo hi ∧ HandAt H' h 60 ∧ Kp h H H') := ⟨_, rfl⟩
    refine ⟨J, ?_, ?_⟩
    · walk_at "w"
      refine ⟨ms, r, lo, hi, rfl, lawM_of hL, fun M H2 fM s2 LM xM => ?_⟩
      have hL2 := hL.same s2
      walk_at "w"
      refine ⟨ms, r, lo, hi, rfl, lawM_of hL2, fun A H3 fA s3 LA _ => ?_⟩
      walk_at "w"
      intro p9 np9
      have hp9 := upd_same (H := H3) (a := p9) (o := .tup [.ref M, .ref A])
      have s9 : Same H3 (upd H3 p9 (.tup [.ref M, .ref A])) := same1 np9
      generalize upd H3 p9 (.tup [.ref M, .ref A]) = H9 at *
      walk_at "w"
      have s39 := s3.trans s9
      subst eJ
      exact ⟨M, A, rfl, LM.same s39, xM.same s39, LA.same s9, hL2.same s39, (hh1.same s2).same s39, k1.trans (Kp.same (s2.trans s39))⟩
    subst eJ
    rintro σ' H2 ⟨M, A, rfl, LM, xM, LA, hL, hh2, k2⟩
    obtain ⟨J, eJ⟩ : ∃ J : L2.St → Hp → Prop, J = (fun σ' H' => σ' = [some (.ref h), some (.ref p), some (.ref M), some (.ref A), none, none, none, none] ∧ LadAt K (He.ga K "Measure") (He.ga K "Ladder") H' M 40 (zq (4 * part) ms) r (oq (4 * part) lo) (oq (4 * part) hi) ∧ MkT (He.ga K "Ladder") H' M r ∧ LadAt K (He.ga K "Measure") (He.ga K "Ladder") H' A 40 (zq (4 * part) ms) r (oq (4 * part) lo) (oq (4 * part) hi) ∧ LawL H' p part ms r lo hi ∧ HandAt H' h 60 ∧ Kp h H H') := ⟨_, rfl⟩
    refine ⟨J, ?_, ?_⟩
    · obtain ⟨T', hp, hT⟩ := id hL.ob
      have lm : (ms.map V.int).length = ms.length := List.length_map ..
      have lz : (zq (4 * part) ms).length = ms.length := zq_len _ _
      have l24 := hL.len1
    
      obtain ⟨dx0, _, _, _, _, hM0, _⟩ := id LM.ob
      obtain ⟨dxm, fsm, hxm, nom⟩ := LM.raw (m := "__len__") (by decide +kernel) (by decide +kernel) (by decide +kernel) (by decide +kernel)
      obtain ⟨u1, u2, u3, u4⟩ := int_ok (z := ((zq (4 * part) ms).length : Int)) (by omega)
      obtain ⟨w1, w2, w3, w4⟩ := int_ok (z := ((ms.map V.int).length : Int)) (by omega)
      walk_at "w"
      refine ⟨_, r, _, _, rfl, LM, _, rfl, by omega, ?_⟩
      clear hxm nom
      walk_at "w"
      refine ⟨_, rfl, .int _, u1, u2, u3, u4, ?_⟩
      walk_at "w"
      refine ⟨_, rfl, .int _, w1, w2, w3, w4, ?_⟩
      rw [lz, lm]
      walk_at "w"
      rw [decide_eq_true rfl]
      walk_at "w"
      refine ⟨_, r, _, _, rfl, LM, by decide, fun H4 s4 => ⟨_, rfl, ?_⟩⟩
      have LM4 := LM.same s4
      have hL4 := hL.same s4
      walk_at "w"
      refine ⟨ms, r, lo, hi, rfl, lawM_of hL4, fun H5 s5 => ?_⟩
      walk_at "w"
      rw [decide_eq_true rfl]
      have LM5 := LM4.same s5
      have hL5 := hL4.same s5
      obtain ⟨dx5, _, _, _, _, hM5, _⟩ := id LM5.ob
      walk_at "w"
      refine ⟨_, r, _, _, rfl, LM5, by decide, _, rfl, ?_⟩
      walk_at "w"
      refine ⟨ms, r, lo, hi, rfl, lawM_of hL5, fun H6 s6 => ?_⟩
      walk_at "w"
      rw [decide_eq_true rfl]
      walk_at "w"
      have sA := (s4.trans s5).trans s6
      subst eJ
      exact ⟨rfl, LM.same sA, xM.same sA, LA.same sA, hL.same sA, hh2.same sA, k2.trans (Kp.same sA)⟩
    subst eJ
    rintro σ' H3 ⟨rfl, LM, xM, LA, hL, hh2, k2⟩
    obtain ⟨J, eJ⟩ : ∃ J : L2.St → Hp → Prop, J = (fun σ' H' => σ' = [some (.ref h), some (.ref p), some (.ref M), some (.ref A), none, none, none, none] ∧ LadAt K (He.ga K "Measure") (He.ga K "Ladder") H' M 40 (zq (4 * part) ms) r (oq (4 * part) lo) (oq (4 * part) hi) ∧ MkT (He.ga K "Ladder") H' M r ∧ LadAt K (He.ga K "Measure") (He.ga K "Ladder") H' A 40 (zq (4 * part) ms) r (oq (4 * part) lo) (oq (4 * part) hi) ∧ LawL H' p part ms r lo hi ∧ HandAt H' h 60 ∧ Kp h H H') := ⟨_, rfl⟩
    refine ⟨J, ?_, ?_⟩
    · walk_at "w"
      refine ⟨_, _, r, r, _, _, _, _, rfl, LM, LA, by decide, by decide, eqLQ_self _ _ _ _, eqLQ_self _ _ _ _, fun _ => rfl, fun H4 s4 => ?_⟩
      have LM4 := LM.same s4
      walk_at "w"
      refine ⟨_, _, r, r, _, _, _, _, rfl, LM4, LM4, by decide, by decide, eqLQ_self _ _ _ _, eqLQ_self _ _ _ _, fun _ => rfl, fun H5 s5 => ?_⟩
      walk_at "w"
      have sA := s4.trans s5
      subst eJ
      exact ⟨rfl, LM.same sA, xM.same sA, LA.same sA, hL.same sA, hh2.same sA, k2.trans (Kp.same sA)⟩
    subst eJ
    rintro σ' H4 ⟨rfl, LM, xM, LA, hL, hh2, k2⟩
    obtain ⟨J, eJ⟩ : ∃ J : L2.St → Hp → Prop, J = (fun σ' H' => ∃ (v0 v1 v2 : Option V), σ' = [some (.ref h), some (.ref p), some (.ref M), v0, v1, v2, none, none] ∧ LadAt K (He.ga K "Measure") (He.ga K "Ladder") H' M 40 (zq (4 * part) ms) r (oq (4 * part) lo) (oq (4 * part) hi) ∧ MkT (He.ga K "Ladder") H' M r ∧ Kp h H H') := ⟨_, rfl⟩
    refine ⟨J, ?_, ?_⟩
    · have p0 := hL.p0
      walk_at "w"
      refine ⟨ms, r, lo, hi, rfl, hh2, by decide, hL, eb, fun D xs H5 f => ?_⟩
      have hD := f.ob
      have LM5 := LM.kp hh2 f.kp
      walk_at "w"
      refine for_list (K := K) (a := D) (xs := xs) (fun i σ H' => (∃ v1 v2, σ = [some (.ref h), some (.ref p), some (.ref M), some (.ref A), v1, v2, none, none]) ∧ Same H5 H') ⟨⟨_, _, rfl⟩, Same.refl _⟩ (fun i σ H' _ q => q.2.seq (SqL.of hD)) ?_ ?_
      · rintro i x σ H6 hx ⟨⟨v1, v2, rfl⟩, s6⟩
        obtain ⟨q, ms', r', lo', hi', rfl, lq, ne⟩ := (f.all x (List.mem_of_getElem? hx)).same s6
        have LM6 := LM5.same s6
        walk_at "w"
        refine ⟨ms', r', lo', hi', rfl, lq, fun N H7 fN s7 LN _ => ?_⟩
        have LM7 := LM6.same s7
        obtain ⟨e1, e2⟩ := eqLQ_ne (d := 4 * part) (by omega) ne
        obtain ⟨dx0, _, _, _, _, hM0, _⟩ := id LM6.ob
        have nMN : M ≠ N := fun e => by rw [← e, hM0] at fN; cases fN
        walk_at "w"
        refine ⟨_, _, r, r', _, _, _, _, rfl, LM7, LN, by decide, by decide, e1, e2, (fun e => absurd e nMN), fun H8 s8 => ?_⟩
        have LN8 := LN.same s8
        have lq8 := (lq.same s7).same s8
        obtain ⟨dx1, _, _, _, _, hN0, _⟩ := id LN8.ob
        walk_at "w"
        refine ⟨_, r', _, _, rfl, LN8, by decide, fun H9 s9 => ⟨_, rfl, ?_⟩⟩
        have LN9 := LN8.same s9
        have lq9 := lq8.same s9
        walk_at "w"
        refine ⟨ms', r', lo', hi', rfl, lq9, fun HA sA => ?_⟩
        walk_at "w"
        rw [decide_eq_true rfl]
        have LNA := LN9.same sA
        have lqA := lq9.same sA
        obtain ⟨dx2, _, _, _, _, hN2, _⟩ := id LNA.ob
        walk_at "w"
        refine ⟨_, r', _, _, rfl, LNA, by decide, _, rfl, ?_⟩
        walk_at "w"
        refine ⟨ms', r', lo', hi', rfl, lqA, fun HB sB => ?_⟩
        walk_at "w"
        rw [decide_eq_true rfl]
        walk_at "w"
        exact ⟨⟨_, _, rfl⟩, s6.trans ((s7.trans s8).trans ((s9.trans sA).trans sB))⟩
      · rintro σ H6 ⟨⟨v1, v2, rfl⟩, s6⟩
        subst eJ
        exact ⟨_, _, _, rfl, LM5.same s6, (xM.kp hh2 f.kp).same s6, k2.trans (f.kp.trans (Kp.same s6))⟩
    subst eJ
    rintro σ' H5 ⟨v0, v1, v2, rfl, LM, xM, k5⟩
    obtain ⟨J, eJ⟩ : ∃ J : L2.St → Hp → Prop, J = (fun σ' H' => ∃ (v0 v1 v2 : Option V) (D : Addr) (xs : List V), σ' = [some (.ref h), some (.ref p), some (.ref M), v0, v1, v2, some (.ref D), none] ∧ LadAt K (He.ga K "Measure") (He.ga K "Ladder") H' M 40 (zq (4 * part) ms) r (oq (4 * part) lo) (oq (4 * part) hi) ∧ H' D = some (.lst xs) ∧ xs.length = 13 ∧ (∀ x ∈ xs, OddV (He.ga K "Measure") H' x) ∧ Kp h H H') := ⟨_, rfl⟩
    refine ⟨J, ?_, ?_⟩
    · have cl_Ladder := T.cl_Ladder
      have na_Ladder_marks := T.na_Ladder_marks
      have na_Ladder_rule := T.na_Ladder_rule
      have na_Ladder_least := T.na_Ladder_least
      have na_Ladder_most := T.na_Ladder_most
    
      obtain ⟨dxk, Tk, psk, lk, uk, hpk, hTk⟩ := xM
      obtain ⟨dxM, TM, psM, lM, uM, hpM, hTM, hmM, _, _⟩ := id LM.ob
      have eT : Tk = TM := by
        rw [hpk] at hpM
        have e := (HO.ins.inj (Option.some.inj hpM)).2.2
        have e2 := congrArg (fun fs : List (Str × V) => fs.lookup ("marks" : Str)) e
        rw [show (lf (.ref Tk) r lk uk).lookup ("marks" : Str) = some (.ref Tk) from lf_marks _ _ _ _, show (lf (.ref TM) r lM uM).lookup ("marks" : Str) = some (.ref TM) from lf_marks _ _ _ _] at e2
        injection e2 with e2
        injection e2 with e2
      subst eT
      have lq := hmM.len
      obtain ⟨z0, hz0⟩ : ∃ z, (zq (4 * part) ms)[0]? = some z := ⟨_, List.getElem?_eq_getElem LM.len0⟩
      obtain ⟨q0, hq0, qa⟩ := hmM.at hz0
      have ha0 : atI psM 0 = some (.ref q0) := atI_of (n := 0) rfl hq0
      walk_at "w"
      refine ⟨_, r, _, _, rfl, LM, by decide, fun H6 s6 => ⟨_, rfl, ?_⟩⟩
      have LM6 := LM.same s6
      replace hpM := s6 _ _ hpM
      replace hTk := s6 _ _ hTk
      replace hTM := s6.sqt hTM
      replace qa := qa.same s6
      walk_at "w"
      refine ⟨_, r, _, _, rfl, LM6, by decide, _, rfl, ?_⟩
      walk_at "w"
      intro t1 nt1
      have s7 : Same H6 (upd H6 t1 (.tup [])) := same1 nt1
      have ht1 : upd H6 t1 (.tup []) t1 = some (.tup []) := upd_same
      generalize upd H6 t1 (.tup []) = H7 at *
      walk_at "w"
      intro l1 nl1
      have s8 : Same H7 (upd H7 l1 (.lst [.ref M])) := same1 nl1
      have hl1 : upd H7 l1 (.lst [.ref M]) l1 = some (.lst [.ref M]) := upd_same
      generalize upd H7 l1 (.lst [.ref M]) = H8 at *
      walk_at "w"
      intro l2 nl2
      have s9 : Same H8 (upd H8 l2 (.lst [])) := same1 nl2
      have hl2 : upd H8 l2 (.lst []) l2 = some (.lst []) := upd_same
      generalize upd H8 l2 (.lst []) = H9 at *
      walk_at "w"
      intro d1 nd1
      have s10 : Same H9 (upd H9 d1 (.dK [])) := same1 nd1
      have hd1 : upd H9 d1 (.dK []) d1 = some (.dK []) := upd_same
      generalize upd H9 d1 (.dK []) = HA at *
      have sA := ((s7.trans s8).trans s9).trans s10
      have hpA := sA _ _ hpM
      have hTA := sA.sqt hTM
      have qaA := qa.same sA
      walk_at "w"
      intro D nD
      obtain ⟨⟨tq, uq, mq, _⟩, _⟩ := id qaA
      have s11 := same1 (H := HA) (u := .lst [.non, .int 0, .int 1, .bl true, .str "", .str (lTxt (zq (4 * part) ms) r (oq (4 * part) lo) (oq (4 * part) hi)), .str (lRep (zq (4 * part) ms) r (oq (4 * part) lo) (oq (4 * part) hi)), .ref Tk, .ref t1, .ref l1, .ref l2, .ref d1, .ref q0]) nD
      subst eJ
      refine ⟨_, _, _, D, _, rfl, (LM6.same sA).same s11, upd_same, rfl, fun x hx => ?_, k5.trans (Kp.same ((s6.trans sA).trans s11))⟩
      simp at hx
      rcases hx with rfl | rfl | rfl | rfl | rfl | rfl | rfl | rfl | rfl | rfl | rfl | rfl | rfl
      · exact .kd .non
      · exact .kd (.int _)
      · exact .kd (.int _)
      · exact .kd (.bl _)
      · exact .kd (.str _)
      · exact .kd (.str _)
      · exact .kd (.str _)
      · exact .kd (.tup (s11 _ _ (sA _ _ hTk)))
      · exact .kd (.tup (s11 _ _ (((s8.trans s9).trans s10) _ _ ht1)))
      · exact .kd (.lst (s11 _ _ ((s9.trans s10) _ _ hl1)))
      · exact .kd (.lst (s11 _ _ (s10 _ _ hl2)))
      · exact .dic (s11 _ _ hd1)
      · exact .ms (mq.same s11)
    subst eJ
    rintro σ' H6 ⟨v0, v1, v2, D, xs, rfl, LM, hD, lx, hx, k6⟩
    walk_at "w"
    intro D1 nD1
    refine lcz (n := xs.length) (walk_list (xs := xs)) (fun _ _ g s => s.seq g) (List.replicate _ (some (V.bl false))) List.length_replicate (szs (by omega)) (SqL.of hD) nD1 (fun i x Ha Hb z N2 M2 hlt ez s4 yy hN2 hM2 => ?_) (fun Hc s9 hD1 => ?_)
    · obtain ⟨rfl, hx0⟩ := yy
      rw [List.getElem?_replicate, if_pos hlt] at ez
      cases ez
      have La := LM.same s4
      have o := (hx x (List.mem_of_getElem? hx0)).same s4
      have f1 := o.fwd La (by decide) T.cl_Measure T.ii_Measure T.ec_Ladder T.ed_Ladder T.nf_Ladder_Measure T.k_Measure_Ladder
      have f2 := o.bwd La (by decide) T.cl_Ladder T.ii_Ladder T.ec_Ladder T.ed_Ladder T.nf_Measure_Ladder T.k_Ladder_Measure
      refine ⟨rfl, yesT ?_⟩
      walk_at "w"
      exact hN2 _ _ rfl (Same.refl _)
    rw [rep_fmF] at hD1
    walk_at "w"
    refine ⟨_, rfl, SqL.of hD1, ?_⟩
    rw [rep_any]
    have hDc := s9 _ _ hD
    have LMc := LM.same s9
    have hxc : ∀ x ∈ xs, OddV (He.ga K "Measure") Hc x := fun x h => (hx x h).same s9
    walk_at "w"
    intro D2 nD2
    refine lcz (n := xs.length) (walk_list (xs := xs)) (fun _ _ g s => s.seq g) (List.replicate _ (some (V.bl true))) List.length_replicate (szs (by omega)) (SqL.of hDc) nD2 (fun i x Ha Hb z N2 M2 hlt ez s4 yy hN2 hM2 => ?_) (fun Hd s10 hD2 => ?_)
    · obtain ⟨rfl, hx0⟩ := yy
      rw [List.getElem?_replicate, if_pos hlt] at ez
      cases ez
      have La := LMc.same s4
      have o := (hxc x (List.mem_of_getElem? hx0)).same s4
      have f1 := o.fwd La (by decide) T.cl_Measure T.ii_Measure T.ec_Ladder T.ed_Ladder T.nf_Ladder_Measure T.k_Measure_Ladder
      refine ⟨rfl, yesT ?_⟩
      walk_at "w"
      exact hN2 _ _ rfl (Same.refl _)
    rw [rep_fm] at hD2
    walk_at "w"
    refine ⟨_, rfl, SqL.of hD2, ?_⟩
    rw [rep_all]
    exact kk _ (k6.trans (Kp.same (s9.trans s10)))
theorem ok_law {P : Program} {w : World} {K : PySem.W.Frag} {mg : Str → Option Value} {base : Heap} {φ : Fds} (T : Txt K mg φ)   : FnG P w K mg base CX0 11 (He.fAd K ("law", none)) φ.law p_law (sp_law K) := by
  obtain ⟨_, B0v, B0⟩ := b_l_right_1 T
  obtain ⟨_, B1v, B1⟩ := b_l_hand_2 T
  refine okG T.f_law sc_law (fun vs H Q E h => ?_) (fun cdv A outer s H vs Q E hr gd h => ?_)
  · obtain ⟨a, ns, rfl, hS, hlen, kk⟩ := h; rfl
  · obtain ⟨a, ns, rfl, hS, hlen, kk⟩ := h
    refine ⟨_, PSs.nox (pss_cons (ps_for PassesOwn.never rfl (pi_range1 rfl T.z_range (pa_cons (pe_callB (id := "max") (call_max2 rfl) (by rfl) T.z_max (by decide +kernel) (pa_cons pe_int (pa_cons (pe_callB (id := "min") (call_min2 rfl) (by rfl) T.z_min (by decide +kernel) (pa_cons pe_int (pa_cons (pe_callB (id := "len") (lenS (K := K)) (by rfl) T.z_len PySem.boot_len (pa_cons (pv 0) pa_nil)) pa_nil))) pa_nil))) pa_nil)) (pg_name (i := 1) sc_law.nd rfl (Or.inl rfl))
      (pss_one (ps_if (pt_not (pt_val (pe_callG (ok_l_right (K := K) T) gd (hr.mono (by decide)) rfl T.g_l_right T.f_l_right.kp B0 B0v pass0 (pa_cons (pe_call (ok_l_hand (K := K) T) (hr.mono (by decide)) rfl T.g_l_hand T.f_l_hand.kp B1 B1v pass0 (pa_cons (pv 0) (pa_cons (pv 1) pa_nil))) pa_nil))))
      (pss_one (ps_ret pe_bl))
      pss_nil)))
      (pss_one (ps_ret pe_bl))), ?_⟩
    walk_at "w"
    refine for_range (fun i σ H' => (∃ v1, σ = [some (.ref a), v1]) ∧ Same H H') ⟨⟨_, rfl⟩, Same.refl _⟩ ?_ ?_
    · rintro i σ H1 hi ⟨⟨v1, rfl⟩, s1⟩
      have hi4 : i < 3 := by
        refine Nat.lt_of_lt_of_le hi ?_
        split <;> split <;> omega
      clear hi
      walk_at "w"
      refine ⟨ns, i, by show [V.ref a, V.int (0 + (i : Int))] = _; rw [Int.zero_add], s1.seq hS, by omega, fun h H3 nh s3 hh => ?_⟩
      refine ⟨h, rfl, hh, fun H4 k4 => ?_⟩
      have s4 : Same H1 H4 := s3.ofKp nh k4
      walk_at "w"
      exact ⟨⟨_, rfl⟩, s1.trans s4⟩
    · rintro σ H1 ⟨⟨v1, rfl⟩, s1⟩
      walk_at "w"
      exact kk _
end K16

namespace K16
open PySem PySem.Spec PyProof.Rows L2 My
theorem facts {K : PySem.W.Frag} {h : Heap} {mg : Str → Option Value} (X : K.In h) (G : h.Ns mainGlobals mg) (c : He.SaysD fa fn K) (cx : (ex.all fun f => f K) = true) : ∃ φ : Fds, Txt K mg φ := by
  obtain ⟨d0, F0⟩ := c.def_ 0 (d := h_is_whole) rfl
  obtain ⟨d1, F1⟩ := c.def_ 1 (d := h_common_part) rfl
  obtain ⟨d2, F2⟩ := c.def_ 2 (d := h_written) rfl
  obtain ⟨d3, F3⟩ := c.def_ 3 (d := h_Measure_init) rfl
  obtain ⟨d4, F4⟩ := c.def_ 4 (d := h_Measure_eq) rfl
  obtain ⟨d5, F5⟩ := c.def_ 5 (d := h_Measure_str) rfl
  obtain ⟨d6, F6⟩ := c.def_ 6 (d := h_Measure_repr) rfl
  obtain ⟨d7, F7⟩ := c.def_ 7 (d := h_Measure_is_below) rfl
  obtain ⟨d8, F8⟩ := c.def_ 8 (d := h_is_measure_or_none) rfl
  obtain ⟨d9, F9⟩ := c.def_ 9 (d := h_slip_of) rfl
  obtain ⟨d10, F10⟩ := c.def_ 10 (d := h_are_marks) rfl
  obtain ⟨d11, F11⟩ := c.def_ 11 (d := h_is_rule) rfl
  obtain ⟨d12, F12⟩ := c.def_ 12 (d := h_is_span) rfl
  obtain ⟨d13, F13⟩ := c.def_ 13 (d := h_bound_text) rfl
  obtain ⟨d14, F14⟩ := c.def_ 14 (d := h_Ladder_init) rfl
  obtain ⟨d15, F15⟩ := c.def_ 15 (d := h_Ladder_eq) rfl
  obtain ⟨d16, F16⟩ := c.def_ 16 (d := h_Ladder_str) rfl
  obtain ⟨d17, F17⟩ := c.def_ 17 (d := h_Ladder_repr) rfl
  obtain ⟨d18, F18⟩ := c.def_ 18 (d := h_Ladder_len) rfl
  obtain ⟨d19, F19⟩ := c.def_ 19 (d := h_l_hand) rfl
  obtain ⟨d20, F20⟩ := c.def_ 20 (d := h_l_take) rfl
  obtain ⟨d21, F21⟩ := c.def_ 21 (d := h_l_of) rfl
  obtain ⟨d22, F22⟩ := c.def_ 22 (d := h_l_ladder) rfl
  obtain ⟨d23, F23⟩ := c.def_ 23 (d := h_l_near) rfl
  obtain ⟨d24, F24⟩ := c.def_ 24 (d := h_l_measure) rfl
  obtain ⟨d25, F25⟩ := c.def_ 25 (d := h_l_end) rfl
  obtain ⟨d26, F26⟩ := c.def_ 26 (d := h_l_made) rfl
  obtain ⟨d27, F27⟩ := c.def_ 27 (d := h_l_lowest) rfl
  obtain ⟨d28, F28⟩ := c.def_ 28 (d := h_l_shown) rfl
  obtain ⟨d29, F29⟩ := c.def_ 29 (d := h_l_named) rfl
  obtain ⟨d30, F30⟩ := c.def_ 30 (d := h_l_text) rfl
  obtain ⟨d31, F31⟩ := c.def_ 31 (d := h_l_name) rfl
  obtain ⟨d32, F32⟩ := c.def_ 32 (d := h_l_others) rfl
  obtain ⟨d33, F33⟩ := c.def_ 33 (d := h_l_are) rfl
  obtain ⟨d34, F34⟩ := c.def_ 34 (d := h_l_right) rfl
  obtain ⟨d35, F35⟩ := c.def_ 35 (d := h_law) rfl
  refine ⟨⟨d0, d1, d2, d3, d4, d5, d6, d7, d8, d9, d10, d11, d12, d13, d14, d15, d16, d17, d18, d19, d20, d21, d22, d23, d24, d25, d26, d27, d28, d29, d30, d31, d32, d33, d34, d35⟩, ?_⟩
  exact {
    g_is_whole := He.glo_ok X G (c.fact 0 (f := .glo "is_whole") rfl),
    g_common_part := He.glo_ok X G (c.fact 1 (f := .glo "common_part") rfl),
    g_written := He.glo_ok X G (c.fact 2 (f := .glo "written") rfl),
    g_is_measure_or_none := He.glo_ok X G (c.fact 3 (f := .glo "is_measure_or_none") rfl),
    g_slip_of := He.glo_ok X G (c.fact 4 (f := .glo "slip_of") rfl),
    g_are_marks := He.glo_ok X G (c.fact 5 (f := .glo "are_marks") rfl),
    g_is_rule := He.glo_ok X G (c.fact 6 (f := .glo "is_rule") rfl),
    g_is_span := He.glo_ok X G (c.fact 7 (f := .glo "is_span") rfl),
    g_bound_text := He.glo_ok X G (c.fact 8 (f := .glo "bound_text") rfl),
    g_l_hand := He.glo_ok X G (c.fact 9 (f := .glo "_law_hand") rfl),
    g_l_take := He.glo_ok X G (c.fact 10 (f := .glo "_law_take") rfl),
    g_l_of := He.glo_ok X G (c.fact 11 (f := .glo "_law_of") rfl),
    g_l_ladder := He.glo_ok X G (c.fact 12 (f := .glo "_law_ladder") rfl),
    g_l_near := He.glo_ok X G (c.fact 13 (f := .glo "_law_near") rfl),
    g_l_measure := He.glo_ok X G (c.fact 14 (f := .glo "_law_measure") rfl),
    g_l_end := He.glo_ok X G (c.fact 15 (f := .glo "_law_end") rfl),
    g_l_made := He.glo_ok X G (c.fact 16 (f := .glo "_law_made") rfl),
    g_l_lowest := He.glo_ok X G (c.fact 17 (f := .glo "_law_lowest") rfl),
    g_l_shown := He.glo_ok X G (c.fact 18 (f := .glo "_law_shown") rfl),
    g_l_named := He.glo_ok X G (c.fact 19 (f := .glo "_law_named") rfl),
    g_l_text := He.glo_ok X G (c.fact 20 (f := .glo "_law_text") rfl),
    g_l_name := He.glo_ok X G (c.fact 21 (f := .glo "_law_name") rfl),
    g_l_others := He.glo_ok X G (c.fact 22 (f := .glo "_law_others") rfl),
    g_l_are := He.glo_ok X G (c.fact 23 (f := .glo "_law_are") rfl),
    g_l_right := He.glo_ok X G (c.fact 24 (f := .glo "_law_right") rfl),
    g_law := He.glo_ok X G (c.fact 25 (f := .glo "law") rfl),
    g_Measure := He.glo_ok X G (c.fact 26 (f := .glo "Measure") rfl),
    g_Ladder := He.glo_ok X G (c.fact 27 (f := .glo "Ladder") rfl),
    g_RULES := He.glo_ok X G (c.fact 28 (f := .glo "RULES") rfl),
    v_MOST_MARKS := He.int_ok X G (c.fact 29 (f := .int "MOST_MARKS" 24) rfl),
    z_abs := He.free_ok X G (c.fact 30 (f := .free "abs") rfl),
    z_all := He.free_ok X G (c.fact 31 (f := .free "all") rfl),
    z_any := He.free_ok X G (c.fact 32 (f := .free "any") rfl),
    z_bool := He.free_ok X G (c.fact 33 (f := .free "bool") rfl),
    z_divmod := He.free_ok X G (c.fact 34 (f := .free "divmod") rfl),
    z_int := He.free_ok X G (c.fact 35 (f := .free "int") rfl),
    z_isinstance := He.free_ok X G (c.fact 36 (f := .free "isinstance") rfl),
    z_len := He.free_ok X G (c.fact 37 (f := .free "len") rfl),
    z_max := He.free_ok X G (c.fact 38 (f := .free "max") rfl),
    z_min := He.free_ok X G (c.fact 39 (f := .free "min") rfl),
    z_range := He.free_ok X G (c.fact 40 (f := .free "range") rfl),
    z_repr := He.free_ok X G (c.fact 41 (f := .free "repr") rfl),
    z_str := He.free_ok X G (c.fact 42 (f := .free "str") rfl),
    z_tuple := He.free_ok X G (c.fact 43 (f := .free "tuple") rfl),
    cl_Measure := He.cls_ok (c.fact 44 (f := .cls "Measure") rfl),
    na_Measure_top := He.noat_ok (c.fact 45 (f := .noat "Measure" "top") rfl),
    na_Measure_bottom := He.noat_ok (c.fact 46 (f := .noat "Measure" "bottom") rfl),
    me_Measure_eq := He.meth_ok (c.fact 47 (f := .meth "Measure" "__eq__") rfl),
    me_Measure_str := He.meth_ok (c.fact 48 (f := .meth "Measure" "__str__") rfl),
    me_Measure_repr := He.meth_ok (c.fact 49 (f := .meth "Measure" "__repr__") rfl),
    me_Measure_is_below := He.meth_ok (c.fact 50 (f := .meth "Measure" "is_below") rfl),
    mk_Measure := He.mkr_ok (c.fact 51 (f := .mkr "Measure") rfl),
    cl_Ladder := He.cls_ok (c.fact 52 (f := .cls "Ladder") rfl),
    na_Ladder_marks := He.noat_ok (c.fact 53 (f := .noat "Ladder" "marks") rfl),
    na_Ladder_rule := He.noat_ok (c.fact 54 (f := .noat "Ladder" "rule") rfl),
    na_Ladder_least := He.noat_ok (c.fact 55 (f := .noat "Ladder" "least") rfl),
    na_Ladder_most := He.noat_ok (c.fact 56 (f := .noat "Ladder" "most") rfl),
    me_Ladder_eq := He.meth_ok (c.fact 57 (f := .meth "Ladder" "__eq__") rfl),
    me_Ladder_str := He.meth_ok (c.fact 58 (f := .meth "Ladder" "__str__") rfl),
    me_Ladder_repr := He.meth_ok (c.fact 59 (f := .meth "Ladder" "__repr__") rfl),
    me_Ladder_len := He.meth_ok (c.fact 60 (f := .meth "Ladder" "__len__") rfl),
    mk_Ladder := He.mkr_ok (c.fact 61 (f := .mkr "Ladder") rfl),
    ii_Measure := isC_ok (ex_at cx 0 (f := isCB "Measure") rfl),
    ii_Ladder := isC_ok (ex_at cx 1 (f := isCB "Ladder") rfl),
    ec_Measure := eqC_ok (ex_at cx 2 (f := eqCB "Measure") rfl),
    ec_Ladder := eqC_ok (ex_at cx 3 (f := eqCB "Ladder") rfl),
    ed_Ladder := eqD_ok (ex_at cx 4 (f := eqDB "Ladder") rfl),
    fm_Measure := fmC_ok (ex_at cx 5 (f := fmCB "Measure") rfl),
    nf_Ladder_Measure := nf_ok (ex_at cx 6 (f := nfB "Ladder" "Measure") rfl),
    nf_Measure_Ladder := nf_ok (ex_at cx 7 (f := nfB "Measure" "Ladder") rfl),
    tp_RULES := tup_ok (ex_at cx 8 (f := tupB "RULES" ["up", "down", "near"]) rfl),
    k_Measure_Measure := kitF_ok (ex_at cx 9 (f := kitF (.inl "Measure") (.inl "Measure") true) rfl),
    k_Ladder_Ladder := kitF_ok (ex_at cx 10 (f := kitF (.inl "Ladder") (.inl "Ladder") true) rfl),
    k_Measure_Ladder := kitF_ok (ex_at cx 11 (f := kitF (.inl "Measure") (.inl "Ladder") false) rfl),
    k_Ladder_Measure := kitF_ok (ex_at cx 12 (f := kitF (.inl "Ladder") (.inl "Measure") false) rfl),
    f_is_whole := F0,
    f_common_part := F1,
    f_written := F2,
    f_Measure_init := F3,
    f_Measure_eq := F4,
    f_Measure_str := F5,
    f_Measure_repr := F6,
    f_Measure_is_below := F7,
    f_is_measure_or_none := F8,
    f_slip_of := F9,
    f_are_marks := F10,
    f_is_rule := F11,
    f_is_span := F12,
    f_bound_text := F13,
    f_Ladder_init := F14,
    f_Ladder_eq := F15,
    f_Ladder_str := F16,
    f_Ladder_repr := F17,
    f_Ladder_len := F18,
    f_l_hand := F19,
    f_l_take := F20,
    f_l_of := F21,
    f_l_ladder := F22,
    f_l_near := F23,
    f_l_measure := F24,
    f_l_end := F25,
    f_l_made := F26,
    f_l_lowest := F27,
    f_l_shown := F28,
    f_l_named := F29,
    f_l_text := F30,
    f_l_name := F31,
    f_l_others := F32,
    f_l_are := F33,
    f_l_right := F34,
    f_law := F35 }
end K16
open PySem PySem.W PySem.Calls PyProof.Rows
set_option maxRecDepth 100000 in
set_option maxHeartbeats 0 in
theorem PySem.Challenge.cw_sizeladders_k16_ladders_shown_and_alike_holds : PySem.Challenge.rw_sizeladders_k16_ladders_shown_and_alike.Holds := by
  w_on; o_law
  refine HandSHeadRun.head_any (r := OpenLaw.row PySem.Challenge.rw_sizeladders_k16_ladders_shown_and_alike) (q := view (OpenLaw.row PySem.Challenge.rw_sizeladders_k16_ladders_shown_and_alike).prog [43]) (H := K16.hk) (ob := K16.ob) (M := 20000) (loose := [("_wall" : PySem.Str), ("LadderError" : PySem.Str), ("NoMeasure" : PySem.Str), ("NoLadder" : PySem.Str), ("Slip" : PySem.Str), ("NoBottom" : PySem.Str), ("is_whole" : PySem.Str), ("common_part" : PySem.Str), ("written" : PySem.Str), ("Measure" : PySem.Str), ("is_measure_or_none" : PySem.Str), ("slip_of" : PySem.Str), ("MOST_MARKS" : PySem.Str), ("RULES" : PySem.Str), ("are_marks" : PySem.Str), ("is_rule" : PySem.Str), ("is_span" : PySem.Str), ("midsts_of" : PySem.Str), ("size_by_rule" : PySem.Str), ("bound_text" : PySem.Str), ("Ladder" : PySem.Str), ("_law_hand" : PySem.Str), ("_law_take" : PySem.Str), ("_law_of" : PySem.Str), ("_law_ladder" : PySem.Str), ("_law_near" : PySem.Str), ("_law_measure" : PySem.Str), ("_law_end" : PySem.Str), ("_law_made" : PySem.Str), ("_law_lowest" : PySem.Str), ("_law_shown" : PySem.Str), ("_law_named" : PySem.Str), ("_law_text" : PySem.Str), ("_law_name" : PySem.Str), ("_law_others" : PySem.Str), ("_law_are" : PySem.Str), ("_law_right" : PySem.Str)]) (d := HandSHeadRun.topDef (OpenLaw.row PySem.Challenge.rw_sizeladders_k16_ladders_shown_and_alike).prog 43) (kwd := []) K16.ob_eq
    (by kernel_rfl) (fun s => by kernel_rfl) K16.run (by kernel_rfl) (by kernel_rfl) (by kernel_rfl) (by rfl) (by first | assumption | decide +kernel) (by decide +kernel) ⟨rfl, rfl, rfl, rfl, rfl, by decide +kernel⟩ ?hw ?hc
  case hw => w_witness2
  case hc =>
    refine My.walk_G (l := PySem.Challenge.rw_sizeladders_k16_ladders_shown_and_alike) (n := 63) (k := 11) (x := "_law_script") (CX := L2.CX0) rfl (by decide) (by kernel_rfl) ⟨rfl, by decide, by decide⟩ ?F (fun _ _ _ _ z => z)
    intro w mg fa h Y G hmg0
    obtain ⟨K, KX, c, cx⟩ := Y
    have hmg : mg ("law" : PySem.Str) = some (.ref fa) := by
      have e : (HandSHeadRun.topDef (OpenLaw.row PySem.Challenge.rw_sizeladders_k16_ladders_shown_and_alike).prog 43).name = ("law" : PySem.Str) := by kernel_rfl
      rw [← e]
      exact hmg0
    obtain ⟨φ, T⟩ := K16.facts KX G c cx
    have e := hmg.symm.trans T.g_law
    cases e
    have b := L2.FunD.bindsA (ps := K16.p_law) T.f_law fun _ _ _ _ _ _ us hl => match us, hl with | [_], _ => rfl
    exact ⟨K, φ.law, K16.sp_law K, KX, fun s v => b s [v] rfl, fun H a ns hl _ hS => ⟨a, ns, rfl, hS, hl, fun _ => rfl⟩, fun base _ _ => K16.ok_law T⟩
