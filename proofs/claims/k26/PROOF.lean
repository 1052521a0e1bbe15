import PyProof.Rows.All
import Wide.All
import OpenK.AllK
import Wide.FinOn
import KE.KStateDown
import HandS.ForMost
import HandS.More
import HandS.WordsExc
import HandS.Defaults
import HandS.MakeKw
import HandS.MakeKwOnly
import HandS.Wide
import HandS.IsInst
import HandS.Flow
import HandS.Style
import HandS.OwnEq
import HandS.Head0
import HandS.Head1
import HandS.Head2
import HandS.HeadEnd
import HandS.HeadHook1
import HandS.HeadHook2
import HandS.ExcIs
import HandS.ExcOwn
import HandS.TryOnly
import HandS.ExcBuiltin
import HandS.FStr
import HandS.Text
import HandS.Codes
import HandS.StrMore
import HandS.Walk
import HandS.Zip
import HandS.Conv
import HandS.Iter
import KE.GoesEnum
import KE.DataMinMax
import HandS.SortKw
import HandS.TupAny
import HandS.FStrTup
import HandS.Deep
import HandS.SetFor
import HandS.Strs
import PyProof.ReprHeadsTuple
import PyProof.ReprNest
import KE.KFmtOwn
import HandS.RevRange
import HandS.ExcInit
import HandS.Nested
import KE.KExcSuper
import HandS.ExcField
import HandS.ExcValue
import PyProof.RowDictHeap
import HandS.TupLe
import KE.KSortKeyAny
import PyProof.Rows.SortShellAny
import KE.KMinKey
import KE.KItemsList
import PyProof.DictUpdate
import HandS.Small
import HandS.SetKeys
import HandS.TupMul
import PySem.Challenge.RW_sizeladders_k26_led_by_own_ends
set_option Elab.async false
set_option linter.all false
set_option maxRecDepth 100000
set_option maxHeartbeats 4000000
namespace My
open PySem PySem.Spec PyProof.Rows L2
/-! ### operators of great numbers -/
section
variable {X : Cx}
theorem op_fd : OpR X (binaryOp .FloorDiv) (rI (fun _ j => j ≠ 0 ∧ j.natAbs.log2 < 9000) fun i j => .int (i.fdiv j)) :=
  opI fun _ _ _ _ _ _ _ hc q => floordiv_int hc.1 q (.inl (PyProof.noPylong_of_log2 hc.2))
theorem op_mulA : OpR X (binaryOp .Mult) (rI (fun i j => CMul i j ∨ CMulW i j) fun i j => .int (i * j)) :=
  opI fun _ _ _ _ _ _ _ hc q => mul_int q (hc.elim (fun h => h.ok) (fun h => h.ok))
/-! ### cuts: what is wanted behind a piece, said by a word of one's own -/
def tCutS (t : TS) : TS := fun D σ H => ∃ J : L2.St → Hp → Prop, t { D with nx := J } σ H ∧ ∀ σ' H', J σ' H' → D.nx σ' H'
theorem ps_cut {st : Stmt} {t : TS} (h : PS X st t) : PS X st (tCutS t) := by
  refine ⟨fun pins s σ H D I hw => ?_⟩
  obtain ⟨J, h1, h2⟩ := hw
  refine thn (h.run pins s σ H _ I h1) fun f s' q => ?_
  cases f with
  | next => obtain ⟨σ', H', I', q'⟩ := q; exact ⟨σ', H', I', h2 _ _ q'⟩
  | brk => exact q
  | cont => exact q
  | ret u => exact q
def tCutE (t : TE) : TE := fun σ H Q => ∃ J : V → Hp → Prop, t σ H J ∧ ∀ v H', J v H' → Q v H'
theorem pe_cut {e : Expr} {t : TE} (h : PE X e t) : PE X e (tCutE t) := by
  refine ⟨fun pins s σ H Q I hw => ?_⟩
  obtain ⟨J, h1, h2⟩ := hw
  exact thn (h.run pins s σ H _ I h1) fun u s' ⟨v, H', I', r, q'⟩ => ⟨v, H', I', r, h2 _ _ q'⟩
/-! ### calls by keywords -/
variable {CX : CXT} {k n : Nat} {f C : Addr} {fd : FuncData} {ps ks : List Str} {sp : Sp} {E : XK} {x m : Str} {p pos apos : Pos} {o e : Expr} {es : List Expr} {kws : List Keyword} {ta : TE} {t tk : TA} {g : List Value → List Value → List Value} {gV : List V → List V → List V}
/-- f(k = v, ..) -/
theorem pe_callK0 (F : FnOk X.prog X.w X.K X.mg X.base CX k f fd ps sp) (hr : Room k X.A) (hg : Gl X x) (hm : X.mg x = some (.ref f)) (hk : PySem.W.keepIn X.K (.ref f) = true) (hb : KBn X.K fd ps 0 ks g gV) (hx : Passes CX X E)
    (hkw : PK X kws tk) (hall : (backToKw pos (keywordEach kws X.env)).all (·.1.isSome) = true := by rfl) (hks : (backToKw pos (keywordEach kws X.env)).filterMap (·.1) = ks := by rfl)
    (hdb : (x == ("__debug__" : Str)) = false := by decide) (hpl : ((backTo pos (starEach [] X.env)).any (·.1) || (backToKw pos (keywordEach kws X.env)).any (·.1.isNone)) = false := by rfl) :
    PE X (.Call (.Name x p) [] kws pos) (tCallN 0 ks.length sp gV E tNil tk) := by
  refine ⟨fun pins s σ H Q I h => ?_⟩
  refine wpAny_Call_Name_kw (ld_glob I hg hm ?_ hdb)
  refine PySem.W.callWith_KW0 (h₀ := X.base) I.ok.mod.kin hk hall ?_ hpl
  refine thn (hkw.run pos pins s σ H _ I h) fun ws s2 ⟨zs, H2, I2, rz, l1, l2, q2⟩ => ⟨I2.kIn, ?_⟩
  rw [hks]
  exact run_fnN (us := []) (vs := []) F hr hb hx I2 .nil rz rfl l2 q2
end
theorem kb_none {K : PySem.W.Frag} {x qual : Str} {params : Arguments} {body : List Stmt} {scope : Scope} {kws : List (Str × V)} {f : Addr} {fd : FuncData} {ps : List Str} {n : Nat} {ks : List Str}
    (F : FunD K x qual params body scope [] kws f fd) (g : {α : Type} → List α → List α → List α)
    (hrel : ∀ {vs zs : List V} {us ws : List Value}, Vals vs us → Vals zs ws → Vals (g vs zs) (g us ws))
    (h : ∀ (kV doc pm : Value) (an : Option Addr) (cdv ct : Value) (us ws : List Value), us.length = n → ws.length = ks.length → bindArgs (PySem.W.fnOf x qual params body scope .none kV doc pm an cdv ct) ⟨us, ks.zip ws⟩ = pure (ps.zip (g us ws))) :
    KBn K fd ps n ks (fun us ws => g us ws) (fun vs zs => g vs zs) := by
  obtain ⟨oc, od, dV, kV, doc, pm, an, cdv, ct, osl, rfl, lk, hcd, hD, hK⟩ := F.ex
  rcases hD with ⟨_, rfl⟩ | ⟨e, _⟩
  · exact ⟨fun s us ws X l1 l2 => .of_eq (h kV doc pm an cdv ct us ws l1 l2), fun r1 r2 => hrel r1 r2⟩
  · exact absurd rfl e
/-! ### heaps -/
theorem up1 {H : Hp} {p x : Addr} {o u : HO} (hp : H p = none) (hx : H x = some o) : upd H p u x = some o := by
  rw [upd_ne (ne_of_none hx hp)]; exact hx
theorem same1 {H : Hp} {p : Addr} {u : HO} (hp : H p = none) : Same H (upd H p u) := fun _ _ e => up1 hp e
theorem _root_.L2.Same.sqt {K : PySem.W.Frag} {H H' : Hp} {a : Addr} {xs : List V} (e : Same H H') (h : SqT K H a xs) : SqT K H' a xs := by
  rcases h with (h | ⟨o, h⟩) | h
  · exact .inl (.inl (e _ _ h))
  · exact .inl (.inr ⟨o, e _ _ h⟩)
  · exact .inr h
/-- all stays but what stands at h -/
def Kp (h : Addr) (H H' : Hp) : Prop := ∀ b o, H b = some o → b ≠ h → H' b = some o
theorem Kp.refl (h : Addr) (H : Hp) : Kp h H H := fun _ _ e _ => e
theorem Kp.trans {h : Addr} {H H1 H2 : Hp} (a : Kp h H H1) (b : Kp h H1 H2) : Kp h H H2 := fun c o e n => b c o (a c o e n) n
theorem Kp.same {h : Addr} {H H1 : Hp} (a : Same H H1) : Kp h H H1 := fun c o e _ => a c o e
theorem Kp.up {h p : Addr} {H H1 : Hp} {u : HO} (a : Kp h H H1) (hp : H1 p = none) : Kp h H (upd H1 p u) := fun c o e n => up1 hp (a c o e n)
theorem Kp.set {h : Addr} {H H1 : Hp} {u : HO} (a : Kp h H H1) : Kp h H (upd H1 h u) := fun c o e n => by
  rw [upd_ne n]; exact a c o e n
/-- a list other than that at h, the script among them -/
theorem Kp.seq {K : PySem.W.Frag} {h a : Addr} {H H1 : Hp} {xs : List V} (k : Kp h H H1) (n : a ≠ h) (s : SqL K H a xs) : SqL K H1 a xs := by
  rcases s with (s | ⟨o, s⟩) | s
  · exact .inl (.inl (k _ _ s n))
  · exact .inl (.inr ⟨o, k _ _ s n⟩)
  · exact .inr s
/-! ### the hand: a list of three ints, drawn from -/
def HandAt (H : Hp) (h : Addr) (n : Nat) : Prop := ∃ a b c : Int, H h = some (.lst [.int a, .int b, .int c]) ∧ 0 ≤ a ∧ 0 ≤ b ∧ b < 4611686018427387904 ∧ 0 ≤ c ∧ c ≤ n
theorem HandAt.mono {H : Hp} {h : Addr} {n m : Nat} (a : HandAt H h n) (l : n ≤ m) : HandAt H h m := by
  obtain ⟨x, y, z, h1, h2, h3, h4, h5, h6⟩ := a
  exact ⟨x, y, z, h1, h2, h3, h4, h5, by omega⟩
theorem HandAt.same {H H' : Hp} {h : Addr} {n : Nat} (a : HandAt H h n) (s : Same H H') : HandAt H' h n := by
  obtain ⟨x, y, z, h1, h2⟩ := a
  exact ⟨x, y, z, s _ _ h1, h2⟩
theorem HandAt.up {H : Hp} {h p : Addr} {u : HO} {n : Nat} (a : HandAt H h n) (hp : H p = none) : HandAt (upd H p u) h n := a.same (same1 hp)
theorem HandAt.ne {H : Hp} {h p : Addr} {n : Nat} (a : HandAt H h n) (hp : H p = none) : p ≠ h := by
  obtain ⟨x, y, z, h1, _⟩ := a
  exact (ne_of_none h1 hp).symm
def notHand : HO → Bool
  | .lst _ => false
  | _ => true
theorem HandAt.apart {H : Hp} {h p : Addr} {o : HO} {n : Nat} (a : HandAt H h n) (hp : H p = some o) (ho : notHand o = true) : p ≠ h := by
  obtain ⟨x, y, z, h1, _⟩ := a
  exact ne_of hp h1 (by intro e; rw [e] at ho; cases ho)
/-! ### numbers -/
abbrev Sz (k : Nat) (z : Int) : Prop := z.natAbs < 2 ^ k
theorem Sz.mono {a b : Nat} {z : Int} (h : Sz a z) (l : a ≤ b) : Sz b z := Nat.lt_of_lt_of_le h (Nat.pow_le_pow_right (by decide) l)
theorem Sz.mul {a b : Nat} {x y : Int} (h : Sz a x) (g : Sz b y) : Sz (a + b) (x * y) := wide_lt h g
theorem Sz.add {a : Nat} {x y : Int} (h : Sz a x) (g : Sz a y) : Sz (a + 1) (x + y) := by
  show (x + y).natAbs < 2 ^ (a + 1)
  have h1 : x.natAbs < 2 ^ a := h
  have h2 : y.natAbs < 2 ^ a := g
  rw [Nat.pow_succ]; omega
theorem Sz.sub {a : Nat} {x y : Int} (h : Sz a x) (g : Sz a y) : Sz (a + 1) (x - y) := by
  show (x - y).natAbs < 2 ^ (a + 1)
  have h1 : x.natAbs < 2 ^ a := h
  have h2 : y.natAbs < 2 ^ a := g
  rw [Nat.pow_succ]; omega
theorem Sz.le {a : Nat} {x y : Int} (h : Sz a x) (l : y.natAbs ≤ x.natAbs) : Sz a y := Nat.lt_of_le_of_lt l h
theorem Sz.cmul {a b : Nat} {x y : Int} (h : Sz a x) (g : Sz b y) (h0 : 0 < a) (h1 : 0 < b) (l : a + b ≤ 1000000) : CMul x y ∨ CMulW x y := .inr (wide_mul h g h0 h1 l)
theorem Sz.log {a : Nat} {x : Int} (h : Sz a x) (h0 : 0 < a) (l : a ≤ 9000) : x.natAbs.log2 < 9000 := Nat.lt_of_lt_of_le (PySem.Flt.log2_lt_of h0 h) l
theorem dI {i j : Int} : decide (V.int i = V.int j) = decide (i = j) := by
  rw [dec_int, Bool.beq_eq_decide_eq]
/-- t / u is a / b in lowest terms -/
structure Fr (t u a b : Int) : Prop where
  pos : 0 < u
  eq : t * b = a * u
  co : Int.gcd t u = 1
  lt : t.natAbs ≤ a.natAbs
  lu : u.natAbs ≤ b.natAbs
def sgn (b : Int) : Int := if 0 < b then 1 else -1
theorem gcd_step {g s : Int} (hs : 0 < s) (hg : 0 ≤ g) : Int.gcd s (g % s) = Int.gcd g s := by
  obtain ⟨m, rfl⟩ := Int.eq_ofNat_of_zero_le hg
  obtain ⟨n, rfl⟩ := Int.eq_ofNat_of_zero_le (Int.le_of_lt hs)
  show Nat.gcd n (m % n) = Nat.gcd m n
  rw [Nat.gcd_comm m n, Nat.gcd_comm n (m % n), ← Nat.gcd_rec]
theorem fr_mk {a b c : Int} (hb : b ≠ 0) (hc : c = sgn b * (Int.gcd a b : Int)) : c ≠ 0 ∧ c.natAbs ≤ b.natAbs ∧ Fr (a.fdiv c) (b.fdiv c) a b := by
  have g0 : 0 < Int.gcd a b := Int.gcd_pos_of_ne_zero_right a hb
  have gd : (Int.gcd a b : Int) ∣ a := Int.gcd_dvd_left ..
  have gb : (Int.gcd a b : Int) ∣ b := Int.gcd_dvd_right ..
  have hs : sgn b = 1 ∨ sgn b = -1 := by unfold sgn; split <;> simp
  have cd : c ∣ a := by
    rcases hs with e | e <;> rw [hc, e]
    · rw [Int.one_mul]; exact gd
    · rw [Int.neg_one_mul]; exact (Int.neg_dvd).mpr gd
  have cb : c ∣ b := by
    rcases hs with e | e <;> rw [hc, e]
    · rw [Int.one_mul]; exact gb
    · rw [Int.neg_one_mul]; exact (Int.neg_dvd).mpr gb
  have cn : c.natAbs = Int.gcd a b := by
    rcases hs with e | e <;> rw [hc, e]
    · rw [Int.one_mul, Int.natAbs_natCast]
    · rw [Int.neg_one_mul, Int.natAbs_neg, Int.natAbs_natCast]
  have c0 : c ≠ 0 := by
    intro e; rw [e] at cn; simp at cn; omega
  have ta : a.fdiv c * c = a := Int.fdiv_mul_cancel cd
  have tb : b.fdiv c * c = b := Int.fdiv_mul_cancel cb
  have c1 : 1 ≤ c.natAbs := by omega
  have na : a.natAbs = (a.fdiv c).natAbs * c.natAbs := by rw [← Int.natAbs_mul, ta]
  have nb : b.natAbs = (b.fdiv c).natAbs * c.natAbs := by rw [← Int.natAbs_mul, tb]
  refine ⟨c0, ?_, ?_, ?_, ?_, ?_, ?_⟩
  · rw [cn]
    exact Nat.le_of_dvd (by omega) (Int.gcd_dvd_natAbs_right a b)
  · rcases Int.lt_trichotomy b 0 with h | h | h
    · have e : sgn b = -1 := by unfold sgn; rw [if_neg (by omega)]
      have cneg : c < 0 := by rw [hc, e]; omega
      rcases Int.lt_or_le 0 (b.fdiv c) with z | z
      · exact z
      · have : 0 ≤ b.fdiv c * c := Int.mul_nonneg_of_nonpos_of_nonpos z (by omega)
        omega
    · exact absurd h hb
    · have e : sgn b = 1 := by unfold sgn; rw [if_pos h]
      have cpos : 0 < c := by rw [hc, e]; omega
      rcases Int.lt_or_le 0 (b.fdiv c) with z | z
      · exact z
      · have : b.fdiv c * c ≤ 0 := Int.mul_nonpos_of_nonpos_of_nonneg z (by omega)
        omega
  · have : a.fdiv c * (b.fdiv c * c) = a.fdiv c * c * b.fdiv c := by
      rw [Int.mul_assoc, Int.mul_comm c]
    rw [tb, ta] at this
    exact this
  · have e : Int.gcd a b = Int.gcd (a.fdiv c) (b.fdiv c) * c.natAbs := by
      have := Int.gcd_mul_right (a.fdiv c) c (b.fdiv c)
      rw [ta, tb] at this
      exact this
    rw [← cn] at e
    have e2 : 1 * c.natAbs = Int.gcd (a.fdiv c) (b.fdiv c) * c.natAbs := by rw [Nat.one_mul]; exact e
    exact (Nat.eq_of_mul_eq_mul_right (by omega) e2).symm
  · rw [na]; exact Nat.le_mul_of_pos_right _ (by omega)
  · rw [nb]; exact Nat.le_mul_of_pos_right _ (by omega)
/-! ### a Measure -/
def mf (t u : Int) : List (Str × V) := [("top", .int t), ("bottom", .int u)]
theorem ne_tb : ¬ (("top" : Str) = "bottom") := by decide +kernel
theorem mf_put (t u : Int) : putF "bottom" (.int u) (putF "top" (.int t) []) = mf t u := by
  show (if ("top" : Str) = "bottom" then [(("top" : Str), V.int u)] else (("top" : Str), V.int t) :: putF "bottom" (V.int u) []) = mf t u
  rw [if_neg ne_tb] <;> rfl
theorem mf_top (t u : Int) : (mf t u).lookup ("top" : Str) = some (.int t) := by
  rw [← mf_put, lookup_putF, if_neg ne_tb, lookup_putF, if_pos rfl]
theorem mf_bottom (t u : Int) : (mf t u).lookup ("bottom" : Str) = some (.int u) := by
  rw [← mf_put, lookup_putF, if_pos rfl]
theorem mf_no (t u : Int) {m : Str} (h1 : ¬ m = "top") (h2 : ¬ m = "bottom") : (mf t u).lookup m = none := by
  rw [← mf_put, lookup_putF, if_neg h2, lookup_putF, if_neg h1] <;> rfl
def MAt (C : Addr) (H : Hp) (p : Addr) (t u : Int) : Prop := ∃ dx, H p = some (.ins C dx (mf t u))
theorem MAt.same {C p : Addr} {H H' : Hp} {t u : Int} (m : MAt C H p t u) (s : Same H H') : MAt C H' p t u := by
  obtain ⟨dx, h⟩ := m; exact ⟨dx, s _ _ h⟩
theorem MAt.kp {C p h : Addr} {H H' : Hp} {t u : Int} {n : Nat} (m : MAt C H p t u) (hh : HandAt H h n) (s : Kp h H H') : MAt C H' p t u := by
  obtain ⟨dx, e⟩ := m; exact ⟨dx, s _ _ e (hh.apart e rfl)⟩
def sp_minit (C : Addr) : Sp := fun vs H Q _ => ∃ (p dx : Addr) (a b : Int), vs = [.ref p, .int a, .int b] ∧ H p = some (.ins C dx []) ∧ b ≠ 0 ∧ b.natAbs.log2 < 9000 ∧
  ∀ (t u : Int) (H' : Hp), Fr t u a b → H' p = some (.ins C dx (mf t u)) → (∀ c o, H c = some o → c ≠ p → H' c = some o) → Q .non H'
theorem made {C : Addr} {H : Hp} {Q : VK} {E : XK} {a b : Int} (hb : b ≠ 0) (hl : b.natAbs.log2 < 9000) (k : ∀ (p : Addr) (t u : Int) (H' : Hp), H p = none → Same H H' → MAt C H' p t u → Fr t u a b → Q (.ref p) H') :
    ∀ x dx, H x = none → H dx = none → dx ≠ x → sp_minit C [.ref x, .int a, .int b] (upd (upd H dx (.own x)) x (.ins C dx [])) (fun v H2 => v = .non ∧ Q (.ref x) H2) E := by
  intro x dx nx nd ne
  refine ⟨x, dx, a, b, rfl, upd_same, hb, hl, fun t u H' fr hx kp => ⟨rfl, ?_⟩⟩
  refine k x t u H' nx (fun c o e => ?_) ⟨dx, hx⟩ fr
  have n1 : c ≠ x := ne_of_none e nx
  refine kp c o ?_ n1
  rw [upd_ne n1]
  exact up1 nd e
def sp_whole : Sp := fun vs H Q _ => ∃ n : Int, vs = [.int n] ∧ Q (.bl true) H
def sp_common : Sp := fun vs H Q _ => ∃ a b : Int, vs = [.int a, .int b] ∧ Q (.int (Int.gcd a b : Int)) H
def lessA (t u t' u' : Int) (al : Bool) : Bool := decide (t * u' < t' * u) || (al && decide (t * u' = t' * u))
def sp_below (C : Addr) : Sp := fun vs H Q _ => ∃ (p q : Addr) (t u t' u' : Int) (al : Bool), vs = [.ref p, .ref q, .bl al] ∧ MAt C H p t u ∧ MAt C H q t' u' ∧ Sz 9000 t ∧ Sz 9000 u ∧ Sz 9000 t' ∧ Sz 9000 u' ∧ Q (.bl (lessA t u t' u' al)) H
theorem Kp.get {h q : Addr} {H H' : Hp} {o : HO} {n : Nat} (k : Kp h H H') (hh : HandAt H h n) (e : H q = some o) (no : notHand o = true) : H' q = some o := k _ _ e (hh.apart e no)
theorem _root_.L2.Same.get {q : Addr} {H H' : Hp} {o : HO} (k : Same H H') (e : H q = some o) : H' q = some o := k _ _ e
theorem _root_.L2.Same.ofKp {h : Addr} {H H1 H2 : Hp} (s : Same H H1) (nh : H h = none) (k : Kp h H1 H2) : Same H H2 := fun c o e => k c o (s c o e) (ne_of_none e nh)
theorem _root_.L2.Same.up {p : Addr} {H H1 : Hp} {u : HO} (s : Same H H1) (hp : H1 p = none) : Same H (upd H1 p u) := s.trans (same1 hp)
theorem isTrueN {b : Bool} (h : ¬ b = true) : b = false := by cases b <;> simp_all
theorem sgn_cases (b : Int) : sgn b = 1 ∨ sgn b = -1 := by unfold sgn; split <;> simp
/-! ### rules with the written part by its name (for the blocks of comprehensions) -/
section
variable {X : Cx} {K : PySem.W.Frag}
theorem ixl (hK : X.K = K := by rfl) : IxR X (rIxL K) := by subst hK; exact ix_list
theorem ixt (hK : X.K = K := by rfl) : IxR X (rIxT K) := by subst hK; exact ix_tup
theorem isi (hK : X.K = K := by rfl) : CallR X (.builtin "isinstance") (rIsi K) := by subst hK; exact call_isi
def rLenS (K : PySem.W.Frag) : List V → Hp → VK → Prop := fun xs H Q => ∃ p ys, xs = [.ref p] ∧ (SqL K H p ys ∨ SqT K H p ys) ∧ Q (.int (ys.length : Int)) H
theorem lenS (hK : X.K = K := by rfl) : CallR X (.builtin "len") (rLenS K) := by subst hK; exact call_len_seq
theorem allK (hK : X.K = K := by rfl) (hc : X.calm = true := by rfl) : CallR X (.builtin "all") (rAll K) := by subst hK; exact cr_all hc
theorem eqDK (hu : X.A.units + 64 < cLine) (hK : X.K = K := by rfl) : OpR X (compareOp .Eq) (rEqD K) := by subst hK; exact op_eqD hu
theorem neDK (hu : X.A.units + 64 < cLine) (hK : X.K = K := by rfl) : OpR X (compareOp .NotEq) (rNeD K) := by subst hK; exact op_neD hu
theorem inK (hK : X.K = K := by rfl) : OpR X (compareOp .In) (rIn K false) := by subst hK; exact op_in_seq
theorem slL (hK : X.K = K := by rfl) : SlR X (rSlL K) := by subst hK; exact sl_list
theorem fldK {e : Expr} {f : Str} {pos : Pos} {ta : TE} (he : PE X e ta) (hb : attributeBase e f X.env (eval e X.env) = eval e X.env) (hK : X.K = K := by rfl) : PE X (.Attribute e f pos) (tFld K ta f) := by subst hK; exact pe_fld he hb
end
theorem yesT {te : TE} {σ : L2.St} {H : Hp} {N : VK} {M : Hp → Prop} (h : te σ H N) : tYes σ H (fun b H3 => if b = true then te σ H3 N else M H3) := by
  show (if true = true then te σ H N else M H)
  rw [if_pos rfl]; exact h
theorem made_same {H H' : Hp} {x dx C : Addr} (nx : H x = none) (nd : H dx = none) (kp : ∀ c o, (upd (upd H dx (.own x)) x (.ins C dx [])) c = some o → c ≠ x → H' c = some o) : Same H H' := fun c o e => by
  have n1 : c ≠ x := ne_of_none e nx
  refine kp c o ?_ n1
  rw [upd_ne n1]
  exact up1 nd e
/-! ### the head's facts, and more of them -/
theorem ex_at {ex : List (PySem.W.Frag → Bool)} {K : PySem.W.Frag} (c : (ex.all fun f => f K) = true) (i : Nat) {f : PySem.W.Frag → Bool} (h : ex[i]? = some f) : f K = true := List.all_eq_true.mp c f (List.mem_of_getElem? h)
/-- what isinstance asks of an own class -/
structure IsC (K : PySem.W.Frag) (C : Addr) : Prop where
  ha : PySem.W.findIn K (.ref C) "__class__" = some (some (.builtin "object.__class__"))
  hn : PySem.W.specialIn K (.builtin "object.__class__") "__get__" = some (some (.builtin "getset_descriptor.__get__"))
  htk : PySem.W.takesIn K (.builtin "object.__class__") = some true
  hm : PySem.W.mroIn K C (.type "object") = some true
def isCB (x : Str) : PySem.W.Frag → Bool := fun K => He.eqO (PySem.W.findIn K (.ref (He.ga K x)) "__class__") (some (some (.builtin "object.__class__"))) && (He.eqO (PySem.W.specialIn K (.builtin "object.__class__") "__get__") (some (some (.builtin "getset_descriptor.__get__"))) &&
  (decide (PySem.W.takesIn K (.builtin "object.__class__") = some true) && decide (PySem.W.mroIn K (He.ga K x) (.type "object") = some true)))
theorem isC_ok {x : Str} {K : PySem.W.Frag} (c : isCB x K = true) : IsC K (He.ga K x) := by
  obtain ⟨c1, c⟩ := He.ba c
  obtain ⟨c2, c⟩ := He.ba c
  obtain ⟨c3, c4⟩ := He.ba c
  exact ⟨He.eqO_ok c1, He.eqO_ok c2, of_decide_eq_true c3, of_decide_eq_true c4⟩
/-- a class by name: an own one, a built-in one -/
def cv (K : PySem.W.Frag) : Str ⊕ String → Value
  | .inl x => .ref (He.ga K x)
  | .inr n => .type n
def kitF (a b : Str ⊕ String) (r : Bool) : PySem.W.Frag → Bool := fun K => decide (PySem.W.kitOne K (cv K a) (cv K b) = some r)
theorem kitF_ok {a b : Str ⊕ String} {r : Bool} {K : PySem.W.Frag} (c : kitF a b r K = true) : PySem.W.kitOne K (cv K a) (cv K b) = some r := of_decide_eq_true c
theorem tyM {K : PySem.W.Frag} {H : Hp} {a C dx : Addr} {fs : List (Str × V)} (e : H a = some (.ins C dx fs)) (cl : Cls K C) (i : IsC K C) : TyX K H (.ref a) (.ref C) := .base (.ins e cl i.ha i.hn i.htk i.hm)
/-! ### sums and parts of Measures -/
/-- the same fraction once more -/
theorem Fr.of {t u a b c d : Int} (f : Fr t u a b) (hb : b ≠ 0) (e : a * d = c * b) : t * d = c * u := by
  have h1 := f.eq
  have h2 : (t * d) * b = (c * u) * b := by
    calc (t * d) * b = (t * b) * d := by simp only [Int.mul_assoc, Int.mul_comm, Int.mul_left_comm]
      _ = (a * u) * d := by rw [h1]
      _ = (a * d) * u := by simp only [Int.mul_assoc, Int.mul_comm, Int.mul_left_comm]
      _ = (c * b) * u := by rw [e]
      _ = (c * u) * b := by simp only [Int.mul_assoc, Int.mul_comm, Int.mul_left_comm]
  exact Int.eq_of_mul_eq_mul_right hb h2
/-- what stood at the start stands (by another name than the steps') -/
structure Old (H H' : Hp) : Prop where
  s : Same H H'
theorem Old.refl (H : Hp) : Old H H := ⟨Same.refl _⟩
theorem Old.up {p : Addr} {H H1 : Hp} {u : HO} (a : Old H H1) (hp : H1 p = none) : Old H (upd H1 p u) := ⟨a.s.up hp⟩
theorem Old.then {H H1 H2 : Hp} (a : Old H H1) (b : Same H1 H2) : Old H H2 := ⟨a.s.trans b⟩
theorem Old.kp {h : Addr} {H H1 H2 : Hp} (a : Old H H1) (nh : H h = none) (k : Kp h H1 H2) : Old H H2 := ⟨a.s.ofKp nh k⟩
theorem Old.put {h : Addr} {H H1 : Hp} {u : HO} (a : Old H H1) (nh : H h = none) : Old H (upd H1 h u) := ⟨fun c o e => by rw [upd_ne (ne_of_none e nh)]; exact a.s _ _ e⟩
/-- a list is changed, what is no list stays -/
theorem up2 {H : Hp} {l x : Addr} {xs : List V} {o u : HO} (hl : H l = some (.lst xs)) (hx : H x = some o) (no : notHand o = true) : upd H l u x = some o := by
  rw [upd_ne (ne_of hx hl (by intro e; rw [e] at no; cases no))]; exact hx
end My
namespace My
open PySem PySem.Spec PyProof.Rows L2
/-! ### fractions as pairs, stretches as ends -/
abbrev Q2 := Int × Int
def ltq (a b : Q2) : Bool := decide (a.1 * b.2 < b.1 * a.2)
def eqq (a b : Q2) : Bool := decide (a.1 * b.2 = b.1 * a.2)
def someB : Option Q2 → Option Q2 → Bool → Bool → Bool
  | some a, some b, ia, ib => ltq a b || (eqq a b && ia && ib)
  | _, _, _, _ => true
def Re (a b : Q2) : Prop := 0 < a.2 ∧ 0 < b.2 ∧ a.1 * b.2 = b.1 * a.2
def ReO : Option Q2 → Option Q2 → Prop
  | none, none => True
  | some a, some b => Re a b
  | _, _ => False
theorem Re.symm {a b : Q2} (h : Re a b) : Re b a := ⟨h.2.1, h.1, h.2.2.symm⟩
theorem Re.refl {a : Q2} (h : 0 < a.2) : Re a a := ⟨h, h, rfl⟩
theorem ReO.symm : ∀ {a b : Option Q2}, ReO a b → ReO b a
  | none, none, _ => trivial
  | some _, some _, h => Re.symm h
  | none, some _, h => h.elim
  | some _, none, h => h.elim
theorem pos_key {a b c d : Q2} (h : Re a c) (g : Re b d) : (a.1 * b.2) * (c.2 * d.2) = (c.1 * d.2) * (a.2 * b.2) := by
  have := h.2.2
  grind
theorem pos_key' {a b c d : Q2} (h : Re a c) (g : Re b d) : (b.1 * a.2) * (c.2 * d.2) = (d.1 * c.2) * (a.2 * b.2) := by
  have := g.2.2
  grind
theorem ltq_congr {a b c d : Q2} (h : Re a c) (g : Re b d) : ltq a b = ltq c d := by
  unfold ltq
  have k1 := pos_key h g
  have k2 := pos_key' h g
  have p1 : 0 < c.2 * d.2 := Int.mul_pos h.2.1 g.2.1
  have p2 : 0 < a.2 * b.2 := Int.mul_pos h.1 g.1
  refine decide_eq_decide.mpr ⟨fun x => ?_, fun x => ?_⟩
  · have := Int.mul_lt_mul_of_pos_right x p1
    rw [k1, k2] at this
    exact Int.lt_of_mul_lt_mul_right this (Int.le_of_lt p2)
  · have := Int.mul_lt_mul_of_pos_right x p2
    rw [← k1, ← k2] at this
    exact Int.lt_of_mul_lt_mul_right this (Int.le_of_lt p1)
theorem eqq_congr {a b c d : Q2} (h : Re a c) (g : Re b d) : eqq a b = eqq c d := by
  unfold eqq
  have k1 := pos_key h g
  have k2 := pos_key' h g
  have p1 : 0 < c.2 * d.2 := Int.mul_pos h.2.1 g.2.1
  have p2 : 0 < a.2 * b.2 := Int.mul_pos h.1 g.1
  refine decide_eq_decide.mpr ⟨fun x => ?_, fun x => ?_⟩
  · rw [x] at k1
    rw [k1] at k2
    exact Int.eq_of_mul_eq_mul_right (by omega) k2
  · rw [x] at k1
    rw [← k2] at k1
    exact Int.eq_of_mul_eq_mul_right (by omega) k1
theorem someB_congr : ∀ {a b c d : Option Q2} {i j : Bool}, ReO a c → ReO b d → someB a b i j = someB c d i j
  | some a, some b, some c, some d, i, j, h, g => by
    show (ltq a b || (eqq a b && i && j)) = (ltq c d || (eqq c d && i && j))
    rw [ltq_congr h g, eqq_congr h g]
  | none, some _, none, some _, _, _, _, _ => rfl
  | none, none, none, none, _, _, _, _ => rfl
  | some _, none, some _, none, _, _, _, _ => rfl
  | some _, _, none, _, _, _, h, _ => h.elim
  | none, _, some _, _, _, _, h, _ => h.elim
  | some _, some _, some _, none, _, _, _, g => g.elim
  | some _, none, some _, some _, _, _, _, g => g.elim
  | none, some _, none, none, _, _, _, g => g.elim
  | none, none, none, some _, _, _, _, g => g.elim
theorem lt_tri (a b : Q2) : (ltq a b = true ∧ eqq a b = false ∧ ltq b a = false) ∨ (ltq a b = false ∧ eqq a b = true ∧ ltq b a = false) ∨ (ltq a b = false ∧ eqq a b = false ∧ ltq b a = true) := by
  unfold ltq eqq
  rcases Int.lt_trichotomy (a.1 * b.2) (b.1 * a.2) with h | h | h
  · exact .inl ⟨decide_eq_true h, decide_eq_false (by omega), decide_eq_false (by omega)⟩
  · exact .inr (.inl ⟨decide_eq_false (by omega), decide_eq_true h, decide_eq_false (by omega)⟩)
  · exact .inr (.inr ⟨decide_eq_false (by omega), decide_eq_false (by omega), decide_eq_true h⟩)
/-- in lowest terms, its numbers of less than four thousand bits -/
structure Low (a : Q2) : Prop where
  pos : 0 < a.2
  co : Int.gcd a.1 a.2 = 1
  s1 : Sz 4000 a.1
  s2 : Sz 4000 a.2
def LowO : Option Q2 → Prop
  | none => True
  | some a => Low a
theorem dvd_co {a b c : Int} (h : a ∣ b * c) (g : Int.gcd a b = 1) : a ∣ c := by
  have h1 : a.natAbs ∣ b.natAbs * c.natAbs := by rw [← Int.natAbs_mul]; exact Int.natAbs_dvd_natAbs.mpr h
  exact Int.natAbs_dvd_natAbs.mp (Nat.Coprime.dvd_of_dvd_mul_left g h1)
theorem low_eq {a b : Q2} (h : Low a) (g : Low b) (e : a.1 * b.2 = b.1 * a.2) : a = b := by
  have h1 := h.pos
  have g1 := g.pos
  have d1 : a.2 ∣ b.2 := by
    have : a.2 ∣ a.1 * b.2 := ⟨b.1, by rw [e, Int.mul_comm]⟩
    exact dvd_co this (by rw [Int.gcd_comm]; exact h.co)
  have d2 : b.2 ∣ a.2 := by
    have : b.2 ∣ b.1 * a.2 := ⟨a.1, by rw [← e, Int.mul_comm]⟩
    exact dvd_co this (by rw [Int.gcd_comm]; exact g.co)
  have e2 : a.2 = b.2 := Int.le_antisymm (Int.le_of_dvd g1 d1) (Int.le_of_dvd h1 d2)
  rw [e2] at e
  exact Prod.ext (Int.eq_of_mul_eq_mul_right (by omega) e) e2
theorem low_eqq {a b : Q2} (h : Low a) (g : Low b) : (decide (a.1 = b.1) && decide (a.2 = b.2)) = eqq a b := by
  unfold eqq
  by_cases e : a.1 * b.2 = b.1 * a.2
  · rw [decide_eq_true e, low_eq h g e]; simp
  · rw [decide_eq_false e]
    cases z1 : decide (a.1 = b.1) with
    | false => rfl
    | true =>
      cases z2 : decide (a.2 = b.2) with
      | false => rfl
      | true =>
        exact absurd (by rw [of_decide_eq_true z1, of_decide_eq_true z2]) e
/-! ### their values -/
/-- None, or the tuple of an end's two numbers -/
def EndV (k : Nat) (H : Hp) (v : V) : Option Q2 → Prop
  | none => v = .non
  | some a => ∃ p, v = .ref p ∧ H p = some (.tup [.int a.1, .int a.2]) ∧ 0 < a.2 ∧ Sz k a.1 ∧ Sz k a.2
theorem EndV.mono {k j : Nat} (l : k ≤ j) {H : Hp} {v : V} : ∀ {e : Option Q2}, EndV k H v e → EndV j H v e
  | none, h => h
  | some _, ⟨p, h1, h2, h3, h4, h5⟩ => ⟨p, h1, h2, h3, h4.mono l, h5.mono l⟩
def MsV (C : Addr) (H : Hp) (v : V) : Option Q2 → Prop
  | none => v = .non
  | some a => ∃ p, v = .ref p ∧ MAt C H p a.1 a.2
theorem EndV.same {k : Nat} {H H' : Hp} {v : V} : ∀ {e : Option Q2}, EndV k H v e → Same H H' → EndV k H' v e
  | none, h, _ => h
  | some _, ⟨p, h1, h2, h3⟩, s => ⟨p, h1, s _ _ h2, h3⟩
theorem EndV.kp {j : Nat} {H H' : Hp} {h : Addr} {n : Nat} {v : V} : ∀ {e : Option Q2}, EndV j H v e → HandAt H h n → Kp h H H' → EndV j H' v e
  | none, h, _, _ => h
  | some _, ⟨p, h1, h2, h3⟩, hh, k => ⟨p, h1, k.get hh h2 rfl, h3⟩
theorem MsV.same {C : Addr} {H H' : Hp} {v : V} : ∀ {e : Option Q2}, MsV C H v e → Same H H' → MsV C H' v e
  | none, h, _ => h
  | some _, ⟨p, h1, h2⟩, s => ⟨p, h1, h2.same s⟩
theorem MsV.kp {C : Addr} {H H' : Hp} {h : Addr} {n : Nat} {v : V} : ∀ {e : Option Q2}, MsV C H v e → HandAt H h n → Kp h H H' → MsV C H' v e
  | none, h, _, _ => h
  | some _, ⟨p, h1, h2⟩, hh, k => ⟨p, h1, h2.kp hh k⟩
/-! ### a Stretch -/
def sf (l h : V) (li hi : Bool) : List (Str × V) := [("low", l), ("high", h), ("low_in", .bl li), ("high_in", .bl hi)]
theorem sf_put (l h : V) (li hi : Bool) : putF "high_in" (.bl hi) (putF "low_in" (.bl li) (putF "high" h (putF "low" l []))) = sf l h li hi := by
  have e1 : putF ("high" : Str) h (putF ("low" : Str) l []) = ([("low", l), ("high", h)] : List (Str × V)) := by
    show (if ("low" : Str) = "high" then [(("low" : Str), h)] else (("low" : Str), l) :: putF "high" h []) = _
    rw [if_neg (by decide +kernel)] <;> rfl
  have e2 : putF ("low_in" : Str) (.bl li) [("low", l), ("high", h)] = ([("low", l), ("high", h), ("low_in", .bl li)] : List (Str × V)) := by
    show (if ("low" : Str) = "low_in" then _ else (("low" : Str), l) :: (if ("high" : Str) = "low_in" then _ else (("high" : Str), h) :: putF "low_in" (V.bl li) [])) = _
    rw [if_neg (by decide +kernel), if_neg (by decide +kernel)] <;> rfl
  have e3 : putF ("high_in" : Str) (.bl hi) [("low", l), ("high", h), ("low_in", .bl li)] = sf l h li hi := by
    show (if ("low" : Str) = "high_in" then _ else (("low" : Str), l) :: (if ("high" : Str) = "high_in" then _ else (("high" : Str), h) :: (if ("low_in" : Str) = "high_in" then _ else (("low_in" : Str), V.bl li) :: putF "high_in" (V.bl hi) []))) = _
    rw [if_neg (by decide +kernel), if_neg (by decide +kernel), if_neg (by decide +kernel)] <;> rfl
  rw [e1, e2, e3]
theorem sf_low (l h : V) (li hi : Bool) : (sf l h li hi).lookup ("low" : Str) = some l := by
  rw [← sf_put, lookup_putF, if_neg (by decide +kernel), lookup_putF, if_neg (by decide +kernel), lookup_putF, if_neg (by decide +kernel), lookup_putF, if_pos rfl]
theorem sf_high (l h : V) (li hi : Bool) : (sf l h li hi).lookup ("high" : Str) = some h := by
  rw [← sf_put, lookup_putF, if_neg (by decide +kernel), lookup_putF, if_neg (by decide +kernel), lookup_putF, if_pos rfl]
theorem sf_low_in (l h : V) (li hi : Bool) : (sf l h li hi).lookup ("low_in" : Str) = some (.bl li) := by
  rw [← sf_put, lookup_putF, if_neg (by decide +kernel), lookup_putF, if_pos rfl]
theorem sf_high_in (l h : V) (li hi : Bool) : (sf l h li hi).lookup ("high_in" : Str) = some (.bl hi) := by
  rw [← sf_put, lookup_putF, if_pos rfl]
theorem sf_no (l h : V) (li hi : Bool) {m : Str} (h1 : ¬ m = "low") (h2 : ¬ m = "high") (h3 : ¬ m = "low_in") (h4 : ¬ m = "high_in") : (sf l h li hi).lookup m = none := by
  rw [← sf_put, lookup_putF, if_neg h4, lookup_putF, if_neg h3, lookup_putF, if_neg h2, lookup_putF, if_neg h1] <;> rfl
/-- a Stretch at p: its ends, whether they are in -/
structure StAt (CM CS : Addr) (H : Hp) (p : Addr) (lo hi : Option Q2) (li hj : Bool) : Prop where
  ob : ∃ dx l h, H p = some (.ins CS dx (sf l h li hj)) ∧ MsV CM H l lo ∧ MsV CM H h hi
  l1 : LowO lo
  l2 : LowO hi
  n1 : lo = none → li = false
  n2 : hi = none → hj = false
theorem StAt.same {CM CS p : Addr} {H H' : Hp} {lo hi : Option Q2} {li hj : Bool} (a : StAt CM CS H p lo hi li hj) (s : Same H H') : StAt CM CS H' p lo hi li hj := by
  obtain ⟨⟨dx, l, h, h1, h2, h3⟩, a1, a2, a3, a4⟩ := a
  exact ⟨⟨dx, l, h, s _ _ h1, h2.same s, h3.same s⟩, a1, a2, a3, a4⟩
theorem StAt.kp {CM CS p h : Addr} {H H' : Hp} {n : Nat} {lo hi : Option Q2} {li hj : Bool} (a : StAt CM CS H p lo hi li hj) (hh : HandAt H h n) (s : Kp h H H') : StAt CM CS H' p lo hi li hj := by
  obtain ⟨⟨dx, l, h, h1, h2, h3⟩, a1, a2, a3, a4⟩ := a
  exact ⟨⟨dx, l, h, s.get hh h1 rfl, h2.kp hh s, h3.kp hh s⟩, a1, a2, a3, a4⟩
theorem cmpBack_of {X : Cx} {pins : List (Addr × Obj)} {σ : L2.St} {Q : VK} {u : Value} {s' : Shared} (h : EP X pins σ Q u s') : PySem.W.CmpBack (EP X pins σ Q) u s' := by
  have h0 := h
  obtain ⟨v, H', I', r, q⟩ := h
  cases v with
  | non => cases r; exact h0
  | bl _ => cases r; exact h0
  | int _ => obtain ⟨t, rfl⟩ := r; exact h0
  | str _ => obtain ⟨t, rfl⟩ := r; exact h0
  | byt _ => obtain ⟨t, rfl⟩ := r; exact h0
  | flt _ => obtain ⟨t, rfl⟩ := r; exact h0
  | ref _ => cases r; exact h0
  | ty _ => cases r; exact h0
/-- == by an own __eq__, of two instances of one class -/
theorem op_eqI {X : Cx} {CX : CXT} {n : Nat} {C f : Addr} {fd : FuncData} {ps : List Str} {sp : Sp} {E : XK} (F : FnOk X.prog X.w X.K X.mg X.base CX n f fd ps sp) (hr : Room n X.A) {ds : List Value} (hm : Meth X.K C "__eq__" f) (hb : Binds X.K fd ps ds) (hd : Vals [] ds) (hx : Passes CX X E) :
    OpR X (compareOp .Eq) (fun x y H Q => ∃ a b dx dy fs gs, x = .ref a ∧ y = .ref b ∧ H a = some (.ins C dx fs) ∧ H b = some (.ins C dy gs) ∧ sp [.ref a, .ref b] H Q E) := by
  intro pins s σ H x y v u Q I rx ry hq
  obtain ⟨a, b, dx, dy, fs, gs, rfl, rfl, ha, hb', hsp⟩ := hq
  cases rx
  cases ry
  show wpAny (model X.prog X.w) X.A (richCompare .Eq (.ref a) (.ref b)) (EP X pins σ Q) X.xe s
  obtain ⟨mA, J, _⟩ := ins_get I.hok ha
  obtain ⟨mB, J', _⟩ := ins_get I.hok hb'
  obtain ⟨od, J, _⟩ := J.look
  obtain ⟨od', J', _⟩ := J'.look
  obtain ⟨m, hF⟩ := I.fr
  refine PySem.W.cmp_K (op := .Eq) (tb := .ref C) hr.units0 hF I.ok.mod.kin J J'.type (by simp [PySem.W.notFirst]) hm.at_ hm.fn ?_
  refine thn ?_ fun u s' => cmpBack_of
  exact run_fn (us := [.ref a, .ref b]) (vs := [.ref a, .ref b]) F hr hb hd hx I (.cons rfl (.cons rfl .nil)) hsp
/-! ### promises -/
/-- the tuple of two ends and two truths, between which something is -/
structure EndsAt (H : Hp) (p : Addr) (ea eb : Option Q2) (ia ib : Bool) : Prop where
  ob : ∃ va vb, H p = some (.tup [va, vb, .bl ia, .bl ib]) ∧ EndV 140 H va ea ∧ EndV 140 H vb eb
  so : someB ea eb ia ib = true
theorem EndsAt.same {H H' : Hp} {p : Addr} {ea eb : Option Q2} {ia ib : Bool} (a : EndsAt H p ea eb ia ib) (s : Same H H') : EndsAt H' p ea eb ia ib := by
  obtain ⟨⟨va, vb, h1, h2, h3⟩, h4⟩ := a
  exact ⟨⟨va, vb, s _ _ h1, h2.same s, h3.same s⟩, h4⟩
theorem EndsAt.kp {H H' : Hp} {p h : Addr} {n : Nat} {ea eb : Option Q2} {ia ib : Bool} (a : EndsAt H p ea eb ia ib) (hh : HandAt H h n) (s : Kp h H H') : EndsAt H' p ea eb ia ib := by
  obtain ⟨⟨va, vb, h1, h2, h3⟩, h4⟩ := a
  exact ⟨⟨va, vb, s.get hh h1 rfl, h2.kp hh s, h3.kp hh s⟩, h4⟩
def sp_isend (CM : Addr) : Sp := fun vs H Q _ => ∃ (v : V) (m : Option Q2), vs = [v] ∧ MsV CM H v m ∧ Q (.bl true) H
def sp_meq (CM : Addr) : Sp := fun vs H Q _ => ∃ (p q : Addr) (a b : Q2), vs = [.ref p, .ref q] ∧ MAt CM H p a.1 a.2 ∧ MAt CM H q b.1 b.2 ∧ Q (.bl (decide (a.1 = b.1) && decide (a.2 = b.2))) H
def sp_empty (CM : Addr) : Sp := fun vs H Q _ => ∃ (l h : V) (lo hi : Option Q2) (li hj : Bool), vs = [l, h, .bl li, .bl hj] ∧ MsV CM H l lo ∧ MsV CM H h hi ∧ LowO lo ∧ LowO hi ∧ Q (.bl (!someB lo hi li hj)) H
def sp_sinit (CM CS : Addr) : Sp := fun vs H Q _ => ∃ (p dx : Addr) (l h : V) (lo hi : Option Q2) (li hj : Bool), vs = [.ref p, l, h, .bl li, .bl hj] ∧ H p = some (.ins CS dx []) ∧ MsV CM H l lo ∧ MsV CM H h hi ∧ LowO lo ∧ LowO hi ∧ someB lo hi li hj = true ∧
  ∀ H', H' p = some (.ins CS dx (sf l h (li && lo.isSome) (hj && hi.isSome))) → (∀ q o, H q = some o → q ≠ p → H' q = some o) → Q .non H'
theorem MsV.put {CM p C dx : Addr} {H : Hp} {v : V} {o : HO} (hp : H p = some (.ins C dx [])) : ∀ {m : Option Q2}, MsV CM H v m → MsV CM (upd H p o) v m
  | none, h => h
  | some _, ⟨q, h1, ⟨dy, h2⟩⟩ => ⟨q, h1, ⟨dy, by
      rw [upd_ne (ne_of h2 hp (by intro e; injection e with _ _ e; cases e))]; exact h2⟩⟩
theorem StAt.mk' {CM CS p dx : Addr} {H H' : Hp} {l h : V} {lo hi : Option Q2} {li hj : Bool} (h1 : H' p = some (.ins CS dx (sf l h (li && lo.isSome) (hj && hi.isSome)))) (s : Same H H') (ml : MsV CM H l lo) (mh : MsV CM H h hi) (l1 : LowO lo) (l2 : LowO hi) :
    StAt CM CS H' p lo hi (li && lo.isSome) (hj && hi.isSome) :=
  ⟨⟨dx, l, h, h1, ml.same s, mh.same s⟩, l1, l2, fun e => by rw [e]; simp, fun e => by rw [e]; simp⟩
theorem ReO.isS : ∀ {a b : Option Q2}, ReO a b → a.isSome = b.isSome
  | none, none, _ => rfl
  | some _, some _, _ => rfl
  | none, some _, h => h.elim
  | some _, none, h => h.elim
theorem Fr.re {t u a b : Int} (f : Fr t u a b) (hb : 0 < b) : Re (t, u) (a, b) := ⟨f.pos, hb, f.eq⟩
/-! ### what two stretches have in common -/
def cutLo : Option Q2 → Bool → Option Q2 → Bool → Option Q2 × Bool
  | none, _, n, j => (n, j)
  | some a, i, none, _ => (some a, i)
  | some a, i, some b, j => if ltq a b then (some b, j) else if eqq a b then (some a, i && j) else (some a, i)
def cutHi : Option Q2 → Bool → Option Q2 → Bool → Option Q2 × Bool
  | none, _, n, j => (n, j)
  | some a, i, none, _ => (some a, i)
  | some a, i, some b, j => if ltq b a then (some b, j) else if eqq a b then (some a, i && j) else (some a, i)
/-- the same end, and in or not alike where there is one -/
def Alike (x y : Option Q2 × Bool) : Prop := ReO x.1 y.1 ∧ (x.1.isSome = true → x.2 = y.2)
theorem Alike.flag {x y : Option Q2 × Bool} (h : Alike x y) : (x.2 && x.1.isSome) = (y.2 && y.1.isSome) := by
  obtain ⟨h1, h2⟩ := h
  rw [← h1.isS]
  cases e : x.1.isSome with
  | true => rw [h2 e]
  | false => simp
theorem Alike.someB {x y z w : Option Q2 × Bool} (h : Alike x y) (g : Alike z w) : My.someB x.1 z.1 x.2 z.2 = My.someB y.1 w.1 y.2 w.2 := by
  obtain ⟨x, i⟩ := x
  obtain ⟨y, j⟩ := y
  obtain ⟨z, k⟩ := z
  obtain ⟨w, l⟩ := w
  obtain ⟨h1, h2⟩ := h
  obtain ⟨g1, g2⟩ := g
  rw [someB_congr h1 g1]
  cases x with
  | none => cases y with
    | none => rfl
    | some _ => exact h1.elim
  | some a => cases z with
    | none => cases w with
      | none => cases y <;> rfl
      | some _ => exact g1.elim
    | some b =>
      have e1 : i = j := h2 rfl
      have e2 : k = l := g2 rfl
      rw [e1, e2]
theorem Alike.norm {a b : Option Q2} {i : Bool} (h : ReO a b) : Alike (a, i && b.isSome) (b, i) := ⟨h, fun e => by
  have e1 : a.isSome = true := e
  rw [h.isS] at e1
  show (i && b.isSome) = i
  rw [e1]; simp⟩
theorem cutLo_alike {x y z w : Option Q2 × Bool} (h : Alike x y) (g : Alike z w) : Alike (cutLo x.1 x.2 z.1 z.2) (cutLo y.1 y.2 w.1 w.2) := by
  obtain ⟨x, i⟩ := x
  obtain ⟨y, j⟩ := y
  obtain ⟨z, k⟩ := z
  obtain ⟨w, l⟩ := w
  obtain ⟨h1, h2⟩ := h
  obtain ⟨g1, g2⟩ := g
  cases x with
  | none => cases y with
    | none => exact ⟨g1, g2⟩
    | some _ => exact h1.elim
  | some a => cases y with
    | none => exact h1.elim
    | some a' => cases z with
      | none => cases w with
        | none => exact ⟨h1, h2⟩
        | some _ => exact g1.elim
      | some b => cases w with
        | none => exact g1.elim
        | some b' =>
          have e1 : i = j := h2 rfl
          have e2 : k = l := g2 rfl
          show Alike (if ltq a b then (some b, k) else if eqq a b then (some a, i && k) else (some a, i)) (if ltq a' b' then (some b', l) else if eqq a' b' then (some a', j && l) else (some a', j))
          rw [ltq_congr h1 g1, eqq_congr h1 g1, e1, e2]
          split
          · exact ⟨g1, fun _ => rfl⟩
          · split
            · exact ⟨h1, fun _ => rfl⟩
            · exact ⟨h1, fun _ => rfl⟩
theorem cutHi_alike {x y z w : Option Q2 × Bool} (h : Alike x y) (g : Alike z w) : Alike (cutHi x.1 x.2 z.1 z.2) (cutHi y.1 y.2 w.1 w.2) := by
  obtain ⟨x, i⟩ := x
  obtain ⟨y, j⟩ := y
  obtain ⟨z, k⟩ := z
  obtain ⟨w, l⟩ := w
  obtain ⟨h1, h2⟩ := h
  obtain ⟨g1, g2⟩ := g
  cases x with
  | none => cases y with
    | none => exact ⟨g1, g2⟩
    | some _ => exact h1.elim
  | some a => cases y with
    | none => exact h1.elim
    | some a' => cases z with
      | none => cases w with
        | none => exact ⟨h1, h2⟩
        | some _ => exact g1.elim
      | some b => cases w with
        | none => exact g1.elim
        | some b' =>
          have e1 : i = j := h2 rfl
          have e2 : k = l := g2 rfl
          show Alike (if ltq b a then (some b, k) else if eqq a b then (some a, i && k) else (some a, i)) (if ltq b' a' then (some b', l) else if eqq a' b' then (some a', j && l) else (some a', j))
          rw [ltq_congr g1 h1, eqq_congr h1 g1, e1, e2]
          split
          · exact ⟨g1, fun _ => rfl⟩
          · split
            · exact ⟨h1, fun _ => rfl⟩
            · exact ⟨h1, fun _ => rfl⟩
theorem cutLo_low {a b : Option Q2} {i j : Bool} (h : LowO a) (g : LowO b) : LowO (cutLo a i b j).1 := by
  cases a with
  | none => exact g
  | some a => cases b with
    | none => exact h
    | some b =>
      show LowO (if ltq a b then (some b, j) else if eqq a b then (some a, i && j) else (some a, i)).1
      split
      · exact g
      · split <;> exact h
theorem cutHi_low {a b : Option Q2} {i j : Bool} (h : LowO a) (g : LowO b) : LowO (cutHi a i b j).1 := by
  cases a with
  | none => exact g
  | some a => cases b with
    | none => exact h
    | some b =>
      show LowO (if ltq b a then (some b, j) else if eqq a b then (some a, i && j) else (some a, i)).1
      split
      · exact g
      · split <;> exact h
def sp_cutEnd (CM CS : Addr) (f : Option Q2 → Option Q2 → Bool → Bool → Option Q2 → Option Q2 → Bool → Bool → Option Q2 × Bool) : Sp := fun vs H Q _ => ∃ (p q : Addr) (m1 m2 n1 n2 : Option Q2) (i1 i2 j1 j2 : Bool), vs = [.ref p, .ref q] ∧ StAt CM CS H p m1 m2 i1 i2 ∧ StAt CM CS H q n1 n2 j1 j2 ∧
  ∀ (r : Addr) (v : V) (H' : Hp), Same H H' → H' r = some (.tup [v, .bl (f m1 m2 i1 i2 n1 n2 j1 j2).2]) → MsV CM H' v (f m1 m2 i1 i2 n1 n2 j1 j2).1 → Q (.ref r) H'
/-- a Stretch, or None where nothing is between -/
def CutV (CM CS : Addr) (H : Hp) (v : V) (lo hi : Option Q2 × Bool) : Prop :=
  (someB lo.1 hi.1 lo.2 hi.2 = true ∧ ∃ r, v = .ref r ∧ StAt CM CS H r lo.1 hi.1 (lo.2 && lo.1.isSome) (hi.2 && hi.1.isSome)) ∨ (someB lo.1 hi.1 lo.2 hi.2 = false ∧ v = .non)
def sp_cutS (CM CS : Addr) : Sp := fun vs H Q _ => ∃ (p q : Addr) (m1 m2 n1 n2 : Option Q2) (i1 i2 j1 j2 : Bool), vs = [.ref p, .ref q] ∧ StAt CM CS H p m1 m2 i1 i2 ∧ StAt CM CS H q n1 n2 j1 j2 ∧
  ∀ (v : V) (H' : Hp), Same H H' → CutV CM CS H' v (cutLo m1 i1 n1 j1) (cutHi m2 i2 n2 j2) → Q v H'
/-- the law's own: a tuple of four, or None -/
def DueV (H : Hp) (v : V) (lo hi : Option Q2 × Bool) : Prop :=
  (someB lo.1 hi.1 lo.2 hi.2 = true ∧ ∃ r, v = .ref r ∧ EndsAt H r lo.1 hi.1 lo.2 hi.2) ∨ (someB lo.1 hi.1 lo.2 hi.2 = false ∧ v = .non)
theorem DueV.same {H H' : Hp} {v : V} {lo hi : Option Q2 × Bool} (h : DueV H v lo hi) (s : Same H H') : DueV H' v lo hi := by
  rcases h with ⟨h1, r, h2, h3⟩ | h
  · exact .inl ⟨h1, r, h2, h3.same s⟩
  · exact .inr h
theorem CutV.same {CM CS : Addr} {H H' : Hp} {v : V} {lo hi : Option Q2 × Bool} (h : CutV CM CS H v lo hi) (s : Same H H') : CutV CM CS H' v lo hi := by
  rcases h with ⟨h1, r, h2, h3⟩ | h
  · exact .inl ⟨h1, r, h2, h3.same s⟩
  · exact .inr h
/-- what is told is what is due -/
def Match (CM CS : Addr) (H : Hp) (found due : V) : Prop :=
  (found = .non ∧ due = .non) ∨ ∃ (r d : Addr) (lo hi ea eb : Option Q2) (ia ib : Bool), found = .ref r ∧ due = .ref d ∧ EndsAt H d ea eb ia ib ∧ StAt CM CS H r lo hi (ia && ea.isSome) (ib && eb.isSome) ∧ ReO lo ea ∧ ReO hi eb
theorem Match.same {CM CS : Addr} {H H' : Hp} {f d : V} (h : Match CM CS H f d) (s : Same H H') : Match CM CS H' f d := by
  rcases h with h | ⟨r, d, lo, hi, ea, eb, ia, ib, h1, h2, h3, h4, h5, h6⟩
  · exact .inl h
  · exact .inr ⟨r, d, lo, hi, ea, eb, ia, ib, h1, h2, h3.same s, h4.same s, h5, h6⟩
theorem Re.trans {a b c : Q2} (h : Re a b) (g : Re b c) : Re a c := by
  obtain ⟨h1, h2, h3⟩ := h
  obtain ⟨g1, g2, g3⟩ := g
  refine ⟨h1, g2, Int.eq_of_mul_eq_mul_right (show b.2 ≠ 0 by omega) ?_⟩
  grind
theorem ReO.trans : ∀ {a b c : Option Q2}, ReO a b → ReO b c → ReO a c
  | none, none, none, _, _ => trivial
  | some _, some _, some _, h, g => Re.trans h g
  | none, some _, _, h, _ => h.elim
  | some _, none, _, h, _ => h.elim
  | none, none, some _, _, g => g.elim
  | some _, some _, none, _, g => g.elim
def PosO : Option Q2 → Prop
  | none => True
  | some a => 0 < a.2
theorem LowO.posO : ∀ {a : Option Q2}, LowO a → PosO a
  | none, _ => trivial
  | some _, h => Low.pos h
theorem ReO.refl : ∀ {a : Option Q2}, PosO a → ReO a a
  | none, _ => trivial
  | some _, h => Re.refl h
theorem Alike.trans {x y z : Option Q2 × Bool} (h : Alike x y) (g : Alike y z) : Alike x z := ⟨h.1.trans g.1, fun e => (h.2 e).trans (g.2 (by rw [← h.1.isS]; exact e))⟩
theorem StAt.raw {CM CS p : Addr} {H : Hp} {lo hi : Option Q2} {li hj : Bool} (a : StAt CM CS H p lo hi li hj) {m : Str} (h1 : ¬ m = "low") (h2 : ¬ m = "high") (h3 : ¬ m = "low_in") (h4 : ¬ m = "high_in") : ∃ dx fs, H p = some (.ins CS dx fs) ∧ fs.lookup m = none := by
  obtain ⟨⟨dx, l, h, e, _⟩, _⟩ := a
  exact ⟨dx, _, e, sf_no _ _ _ _ h1 h2 h3 h4⟩
theorem EndsAt.due {H : Hp} {p : Addr} {ea eb : Option Q2} {ia ib : Bool} (a : EndsAt H p ea eb ia ib) : DueV H (.ref p) (ea, ia) (eb, ib) := .inl ⟨a.so, p, rfl, a⟩
/-! ### what a stretch holds -/
def loIn : Option Q2 → Bool → Q2 → Bool
  | none, _, _ => true
  | some a, i, x => ltq a x || (i && eqq a x)
def hiIn : Option Q2 → Bool → Q2 → Bool
  | none, _, _ => true
  | some b, j, x => ltq x b || (j && eqq x b)
theorem ltq_trans {a b c : Q2} (hb : 0 < b.2) (ha : 0 < a.2) (hc : 0 < c.2) (h : ltq a b = true) (g : ltq b c = true) : ltq a c = true := by
  unfold ltq at *
  have h := of_decide_eq_true h
  have g := of_decide_eq_true g
  refine decide_eq_true ?_
  have h2 := Int.mul_lt_mul_of_pos_right h hc
  have g2 := Int.mul_lt_mul_of_pos_right g ha
  have e1 : b.1 * a.2 * c.2 = b.1 * c.2 * a.2 := by simp only [Int.mul_assoc, Int.mul_comm, Int.mul_left_comm]
  rw [e1] at h2
  have k := Int.lt_trans h2 g2
  have e2 : a.1 * b.2 * c.2 = a.1 * c.2 * b.2 := by simp only [Int.mul_assoc, Int.mul_comm, Int.mul_left_comm]
  have e3 : c.1 * b.2 * a.2 = c.1 * a.2 * b.2 := by simp only [Int.mul_assoc, Int.mul_comm, Int.mul_left_comm]
  rw [e2, e3] at k
  exact Int.lt_of_mul_lt_mul_right k (Int.le_of_lt hb)
theorem eqq_re {a b : Q2} (ha : 0 < a.2) (hb : 0 < b.2) (h : eqq a b = true) : Re a b := ⟨ha, hb, of_decide_eq_true h⟩
theorem loIn_alike {x y : Option Q2 × Bool} {q r : Q2} (h : Alike x y) (g : Re q r) : loIn x.1 x.2 q = loIn y.1 y.2 r := by
  obtain ⟨x, i⟩ := x
  obtain ⟨y, j⟩ := y
  obtain ⟨h1, h2⟩ := h
  cases x with
  | none => cases y with
    | none => rfl
    | some _ => exact h1.elim
  | some a => cases y with
    | none => exact h1.elim
    | some b =>
      have e : i = j := h2 rfl
      show (ltq a q || (i && eqq a q)) = (ltq b r || (j && eqq b r))
      rw [ltq_congr h1 g, eqq_congr h1 g, e]
theorem hiIn_alike {x y : Option Q2 × Bool} {q r : Q2} (h : Alike x y) (g : Re q r) : hiIn x.1 x.2 q = hiIn y.1 y.2 r := by
  obtain ⟨x, i⟩ := x
  obtain ⟨y, j⟩ := y
  obtain ⟨h1, h2⟩ := h
  cases x with
  | none => cases y with
    | none => rfl
    | some _ => exact h1.elim
  | some a => cases y with
    | none => exact h1.elim
    | some b =>
      have e : i = j := h2 rfl
      show (ltq q a || (i && eqq q a)) = (ltq r b || (j && eqq r b))
      rw [ltq_congr g h1, eqq_congr g h1, e]
theorem loIn_up {a b x : Q2} {i j : Bool} (ha : 0 < a.2) (hb : 0 < b.2) (hx : 0 < x.2) (h : ltq a b = true) (g : (ltq b x || (j && eqq b x)) = true) : (ltq a x || (i && eqq a x)) = true := by
  have e : ltq a x = true := by
    cases e1 : ltq b x with
    | true => exact ltq_trans hb ha hx h e1
    | false =>
      rw [e1, Bool.false_or] at g
      have e2 := (Bool.and_eq_true_iff.mp g).2
      rw [← ltq_congr (Re.refl ha) (eqq_re hb hx e2)]
      exact h
  rw [e]; rfl
theorem hiIn_up {a b x : Q2} {i j : Bool} (ha : 0 < a.2) (hb : 0 < b.2) (hx : 0 < x.2) (h : ltq b a = true) (g : (ltq x b || (j && eqq x b)) = true) : (ltq x a || (i && eqq x a)) = true := by
  have e : ltq x a = true := by
    cases e1 : ltq x b with
    | true => exact ltq_trans hb hx ha e1 h
    | false =>
      rw [e1, Bool.false_or] at g
      have e2 := (Bool.and_eq_true_iff.mp g).2
      rw [ltq_congr (eqq_re hx hb e2) (Re.refl ha)]
      exact h
  rw [e]; rfl
theorem cutLo_in {a b : Option Q2} {i j : Bool} {x : Q2} (ha : PosO a) (hb : PosO b) (hx : 0 < x.2) : loIn (cutLo a i b j).1 (cutLo a i b j).2 x = (loIn a i x && loIn b j x) := by
  cases a with
  | none => rfl
  | some a => cases b with
    | none => exact (Bool.and_true _).symm
    | some b =>
      show loIn (if ltq a b then (some b, j) else if eqq a b then (some a, i && j) else (some a, i)).1 (if ltq a b then (some b, j) else if eqq a b then (some a, i && j) else (some a, i)).2 x = ((ltq a x || (i && eqq a x)) && (ltq b x || (j && eqq b x)))
      rcases lt_tri a b with ⟨h1, h2, h3⟩ | ⟨h1, h2, h3⟩ | ⟨h1, h2, h3⟩
      · rw [h1]
        show (ltq b x || (j && eqq b x)) = _
        cases e : (ltq b x || (j && eqq b x)) with
        | false => simp
        | true => rw [loIn_up ha hb hx h1 e]; rfl
      · rw [h1, h2]
        show (ltq a x || (i && j && eqq a x)) = _
        have r := eqq_re ha hb h2
        rw [← ltq_congr r (Re.refl hx), ← eqq_congr r (Re.refl hx)]
        cases ltq a x <;> cases eqq a x <;> cases i <;> cases j <;> rfl
      · rw [h1, h2]
        show (ltq a x || (i && eqq a x)) = _
        cases e : (ltq a x || (i && eqq a x)) with
        | false => rfl
        | true => rw [loIn_up hb ha hx h3 e]; rfl
theorem cutHi_in {a b : Option Q2} {i j : Bool} {x : Q2} (ha : PosO a) (hb : PosO b) (hx : 0 < x.2) : hiIn (cutHi a i b j).1 (cutHi a i b j).2 x = (hiIn a i x && hiIn b j x) := by
  cases a with
  | none => rfl
  | some a => cases b with
    | none => exact (Bool.and_true _).symm
    | some b =>
      show hiIn (if ltq b a then (some b, j) else if eqq a b then (some a, i && j) else (some a, i)).1 (if ltq b a then (some b, j) else if eqq a b then (some a, i && j) else (some a, i)).2 x = ((ltq x a || (i && eqq x a)) && (ltq x b || (j && eqq x b)))
      rcases lt_tri a b with ⟨h1, h2, h3⟩ | ⟨h1, h2, h3⟩ | ⟨h1, h2, h3⟩
      · rw [h3, h2]
        show (ltq x a || (i && eqq x a)) = _
        cases e : (ltq x a || (i && eqq x a)) with
        | false => rfl
        | true => rw [hiIn_up hb ha hx h1 e]; rfl
      · rw [h3, h2]
        show (ltq x a || (i && j && eqq x a)) = _
        have r := eqq_re ha hb h2
        rw [← ltq_congr (Re.refl hx) r, ← eqq_congr (Re.refl hx) r]
        cases ltq x a <;> cases eqq x a <;> cases i <;> cases j <;> rfl
      · rw [h3]
        show (ltq x b || (j && eqq x b)) = _
        cases e : (ltq x b || (j && eqq x b)) with
        | false => simp
        | true => rw [hiIn_up ha hb hx h3 e]; rfl
/-! ### sums, once more, by the size of the new bottom -/
def sp_bin2 (C : Addr) (f g : Int → Int → Int → Int → Int) : Sp := fun vs H Q _ => ∃ (p q : Addr) (t u t' u' : Int), vs = [.ref p, .ref q] ∧ MAt C H p t u ∧ MAt C H q t' u' ∧ 0 < u ∧ 0 < u' ∧ Sz 100000 t ∧ Sz 100000 u ∧ Sz 100000 t' ∧ Sz 100000 u' ∧ Sz 9000 (u * u') ∧
  ∀ (r : Addr) (t2 u2 : Int) (H' : Hp), H r = none → Same H H' → MAt C H' r t2 u2 → Fr t2 u2 (f t u t' u') (g t u t' u') → Q (.ref r) H'
def sp_part2 (C : Addr) : Sp := fun vs H Q _ => ∃ (p : Addr) (t u m : Int), vs = [.ref p, .int m] ∧ MAt C H p t u ∧ 0 < u ∧ m ≠ 0 ∧ Sz 100000 t ∧ Sz 100000 u ∧ Sz 100000 m ∧ Sz 9000 (u * m) ∧
  ∀ (r : Addr) (t2 u2 : Int) (H' : Hp), H r = none → Same H H' → MAt C H' r t2 u2 → Fr t2 u2 t (u * m) → Q (.ref r) H'
/-- a Measure that the stretch holds -/
structure Held (CM : Addr) (H : Hp) (r : Addr) (x : Q2) (lo hi : Option Q2) (li hj : Bool) : Prop where
  at_ : MAt CM H r x.1 x.2
  pos : 0 < x.2
  s1 : Sz 15000 x.1
  s2 : Sz 15000 x.2
  low : loIn lo li x = true
  high : hiIn hi hj x = true
/-- a Measure in both, or None -/
def ShV (CM : Addr) (H : Hp) (v : V) (m1 m2 n1 n2 : Option Q2) (i1 i2 j1 j2 : Bool) : Prop :=
  (someB (cutLo m1 i1 n1 j1).1 (cutHi m2 i2 n2 j2).1 (cutLo m1 i1 n1 j1).2 (cutHi m2 i2 n2 j2).2 = true ∧ ∃ r x, v = .ref r ∧ Held CM H r x m1 m2 i1 i2 ∧ Held CM H r x n1 n2 j1 j2) ∨
  (someB (cutLo m1 i1 n1 j1).1 (cutHi m2 i2 n2 j2).1 (cutLo m1 i1 n1 j1).2 (cutHi m2 i2 n2 j2).2 = false ∧ v = .non)
theorem Held.same {CM r : Addr} {H H' : Hp} {x : Q2} {lo hi : Option Q2} {li hj : Bool} (a : Held CM H r x lo hi li hj) (s : Same H H') : Held CM H' r x lo hi li hj := ⟨a.at_.same s, a.pos, a.s1, a.s2, a.low, a.high⟩
theorem ShV.same {CM : Addr} {H H' : Hp} {v : V} {m1 m2 n1 n2 : Option Q2} {i1 i2 j1 j2 : Bool} (a : ShV CM H v m1 m2 n1 n2 i1 i2 j1 j2) (s : Same H H') : ShV CM H' v m1 m2 n1 n2 i1 i2 j1 j2 := by
  rcases a with ⟨e, r, x, h1, h2, h3⟩ | h
  · exact .inl ⟨e, r, x, h1, h2.same s, h3.same s⟩
  · exact .inr h
theorem eqq_self (a : Q2) : eqq a a = true := decide_eq_true rfl
/-! ### lists of points, made in comprehensions -/
/-- all but lists stays -/
def Nl (H H' : Hp) : Prop := ∀ c o, H c = some o → notHand o = true → H' c = some o
theorem Nl.of {H H' : Hp} (s : Same H H') : Nl H H' := fun c o e _ => s c o e
theorem Nl.put {H : Hp} {l : Addr} {xs : List V} {u : HO} (h : H l = some (.lst xs)) : Nl H (upd H l u) := fun c o e no => up2 h e no
theorem EndV.nl {k : Nat} {H H' : Hp} {v : V} : ∀ {e : Option Q2}, EndV k H v e → Nl H H' → EndV k H' v e
  | none, h, _ => h
  | some _, ⟨p, h1, h2, h3⟩, s => ⟨p, h1, s _ _ h2 rfl, h3⟩
def PtV (k : Nat) (H : Hp) (v : V) : Prop := ∃ a : Q2, EndV k H v (some a)
theorem PtV.nl {k : Nat} {H H' : Hp} {v : V} (h : PtV k H v) (s : Nl H H') : PtV k H' v := by
  obtain ⟨a, h⟩ := h
  exact ⟨a, h.nl s⟩
end My
namespace My
open PySem PySem.Spec PyProof.Rows L2
/-! ### errors -/
section
variable {P : Program} {w : World} {K : PySem.W.Frag} {mg : Str → Option Value} {base : Heap} {k : Nat} {f : Addr} {fd : FuncData} {ps : List Str}
/-- a def that lets nothing out keeps its promise where more may be let out -/
theorem lift {CX : CXT} {sp : Sp} (F : FnOk P w K mg base CX0 k f fd ps sp) : FnOk P w K mg base CX k f fd ps sp :=
  ⟨F.len, fun A outer s H args us vs Q E hr he hb hv hs => codeAny_mono (F.run A outer s H args us vs Q E hr he hb hv hs) fun r s' hq => by
    cases r with
    | error e => exact False.elim hq
    | ok fl => cases fl <;> exact hq⟩
end
section
variable {X : Cx} {CX : CXT} {k : Nat} {f C : Addr} {fd : FuncData} {ps : List Str} {sp : Sp} {dvs : List V} {ds : List Value} {x : Str} {p pos : Pos} {e : Expr} {es : List Expr} {t : TA} {E : L2.St → XK}
end
/-! ### several clauses, each with the error by the same name; nothing leaves -/
/-! ### facts of error classes -/
def excCB (x : Str) : PySem.W.Frag → Bool := fun K => He.eqO (PySem.W.findIn K (.ref (He.ga K x)) "__getattribute__") (some (some (.builtin "BaseException.__getattribute__"))) && (He.eqO (PySem.W.findIn K (.ref (He.ga K x)) "__getattr__") (some none) &&
  (decide (PySem.W.subIn K (.ref (He.ga K x)) (.type "BaseException") = some true) && (PySem.W.hasDictIn K (He.ga K x) && isCB x K)))
theorem excC_ok {x : Str} {K : PySem.W.Frag} (c : excCB x K = true) : ExcC K (He.ga K x) := by
  obtain ⟨c1, c⟩ := He.ba c
  obtain ⟨c2, c⟩ := He.ba c
  obtain ⟨c3, c⟩ := He.ba c
  obtain ⟨c4, c5⟩ := He.ba c
  have z := isC_ok c5
  exact ⟨He.eqO_ok c1, He.eqO_ok c2, of_decide_eq_true c3, c4, z.ha, z.hn, z.htk, z.hm⟩
def exmB (x y : Str) (r : Bool) : PySem.W.Frag → Bool := fun K => decide (PySem.W.exmOne K (.ref (He.ga K x)) (.ref (He.ga K y)) = some r)
theorem exm_ok {x y : Str} {r : Bool} {K : PySem.W.Frag} (c : exmB x y r K = true) : PySem.W.exmOne K (.ref (He.ga K x)) (.ref (He.ga K y)) = some r := of_decide_eq_true c
/-! ### things of any kind -/
/-- a thing that is no Measure and no Stretch; h: not the hand -/
def Thing (h : Addr) (H : Hp) (v : V) : Prop := v = .non ∨ (∃ b, v = .bl b) ∨ (∃ i, v = .int i) ∨ (∃ z, v = .str z) ∨ (∃ a xs, v = .ref a ∧ a ≠ h ∧ H a = some (.lst xs)) ∨ (∃ a xs, v = .ref a ∧ H a = some (.tup xs)) ∨ (∃ a kvs, v = .ref a ∧ H a = some (.dK kvs))
theorem Thing.same {h : Addr} {H H' : Hp} {v : V} (t : Thing h H v) (s : Same H H') : Thing h H' v := by
  rcases t with t | t | t | t | ⟨a, xs, e, n, t⟩ | ⟨a, xs, e, t⟩ | ⟨a, xs, e, t⟩
  · exact .inl t
  · exact .inr (.inl t)
  · exact .inr (.inr (.inl t))
  · exact .inr (.inr (.inr (.inl t)))
  · exact .inr (.inr (.inr (.inr (.inl ⟨a, xs, e, n, s _ _ t⟩))))
  · exact .inr (.inr (.inr (.inr (.inr (.inl ⟨a, xs, e, s _ _ t⟩)))))
  · exact .inr (.inr (.inr (.inr (.inr (.inr ⟨a, xs, e, s _ _ t⟩)))))
theorem Thing.kp {h : Addr} {n : Nat} {H H' : Hp} {v : V} (t : Thing h H v) (hh : HandAt H h n) (s : Kp h H H') : Thing h H' v := by
  rcases t with t | t | t | t | ⟨a, xs, e, n, t⟩ | ⟨a, xs, e, t⟩ | ⟨a, xs, e, t⟩
  · exact .inl t
  · exact .inr (.inl t)
  · exact .inr (.inr (.inl t))
  · exact .inr (.inr (.inr (.inl t)))
  · exact .inr (.inr (.inr (.inr (.inl ⟨a, xs, e, n, s _ _ t n⟩))))
  · exact .inr (.inr (.inr (.inr (.inr (.inl ⟨a, xs, e, s.get hh t rfl⟩)))))
  · exact .inr (.inr (.inr (.inr (.inr (.inr ⟨a, xs, e, s.get hh t rfl⟩)))))
/-- its class, as isinstance asks it -/
theorem Thing.ty {K : PySem.W.Frag} {h : Addr} {H : Hp} {v : V} (t : Thing h H v) : ∃ n : String, TyX K H v (.type n) ∧ (n = "NoneType" ∨ n = "bool" ∨ n = "int" ∨ n = "str" ∨ n = "list" ∨ n = "tuple" ∨ n = "dict") := by
  rcases t with rfl | ⟨b, rfl⟩ | ⟨i, rfl⟩ | ⟨z, rfl⟩ | ⟨a, xs, rfl, n, t⟩ | ⟨a, xs, rfl, t⟩ | ⟨a, xs, rfl, t⟩
  · exact ⟨_, .base .non, .inl rfl⟩
  · exact ⟨_, .base (.bl b), .inr (.inl rfl)⟩
  · exact ⟨_, .base (.int i), .inr (.inr (.inl rfl))⟩
  · exact ⟨_, .base (.str z), .inr (.inr (.inr (.inl rfl)))⟩
  · exact ⟨_, .base (.lst t), .inr (.inr (.inr (.inr (.inl rfl))))⟩
  · exact ⟨_, .base (.tup t), .inr (.inr (.inr (.inr (.inr (.inl rfl)))))⟩
  · exact ⟨_, .base (.dK t), .inr (.inr (.inr (.inr (.inr (.inr rfl)))))⟩
end My
namespace My
open PySem PySem.Spec PyProof.Rows L2
/-! ### == and != by an own __eq__, beside things of any kind -/
section
open AutoSeq1 (wpAny_loadPart')
variable {prog : Program} {w : World} {A : Around} {E : Value → Shared → Prop} {s : Shared}
end
/-- a value of a built-in kind -/
inductive Bk (H : Hp) : V → String → Prop where
  | non : Bk H .non "NoneType"
  | bl (b : Bool) : Bk H (.bl b) "bool"
  | int (i : Int) : Bk H (.int i) "int"
  | str (z : Str) : Bk H (.str z) "str"
  | lst {a : Addr} {xs : List V} (e : H a = some (.lst xs)) : Bk H (.ref a) "list"
  | tup {a : Addr} {xs : List V} (e : H a = some (.tup xs)) : Bk H (.ref a) "tuple"
theorem Bk.ty {K : PySem.W.Frag} {H : Hp} {x : V} {T : String} (b : Bk H x T) : TyX K H x (.type T) := by
  cases b with
  | non => exact .base .non
  | bl b => exact .base (.bl b)
  | int i => exact .base (.int i)
  | str z => exact .base (.str z)
  | lst e => exact .base (.lst e)
  | tup e => exact .base (.tup e)
theorem Bk.same {H H' : Hp} {x : V} {T : String} (b : Bk H x T) (s : Same H H') : Bk H' x T := by
  cases b with
  | non => exact .non
  | bl b => exact .bl b
  | int i => exact .int i
  | str z => exact .str z
  | lst e => exact .lst (s _ _ e)
  | tup e => exact .tup (s _ _ e)
/-- the kinds that no own class stands under -/
def kinds : List String := ["NoneType", "bool", "int", "str", "list", "tuple"]
theorem Bk.mem {H : Hp} {x : V} {T : String} (b : Bk H x T) : T ∈ kinds := by
  cases b <;> simp [kinds]
/-- what == and != ask of a class with an own __eq__ and no own __ne__ -/
structure EqC (K : PySem.W.Frag) (C : Addr) : Prop where
  ne : PySem.W.findIn K (.ref C) "__ne__" = some (some (.builtin "object.__ne__"))
  ob : PySem.W.mroIn K C (.type "object") = some true
  sub : ∀ T, T ∈ kinds → PySem.W.subIn K (.ref C) (.type T) = some false
  nf : ∀ T, T ∈ kinds → PySem.W.notFirst K C (.type T) = true
  kit : ∀ T, T ∈ kinds → PySem.W.kitOne K (.type T) (.ref C) = some false
def eqCB (x : Str) : PySem.W.Frag → Bool := fun K => He.eqO (PySem.W.findIn K (.ref (He.ga K x)) "__ne__") (some (some (.builtin "object.__ne__"))) && (decide (PySem.W.mroIn K (He.ga K x) (.type "object") = some true) &&
  ((kinds.all fun T => decide (PySem.W.subIn K (.ref (He.ga K x)) (.type T) = some false)) && ((kinds.all fun T => PySem.W.notFirst K (He.ga K x) (.type T)) && (kinds.all fun T => decide (PySem.W.kitOne K (.type T) (.ref (He.ga K x)) = some false)))))
theorem eqC_ok {x : Str} {K : PySem.W.Frag} (c : eqCB x K = true) : EqC K (He.ga K x) := by
  obtain ⟨c1, c⟩ := He.ba c
  obtain ⟨c2, c⟩ := He.ba c
  obtain ⟨c3, c⟩ := He.ba c
  obtain ⟨c4, c5⟩ := He.ba c
  exact ⟨He.eqO_ok c1, of_decide_eq_true c2, fun T h => of_decide_eq_true (List.all_eq_true.mp c3 T h), fun T h => List.all_eq_true.mp c4 T h, fun T h => of_decide_eq_true (List.all_eq_true.mp c5 T h)⟩
section
variable {X : Cx} {pins : List (Addr × Obj)} {σ : L2.St} {H : Hp} {s : Shared} {A : Around} {E : Value → Shared → Prop}
end
/-- how == answers: x == y tells b, and nothing changes -/
abbrev Eqb := V → V → Hp → Bool → Prop
def RcB (X : Cx) (n : Nat) (D : Eqb) : Prop := ∀ (A : Around) (pins : List (Addr × Obj)) (s : Shared) (σ : L2.St) (H : Hp) (x y : V) (u v : Value) (b : Bool), Sub X n A → Inv X pins σ H s → RelV x u → RelV y v → D x y H b →
  wpAny (model X.prog X.w) A (richCompare .Eq u v) (fun r s' => r = .bool b ∧ Inv X pins σ H s') X.xe s
def EqB (X : Cx) (n : Nat) (D : Eqb) : Prop := ∀ (A : Around) (pins : List (Addr × Obj)) (s : Shared) (σ : L2.St) (H : Hp) (x y : V) (u v : Value) (b : Bool), Sub X n A → Inv X pins σ H s → RelV x u → RelV y v → D x y H b →
  wpAny (model X.prog X.w) A (eqBool u v) (fun r s' => r = b ∧ Inv X pins σ H s') X.xe s
/-- the own object first -/
def DOwn (K : PySem.W.Frag) (C : Addr) (R : Eqb) : Eqb := fun x y H b => ∃ a dx fs tb, x = .ref a ∧ H a = some (.ins C dx fs) ∧ TyX K H y tb ∧ PySem.W.notFirst K C tb = true ∧ (x = y → b = true) ∧ R x y H b
/-- the own object behind a thing of a built-in kind -/
def DRef (C : Addr) (R : Eqb) : Eqb := fun x y H b => ∃ a dx fs T, y = .ref a ∧ H a = some (.ins C dx fs) ∧ Bk H x T ∧ (x = y → b = true) ∧ R y x H b
def DOr (D D' : Eqb) : Eqb := fun x y H b => D x y H b ∨ D' x y H b
section
variable {X : Cx} {n : Nat} {CX : CXT} {C f : Addr} {fd : FuncData} {ps : List Str} {R D D' : Eqb} {E : XK}
theorem RcB.mono {m : Nat} (h : RcB X n D) (l : n ≤ m) : RcB X m D := fun A pins s σ H x y u v b sb I rx ry d => h A pins s σ H x y u v b (sb.mono l) I rx ry d
theorem EqB.mono {m : Nat} (h : EqB X n D) (l : n ≤ m) : EqB X m D := fun A pins s σ H x y u v b sb I rx ry d => h A pins s σ H x y u v b (sb.mono l) I rx ry d
theorem RcB.or (h : RcB X n D) (h' : RcB X n D') : RcB X n (DOr D D') := fun A pins s σ H x y u v b sb I rx ry d => d.elim (h A pins s σ H x y u v b sb I rx ry) (h' A pins s σ H x y u v b sb I rx ry)
theorem EqB.or (h : EqB X n D) (h' : EqB X n D') : EqB X n (DOr D D') := fun A pins s σ H x y u v b sb I rx ry d => d.elim (h A pins s σ H x y u v b sb I rx ry) (h' A pins s σ H x y u v b sb I rx ry)
/-! ### in, by an own == -/
def InB (D : Eqb) (x : V) (H : Hp) : List V → Bool → Prop
  | [], b => b = false
  | y :: r, b => (D y x H true ∧ b = true) ∨ (D y x H false ∧ InB D x H r b)
open AutoSeq1 (wpAny_loadPart') in
open AutoSeq1 (wpAny_loadPart') in
/-- a text beside a thing of a built-in kind -/
def DTxt : Eqb := fun x y H b => ∃ (z : Str) (T : String), x = .str z ∧ Bk H y T ∧ b = decide (y = .str z)
end
/-! ### Measures alike, beside Measures and things of built-in kinds -/
def REq (K : PySem.W.Frag) (C : Addr) : Eqb := fun x y H b => ∃ p t u, x = .ref p ∧ MAt C H p t u ∧ ((∃ q t' u', y = .ref q ∧ MAt C H q t' u' ∧ b = (decide (t = t') && decide (u = u'))) ∨ ∃ tv, TyX K H y tv ∧ PySem.W.kitOne K tv (.ref C) = some false ∧ b = false)
inductive Like (C : Addr) (H : Hp) (p : Addr) : V → Bool → Prop where
  | ms {q : Addr} {t u t' u' : Int} (a : MAt C H p t u) (b : MAt C H q t' u') : Like C H p (.ref q) (decide (t = t') && decide (u = u'))
  | kd {y : V} {T : String} {t u : Int} (a : MAt C H p t u) (b : Bk H y T) : Like C H p y false
theorem Like.same {C p : Addr} {H H' : Hp} {y : V} {b : Bool} (h : Like C H p y b) (s : Same H H') : Like C H' p y b := by
  cases h with
  | ms a b => exact .ms (a.same s) (b.same s)
  | kd a k => exact .kd (a.same s) (k.same s)
theorem mf_inj {t u t' u' : Int} (h : mf t u = mf t' u') : t = t' ∧ u = u' := by
  unfold mf at h
  injection h with h1 h2
  injection h2 with h3 _
  exact ⟨V.int.inj (congrArg Prod.snd h1), V.int.inj (congrArg Prod.snd h3)⟩
theorem MAt.uniq {C p : Addr} {H : Hp} {t u t' u' : Int} (a : MAt C H p t u) (b : MAt C H p t' u') : t = t' ∧ u = u' := by
  obtain ⟨d, a⟩ := a
  obtain ⟨d', b⟩ := b
  rw [a] at b
  have e := HO.ins.inj (Option.some.inj b)
  exact mf_inj e.2.2
theorem Bk.notIns {C p dx : Addr} {H : Hp} {T : String} {fs : List (Str × V)} (b : Bk H (.ref p) T) (e : H p = some (.ins C dx fs)) : False := by
  cases b with
  | lst z => rw [z] at e; cases e
  | tup z => rw [z] at e; cases e
section
variable {K : PySem.W.Frag} {C p : Addr} {H : Hp} {y : V} {b : Bool}
theorem nf_self : PySem.W.notFirst K C (.ref C) = true := by simp [PySem.W.notFirst]
theorem Like.fwd (cl : Cls K C) (ii : IsC K C) (ec : EqC K C) (h : Like C H p y b) : DOwn K C (REq K C) (.ref p) y H b := by
  cases h with
  | @ms q t u t' u' a b =>
    obtain ⟨da, ha⟩ := _root_.id a
    obtain ⟨db, hb⟩ := _root_.id b
    refine ⟨p, da, _, _, rfl, ha, tyM hb cl ii, nf_self, fun e => ?_, p, t, u, rfl, a, .inl ⟨q, t', u', rfl, b, rfl⟩⟩
    cases e
    obtain ⟨rfl, rfl⟩ := a.uniq b
    simp
  | @kd _ T t u a k =>
    obtain ⟨da, ha⟩ := _root_.id a
    refine ⟨p, da, _, _, rfl, ha, k.ty, ec.nf T k.mem, fun e => ?_, p, t, u, rfl, a, .inr ⟨_, k.ty, ec.kit T k.mem, rfl⟩⟩
    subst e
    exact (k.notIns ha).elim
theorem Like.bwd (cl : Cls K C) (ii : IsC K C) (ec : EqC K C) (h : Like C H p y b) : DOr (DOwn K C (REq K C)) (DRef C (REq K C)) y (.ref p) H b := by
  cases h with
  | @ms q t u t' u' a b =>
    obtain ⟨da, ha⟩ := _root_.id a
    obtain ⟨db, hb⟩ := _root_.id b
    have e2 : (decide (t = t') && decide (u = u')) = (decide (t' = t) && decide (u' = u)) := by
      rw [decide_eq_decide.mpr (eq_comm (a := t)), decide_eq_decide.mpr (eq_comm (a := u))]
    rw [e2]
    refine .inl ⟨q, db, _, _, rfl, hb, tyM ha cl ii, nf_self, fun e => ?_, q, t', u', rfl, b, .inl ⟨p, t, u, rfl, a, rfl⟩⟩
    cases e
    obtain ⟨rfl, rfl⟩ := a.uniq b
    simp
  | @kd _ T t u a k =>
    obtain ⟨da, ha⟩ := _root_.id a
    refine .inr ⟨p, da, _, T, rfl, ha, k, fun e => ?_, p, t, u, rfl, a, .inr ⟨_, k.ty, ec.kit T k.mem, rfl⟩⟩
    subst e
    exact (k.notIns ha).elim
theorem Like.non (ec : EqC K C) (h : Like C H p y b) : DOr (DOwn K C (REq K C)) (DRef C (REq K C)) .non (.ref p) H false := by
  have go : ∀ {t u : Int}, MAt C H p t u → DOr (DOwn K C (REq K C)) (DRef C (REq K C)) .non (.ref p) H false := fun {t u} a => by
    obtain ⟨da, ha⟩ := _root_.id a
    exact .inr ⟨p, da, _, _, rfl, ha, .non, (fun e => nomatch e), p, t, u, rfl, a, .inr ⟨_, (Bk.non (H := H)).ty, ec.kit _ (Bk.non (H := H)).mem, rfl⟩⟩
  cases h with
  | ms a _ => exact go a
  | kd a _ => exact go a
/-- one in [None, y] -/
theorem Like.inl (cl : Cls K C) (ii : IsC K C) (ec : EqC K C) (h : Like C H p y b) : InB (DOr (DOwn K C (REq K C)) (DRef C (REq K C))) (.ref p) H [.non, y] b := by
  refine .inr ⟨h.non ec, ?_⟩
  cases b with
  | true => exact .inl ⟨h.bwd cl ii ec, rfl⟩
  | false => exact .inr ⟨h.bwd cl ii ec, rfl⟩
/-- y in (one, z) -/
theorem Like.inr {z : Str} (cl : Cls K C) (ii : IsC K C) (ec : EqC K C) (h : Like C H p y b) (hz : y ≠ .str z) : InB (DOr (DOr (DOwn K C (REq K C)) (DRef C (REq K C))) DTxt) y H [.ref p, .str z] b := by
  have key : ∀ {c : Bool}, Like C H p y c → DOr (DOr (DOwn K C (REq K C)) (DRef C (REq K C))) DTxt (.str z) y H false := fun {c} h => by
    cases h with
    | @ms q t u t' u' a b =>
      obtain ⟨dq, hq⟩ := _root_.id b
      exact .inl (.inr ⟨q, dq, _, _, rfl, hq, .str z, (fun e => nomatch e), q, t', u', rfl, b, .inr ⟨_, (Bk.str (H := H) z).ty, ec.kit _ (Bk.str (H := H) z).mem, rfl⟩⟩)
    | @kd _ T t u a k => exact .inr ⟨z, T, rfl, k, (decide_eq_false hz).symm⟩
  cases b with
  | true => exact .inl ⟨.inl (.inl (h.fwd cl ii ec)), rfl⟩
  | false => exact .inr ⟨.inl (.inl (h.fwd cl ii ec)), .inr ⟨key h, rfl⟩⟩
end
end My
namespace My
open PySem PySem.Spec PyProof.Rows L2
/-! ### texts: str and repr of own objects, pieces of f-strings, divmod -/
section
variable {X : Cx} {n : Nat} {CX : CXT} {C f : Addr} {fd : FuncData} {ps : List Str} {sp : Sp} {E : XK}
/-- an own def is called from within a built-in one -/
theorem fn_at (F : FnOk X.prog X.w X.K X.mg X.base CX n f fd ps sp) (hb : Binds X.K fd ps []) (hx : Passes CX X E) {A : Around} {pins : List (Addr × Obj)} {s : Shared} {σ : L2.St} {H : Hp} {vs : List V} {us : List Value} {Q : VK}
    (sb : Sub X n A) (I : Inv X pins σ H s) (r : Vals vs us) (h : sp vs H Q E) : wpAny (model X.prog X.w) A (call (.ref f) us) (fun u s' => ∃ v H', Inv X pins σ H' s' ∧ RelV v u ∧ Q v H') X.xe s := by
  have e := I.env0
  have e0 : Env0 X.prog X.w X.K X.mg X.base A X.stack s H := ⟨by rw [sb.fr]; exact e.frames, e.mod, e.bs, e.bsz, e.funs, e.frf, e.hok, e.bare⟩
  have hl := F.len _ _ _ _ h
  have hbs := hb s us I.kIn (by rw [List.append_nil, ← r.length]; exact hl)
  rw [List.append_nil] at hbs
  refine wpAny_call (codeAny_mono (F.run A X.stack s H ⟨us, []⟩ us vs _ E sb.room e0 hbs r h) fun r s' hq => ?_)
  cases r with
  | error e => exact hx pins σ H s e s' I hq
  | ok fl =>
    cases fl with
    | ret w =>
      obtain ⟨z, H', I', rz, q⟩ := I.after hq
      exact ⟨z, H', I', rz, q⟩
    | next => exact False.elim hq
    | brk => exact False.elim hq
    | cont => exact False.elim hq
/-- what a text of an own object asks: the def tells a text -/
def tOwn (C : Addr) (sp : Sp) (E : XK) : V → Hp → VK → Prop := fun x H Q => ∃ a dx fs, x = .ref a ∧ H a = some (.ins C dx fs) ∧ sp [.ref a] H (fun v H' => ∃ z : Str, v = .str z ∧ Q (.str z) H') E
theorem bnil {K : PySem.W.Frag} {fd : FuncData} {ps : List Str} {ds : List Value} (v : Vals [] ds) (b : Binds K fd ps ds) : Binds K fd ps [] := by
  cases v
  exact b
end
/-! ### the text of a number, of a Measure -/
def iT (i : Int) : Str := Str.ofString (toString i)
theorem Sz.log' {a : Nat} {x : Int} (h : Sz a x) (h0 : 0 < a) (l : a ≤ 1920) : x.natAbs.log2 < 1920 := Nat.lt_of_lt_of_le (PySem.Flt.log2_lt_of h0 h) l
theorem iT_len {i : Int} (h : Sz 1900 i) : (iT i).length ≤ 1921 := by
  have e := int_text_length_le (k := 1920) (by decide) (h.log' (by decide) (by decide))
  unfold iT
  rw [PySem.ofString_length]
  omega
def wTxt (a u : Int) : Str := if a % u = 0 then iT (a / u) else if a / u = 0 then Str.empty ++ iT (a % u) ++ "/" ++ iT u else Str.empty ++ iT (a / u) ++ " " ++ iT (a % u) ++ "/" ++ iT u
def mTxt (t u : Int) : Str := if t < 0 then Str.empty ++ "-" ++ wTxt (-t) u else wTxt t u
def mRep (t u : Int) : Str := Str.empty ++ "Measure(" ++ iT t ++ ", " ++ iT u ++ ")"
theorem fr_uniq {t u t' u' a b : Int} (f : Fr t u a b) (g : Fr t' u' a b) (hb : b ≠ 0) (sa : Sz 4000 a) (sb : Sz 4000 b) : t = t' ∧ u = u' := by
  have e : t * u' = t' * u := f.of hb g.eq.symm
  have := low_eq (a := (t, u)) (b := (t', u')) ⟨f.pos, f.co, sa.le f.lt, sb.le f.lu⟩ ⟨g.pos, g.co, sa.le g.lt, sb.le g.lu⟩ e
  exact ⟨congrArg Prod.fst this, congrArg Prod.snd this⟩
end My
namespace My
open PySem PySem.Spec PyProof.Rows L2
/-! ### Stretches alike -/
def optEq : Option Q2 → Option Q2 → Bool
  | none, none => true
  | some a, some b => eqq a b
  | _, _ => false
theorem optEq_self (a : Option Q2) : optEq a a = true := by
  cases a with
  | none => rfl
  | some a => exact eqq_self a
theorem eqq_comm' (a b : Q2) : eqq a b = eqq b a := by
  unfold eqq
  exact decide_eq_decide.mpr eq_comm
theorem optEq_comm (a b : Option Q2) : optEq a b = optEq b a := by
  cases a with
  | none => cases b <;> rfl
  | some a =>
    cases b with
    | none => rfl
    | some b => exact eqq_comm' a b
def eqS (lo hi : Option Q2) (li hj : Bool) (lo' hi' : Option Q2) (li' hj' : Bool) : Bool := optEq lo lo' && (optEq hi hi' && (decide (V.bl li = V.bl li') && decide (V.bl hj = V.bl hj')))
theorem eqS_self (lo hi : Option Q2) (li hj : Bool) : eqS lo hi li hj lo hi li hj = true := by
  unfold eqS
  rw [optEq_self, optEq_self, decide_eq_true rfl, decide_eq_true rfl]
  rfl
theorem eqS_comm (lo hi : Option Q2) (li hj : Bool) (lo' hi' : Option Q2) (li' hj' : Bool) : eqS lo hi li hj lo' hi' li' hj' = eqS lo' hi' li' hj' lo hi li hj := by
  unfold eqS
  rw [optEq_comm lo, optEq_comm hi, decide_eq_decide.mpr (eq_comm (a := V.bl li)), decide_eq_decide.mpr (eq_comm (a := V.bl hj))]
section
variable {K : PySem.W.Frag} {CM CS p : Addr} {H : Hp}
def REqS (K : PySem.W.Frag) (CM CS : Addr) : Eqb := fun x y H b => ∃ p lo hi li hj, x = .ref p ∧ StAt CM CS H p lo hi li hj ∧ ((∃ q lo' hi' li' hj', y = .ref q ∧ StAt CM CS H q lo' hi' li' hj' ∧ b = eqS lo hi li hj lo' hi' li' hj') ∨
  ∃ tv, TyX K H y tv ∧ PySem.W.kitOne K tv (.ref CS) = some false ∧ b = false)
inductive LikeS (CM CS : Addr) (H : Hp) (p : Addr) : V → Bool → Prop where
  | st {q : Addr} {lo hi lo' hi' : Option Q2} {li hj li' hj' : Bool} (a : StAt CM CS H p lo hi li hj) (b : StAt CM CS H q lo' hi' li' hj') : LikeS CM CS H p (.ref q) (eqS lo hi li hj lo' hi' li' hj')
  | kd {y : V} {T : String} {lo hi : Option Q2} {li hj : Bool} (a : StAt CM CS H p lo hi li hj) (b : Bk H y T) : LikeS CM CS H p y false
  | ms {q : Addr} {t u : Int} {lo hi : Option Q2} {li hj : Bool} (a : StAt CM CS H p lo hi li hj) (b : MAt CM H q t u) : LikeS CM CS H p (.ref q) false
theorem LikeS.same {H' : Hp} {y : V} {b : Bool} (h : LikeS CM CS H p y b) (s : Same H H') : LikeS CM CS H' p y b := by
  cases h with
  | st a b => exact .st (a.same s) (b.same s)
  | kd a k => exact .kd (a.same s) (k.same s)
  | ms a m => exact .ms (a.same s) (m.same s)
theorem MsV.uniq {v : V} {e f : Option Q2} (a : MsV CM H v e) (b : MsV CM H v f) : e = f := by
  cases e with
  | none =>
    cases a
    cases f with
    | none => rfl
    | some y => obtain ⟨q, z, _⟩ := b; exact nomatch z
  | some x =>
    obtain ⟨p, rfl, hp⟩ := a
    cases f with
    | none => exact nomatch (show V.ref p = V.non from b)
    | some y =>
      obtain ⟨q, z, hq⟩ := b
      cases z
      obtain ⟨h1, h2⟩ := hp.uniq hq
      rw [show x = (x.1, x.2) from rfl, show y = (y.1, y.2) from rfl, h1, h2]
theorem sf_inj {l h l' h' : V} {i j i' j' : Bool} (e : sf l h i j = sf l' h' i' j') : l = l' ∧ h = h' ∧ i = i' ∧ j = j' := by
  have g : ∀ m : Str, (sf l h i j).lookup m = (sf l' h' i' j').lookup m := fun m => by rw [e]
  have g1 := g "low"
  have g2 := g "high"
  have g3 := g "low_in"
  have g4 := g "high_in"
  rw [sf_low, sf_low] at g1
  rw [sf_high, sf_high] at g2
  rw [sf_low_in, sf_low_in] at g3
  rw [sf_high_in, sf_high_in] at g4
  exact ⟨Option.some.inj g1, Option.some.inj g2, V.bl.inj (Option.some.inj g3), V.bl.inj (Option.some.inj g4)⟩
theorem StAt.uniq {lo hi lo' hi' : Option Q2} {li hj li' hj' : Bool} (a : StAt CM CS H p lo hi li hj) (b : StAt CM CS H p lo' hi' li' hj') : lo = lo' ∧ hi = hi' ∧ li = li' ∧ hj = hj' := by
  obtain ⟨⟨d, l, h, h1, h2, h3⟩, _⟩ := a
  obtain ⟨⟨d', l', h', k1, k2, k3⟩, _⟩ := b
  rw [h1] at k1
  have e := HO.ins.inj (Option.some.inj k1)
  obtain ⟨rfl, rfl, rfl, rfl⟩ := sf_inj e.2.2
  exact ⟨h2.uniq k2, h3.uniq k3, rfl, rfl⟩
theorem st_notM {q : Addr} {lo hi : Option Q2} {li hj : Bool} {t u : Int} (a : StAt CM CS H p lo hi li hj) (m : MAt CM H p t u) : False := by
  obtain ⟨⟨d, l, hh, h1, _⟩, _⟩ := a
  obtain ⟨dm, hm⟩ := m
  rw [h1] at hm
  have e := (HO.ins.inj (Option.some.inj hm)).2.2
  have e2 := congrArg (fun fs : List (Str × V) => fs.lookup ("top" : Str)) e
  have e3 : (sf l hh li hj).lookup ("top" : Str) = none := sf_no _ _ _ _ (by decide +kernel) (by decide +kernel) (by decide +kernel) (by decide +kernel)
  have e4 := mf_top t u
  rw [show (sf l hh li hj).lookup ("top" : Str) = (mf t u).lookup ("top" : Str) from e2, e4] at e3
  cases e3
/-- what is asked of the two classes -/
structure Two (K : PySem.W.Frag) (CM CS : Addr) : Prop where
  clM : Cls K CM
  iiM : IsC K CM
  ecM : EqC K CM
  clS : Cls K CS
  iiS : IsC K CS
  ecS : EqC K CS
  nMS : PySem.W.notFirst K CM (.ref CS) = true
  nSM : PySem.W.notFirst K CS (.ref CM) = true
  kMS : PySem.W.kitOne K (.ref CM) (.ref CS) = some false
  kSM : PySem.W.kitOne K (.ref CS) (.ref CM) = some false
def DAllS (K : PySem.W.Frag) (CM CS : Addr) : Eqb := DOr (DOr (DOwn K CS (REqS K CM CS)) (DRef CS (REqS K CM CS))) (DOwn K CM (REq K CM))
theorem LikeS.fwd {y : V} {b : Bool} (T : Two K CM CS) (h : LikeS CM CS H p y b) : DOwn K CS (REqS K CM CS) (.ref p) y H b := by
  cases h with
  | @st q lo hi lo' hi' li hj li' hj' a b =>
    obtain ⟨⟨d, l, hh, h1, _⟩, _⟩ := _root_.id a
    obtain ⟨⟨d', l', hh', k1, _⟩, _⟩ := _root_.id b
    refine ⟨p, d, _, _, rfl, h1, tyM k1 T.clS T.iiS, nf_self, fun e => ?_, p, lo, hi, li, hj, rfl, a, .inl ⟨q, lo', hi', li', hj', rfl, b, rfl⟩⟩
    cases e
    obtain ⟨rfl, rfl, rfl, rfl⟩ := a.uniq b
    exact eqS_self _ _ _ _
  | @kd _ Ty lo hi li hj a k =>
    obtain ⟨⟨d, l, hh, h1, _⟩, _⟩ := _root_.id a
    refine ⟨p, d, _, _, rfl, h1, k.ty, T.ecS.nf Ty k.mem, fun e => ?_, p, lo, hi, li, hj, rfl, a, .inr ⟨_, k.ty, T.ecS.kit Ty k.mem, rfl⟩⟩
    subst e
    exact (k.notIns h1).elim
  | @ms q t u lo hi li hj a m =>
    obtain ⟨⟨d, l, hh, h1, _⟩, _⟩ := _root_.id a
    obtain ⟨dm, hm⟩ := _root_.id m
    have ty := tyM hm T.clM T.iiM
    refine ⟨p, d, _, _, rfl, h1, ty, T.nSM, fun e => ?_, p, lo, hi, li, hj, rfl, a, .inr ⟨_, ty, T.kMS, rfl⟩⟩
    cases e
    exact (st_notM (q := p) a m).elim
theorem LikeS.bwd {y : V} {b : Bool} (T : Two K CM CS) (h : LikeS CM CS H p y b) : DAllS K CM CS y (.ref p) H b := by
  cases h with
  | @st q lo hi lo' hi' li hj li' hj' a b =>
    rw [eqS_comm]
    exact .inl (.inl (LikeS.fwd T (.st b a)))
  | @kd _ Ty lo hi li hj a k =>
    obtain ⟨⟨d, l, hh, h1, _⟩, _⟩ := _root_.id a
    refine .inl (.inr ⟨p, d, _, Ty, rfl, h1, k, fun e => ?_, p, lo, hi, li, hj, rfl, a, .inr ⟨_, k.ty, T.ecS.kit Ty k.mem, rfl⟩⟩)
    subst e
    exact (k.notIns h1).elim
  | @ms q t u lo hi li hj a m =>
    obtain ⟨⟨d, l, hh, h1, _⟩, _⟩ := _root_.id a
    obtain ⟨dm, hm⟩ := _root_.id m
    have ty := tyM h1 T.clS T.iiS
    refine .inr ⟨q, dm, _, _, rfl, hm, ty, T.nMS, fun e => ?_, q, t, u, rfl, m, .inr ⟨_, ty, T.kSM, rfl⟩⟩
    cases e
    exact (st_notM (q := p) a m).elim
theorem LikeS.inl {y : V} {b : Bool} (T : Two K CM CS) (h : LikeS CM CS H p y b) : InB (DAllS K CM CS) (.ref p) H [.non, y] b := by
  have go : ∀ {lo hi li hj}, StAt CM CS H p lo hi li hj → DAllS K CM CS .non (.ref p) H false := fun {lo hi li hj} a => LikeS.bwd T (.kd a .non)
  have nn : DAllS K CM CS .non (.ref p) H false := by
    cases h with
    | st a _ => exact go a
    | kd a _ => exact go a
    | ms a _ => exact go a
  refine .inr ⟨nn, ?_⟩
  cases b with
  | true => exact .inl ⟨h.bwd T, rfl⟩
  | false => exact .inr ⟨h.bwd T, rfl⟩
end
/-! ### texts of Stretches -/
/-- the tuple of two ends and two truths -/
def EndsK (k : Nat) (H : Hp) (v : V) (ea eb : Option Q2) (ia ib : Bool) : Prop := ∃ p va vb, v = .ref p ∧ H p = some (.tup [va, vb, .bl ia, .bl ib]) ∧ EndV k H va ea ∧ EndV k H vb eb
theorem EndsK.nl {k : Nat} {H H' : Hp} {v : V} {ea eb : Option Q2} {ia ib : Bool} (a : EndsK k H v ea eb ia ib) (s : Nl H H') : EndsK k H' v ea eb ia ib := by
  obtain ⟨p, va, vb, h0, h1, h2, h3⟩ := a
  exact ⟨p, va, vb, h0, s _ _ h1 rfl, h2.nl s, h3.nl s⟩
theorem EndsK.same {k : Nat} {H H' : Hp} {v : V} {ea eb : Option Q2} {ia ib : Bool} (a : EndsK k H v ea eb ia ib) (s : Same H H') : EndsK k H' v ea eb ia ib := a.nl (Nl.of s)
theorem EndsAt.k {H : Hp} {p : Addr} {ea eb : Option Q2} {ia ib : Bool} (a : EndsAt H p ea eb ia ib) : EndsK 150 H (.ref p) ea eb ia ib := by
  obtain ⟨⟨va, vb, h1, h2, h3⟩, _⟩ := a
  exact ⟨p, va, vb, rfl, h1, h2.mono (by decide), h3.mono (by decide)⟩
end My
namespace My
open PySem PySem.Spec PyProof.Rows L2
/-! ### texts by their signs: partings at the last and the first sign -/
/-! ### x.rpartition(sep) -/
/-! ### a leading sign -/
def sw (c : Nat) : List Nat → Bool
  | [] => false
  | x :: _ => decide (x = c)
/-! ### the words of a measure's text -/
/-! ### the text of a Measure by its signs -/
end My
namespace My
open PySem PySem.Spec PyProof.Rows L2
/-! ### list.count(True) of truths -/
/-! ### Measures as fractions -/
theorem fr_of {t u A B : Int} (hu : 0 < u) (co : Int.gcd t u = 1) (hB : 0 < B) (e : t * B = A * u) : Fr t u A B := by
  have co' : Int.gcd u t = 1 := by rw [Int.gcd_comm]; exact co
  have d2 : u ∣ B := dvd_co (b := t) ⟨A, by rw [e, Int.mul_comm]⟩ co'
  obtain ⟨k, hk⟩ := d2
  have k0 : 0 < k := by
    rcases Int.lt_or_le 0 k with z | z
    · exact z
    · have := Int.mul_nonneg_of_nonpos_of_nonpos (show -u ≤ 0 by omega) z
      have e2 : -u * k = -(u * k) := Int.neg_mul ..
      omega
  have e1 : A = t * k := by
    have : A * u = (t * k) * u := by
      rw [← e, hk]
      simp only [Int.mul_assoc, Int.mul_comm, Int.mul_left_comm]
    exact Int.eq_of_mul_eq_mul_right (by omega) this
  refine ⟨hu, e, co, ?_, ?_⟩
  · rw [e1, Int.natAbs_mul]
    exact Nat.le_mul_of_pos_right _ (by omega)
  · rw [hk, Int.natAbs_mul]
    exact Nat.le_mul_of_pos_right _ (by omega)
def qadd (x y : Q2) : Q2 := (x.1 * y.2 + y.1 * x.2, x.2 * y.2)
def qsub (x y : Q2) : Q2 := (x.1 * y.2 - y.1 * x.2, x.2 * y.2)
def qmul (x y : Q2) : Q2 := (x.1 * y.1, x.2 * y.2)
def qprt (x : Q2) (m : Int) : Q2 := (x.1 * sgn m, x.2 * (m * sgn m))
def qmk (a b : Int) : Q2 := (a * sgn b, b * sgn b)
theorem sgn_pos {m : Int} (h : m ≠ 0) : 0 < m * sgn m := by
  unfold sgn; split
  · omega
  · rw [Int.mul_neg_one]; omega
structure QAt (C : Addr) (H : Hp) (p : Addr) (k : Nat) (x : Q2) : Prop where
  ob : ∃ t u, MAt C H p t u ∧ Fr t u x.1 x.2
  pos : 0 < x.2
  s1 : Sz k x.1
  s2 : Sz k x.2
theorem QAt.same {C p : Addr} {H H' : Hp} {k : Nat} {x : Q2} (h : QAt C H p k x) (s : Same H H') : QAt C H' p k x := by
  obtain ⟨⟨t, u, m, f⟩, h1, h2, h3⟩ := h
  exact ⟨⟨t, u, m.same s, f⟩, h1, h2, h3⟩
theorem QAt.mono {C p : Addr} {H : Hp} {k j : Nat} {x : Q2} (h : QAt C H p k x) (l : k ≤ j) : QAt C H p j x := ⟨h.ob, h.pos, h.s1.mono l, h.s2.mono l⟩
theorem QAt.kp {C p hd : Addr} {H H' : Hp} {n k : Nat} {x : Q2} (h : QAt C H p k x) (hh : HandAt H hd n) (s : Kp hd H H') : QAt C H' p k x := by
  obtain ⟨⟨t, u, m, f⟩, h1, h2, h3⟩ := h
  exact ⟨⟨t, u, m.kp hh s, f⟩, h1, h2, h3⟩
theorem QAt.nl {C p : Addr} {H H' : Hp} {k : Nat} {x : Q2} (h : QAt C H p k x) (s : Nl H H') : QAt C H' p k x := by
  obtain ⟨⟨t, u, ⟨d, m⟩, f⟩, h1, h2, h3⟩ := h
  exact ⟨⟨t, u, ⟨d, s _ _ m rfl⟩, f⟩, h1, h2, h3⟩
section
variable {C p q : Addr} {H : Hp} {Q : VK} {E : XK} {k j : Nat} {x y : Q2}
theorem QAt.raw (h : QAt C H p k x) {m : Str} (h1 : ¬ m = "top") (h2 : ¬ m = "bottom") : ∃ dx fs, H p = some (.ins C dx fs) ∧ fs.lookup m = none := by
  obtain ⟨⟨t, u, ⟨d, m⟩, f⟩, _⟩ := h
  exact ⟨d, _, m, mf_no _ _ h1 h2⟩
theorem q_add (hx : QAt C H p k x) (hy : QAt C H q j y) (l : k + j ≤ 8900) (l0 : 0 < k) (l1 : 0 < j) (f : ∀ (r : Addr) (H' : Hp), Same H H' → QAt C H' r (k + j + 1) (qadd x y) → Q (.ref r) H') :
    sp_bin2 C (fun t u t' u' => t * u' + t' * u) (fun t u t' u' => u * u') [.ref p, .ref q] H Q E := by
  obtain ⟨⟨t, u, m1, f1⟩, px, a1, a2⟩ := hx
  obtain ⟨⟨t', u', m2, f2⟩, py, b1, b2⟩ := hy
  refine ⟨p, q, t, u, t', u', rfl, m1, m2, f1.pos, f2.pos, (a1.le f1.lt).mono (by omega), (a2.le f1.lu).mono (by omega), (b1.le f2.lt).mono (by omega), (b2.le f2.lu).mono (by omega), ((a2.le f1.lu).mul (b2.le f2.lu)).mono (by omega), fun r t2 u2 H' _ s m f3 => ?_⟩
  refine f r H' s ⟨⟨t2, u2, m, fr_of f3.pos f3.co (Int.mul_pos px py) ?_⟩, Int.mul_pos px py, (a1.mul b2).add ((b1.mul a2).mono (by omega)), (a2.mul b2).mono (by omega)⟩
  have e1 := f1.eq
  have e2 := f2.eq
  have e3 := f3.eq
  have z : (t2 * (x.2 * y.2)) * (u * u') = ((x.1 * y.2 + y.1 * x.2) * u2) * (u * u') := by
    have : (t2 * (x.2 * y.2)) * (u * u') = (t2 * (u * u')) * (x.2 * y.2) := by grind
    rw [this, e3]
    have w1 : (t * u' + t' * u) * u2 * (x.2 * y.2) = ((t * x.2) * u' * y.2 + (t' * y.2) * u * x.2) * u2 := by grind
    rw [w1, e1, e2]
    grind
  have pu := Int.mul_pos f1.pos f2.pos
  exact Int.eq_of_mul_eq_mul_right (by omega) z
theorem q_sub (hx : QAt C H p k x) (hy : QAt C H q j y) (l : k + j ≤ 8900) (l0 : 0 < k) (l1 : 0 < j) (f : ∀ (r : Addr) (H' : Hp), Same H H' → QAt C H' r (k + j + 1) (qsub x y) → Q (.ref r) H') :
    sp_bin2 C (fun t u t' u' => t * u' - t' * u) (fun t u t' u' => u * u') [.ref p, .ref q] H Q E := by
  obtain ⟨⟨t, u, m1, f1⟩, px, a1, a2⟩ := hx
  obtain ⟨⟨t', u', m2, f2⟩, py, b1, b2⟩ := hy
  refine ⟨p, q, t, u, t', u', rfl, m1, m2, f1.pos, f2.pos, (a1.le f1.lt).mono (by omega), (a2.le f1.lu).mono (by omega), (b1.le f2.lt).mono (by omega), (b2.le f2.lu).mono (by omega), ((a2.le f1.lu).mul (b2.le f2.lu)).mono (by omega), fun r t2 u2 H' _ s m f3 => ?_⟩
  refine f r H' s ⟨⟨t2, u2, m, fr_of f3.pos f3.co (Int.mul_pos px py) ?_⟩, Int.mul_pos px py, (a1.mul b2).sub ((b1.mul a2).mono (by omega)), (a2.mul b2).mono (by omega)⟩
  have e1 := f1.eq
  have e2 := f2.eq
  have e3 := f3.eq
  have z : (t2 * (x.2 * y.2)) * (u * u') = ((x.1 * y.2 - y.1 * x.2) * u2) * (u * u') := by
    have : (t2 * (x.2 * y.2)) * (u * u') = (t2 * (u * u')) * (x.2 * y.2) := by grind
    rw [this, e3]
    have w1 : (t * u' - t' * u) * u2 * (x.2 * y.2) = ((t * x.2) * u' * y.2 - (t' * y.2) * u * x.2) * u2 := by grind
    rw [w1, e1, e2]
    grind
  have pu := Int.mul_pos f1.pos f2.pos
  exact Int.eq_of_mul_eq_mul_right (by omega) z
theorem q_mul (hx : QAt C H p k x) (hy : QAt C H q j y) (l : k + j ≤ 8900) (l0 : 0 < k) (l1 : 0 < j) (f : ∀ (r : Addr) (H' : Hp), Same H H' → QAt C H' r (k + j + 1) (qmul x y) → Q (.ref r) H') :
    sp_bin2 C (fun t u t' u' => t * t') (fun t u t' u' => u * u') [.ref p, .ref q] H Q E := by
  obtain ⟨⟨t, u, m1, f1⟩, px, a1, a2⟩ := hx
  obtain ⟨⟨t', u', m2, f2⟩, py, b1, b2⟩ := hy
  refine ⟨p, q, t, u, t', u', rfl, m1, m2, f1.pos, f2.pos, (a1.le f1.lt).mono (by omega), (a2.le f1.lu).mono (by omega), (b1.le f2.lt).mono (by omega), (b2.le f2.lu).mono (by omega), ((a2.le f1.lu).mul (b2.le f2.lu)).mono (by omega), fun r t2 u2 H' _ s m f3 => ?_⟩
  refine f r H' s ⟨⟨t2, u2, m, fr_of f3.pos f3.co (Int.mul_pos px py) ?_⟩, Int.mul_pos px py, (a1.mul b1).mono (by omega), (a2.mul b2).mono (by omega)⟩
  have e1 := f1.eq
  have e2 := f2.eq
  have e3 := f3.eq
  have z : (t2 * (x.2 * y.2)) * (u * u') = ((x.1 * y.1) * u2) * (u * u') := by
    have : (t2 * (x.2 * y.2)) * (u * u') = (t2 * (u * u')) * (x.2 * y.2) := by grind
    rw [this, e3]
    have w1 : (t * t') * u2 * (x.2 * y.2) = (t * x.2) * (t' * y.2) * u2 := by grind
    rw [w1, e1, e2]
    grind
  have pu := Int.mul_pos f1.pos f2.pos
  exact Int.eq_of_mul_eq_mul_right (by omega) z
theorem q_prt {m : Int} (hx : QAt C H p k x) (hm : m ≠ 0) (sm : Sz j m) (l : k + j ≤ 8900) (l0 : 0 < k) (l1 : 0 < j) (f : ∀ (r : Addr) (H' : Hp), Same H H' → QAt C H' r (k + j + 1) (qprt x m) → Q (.ref r) H') :
    sp_part2 C [.ref p, .int m] H Q E := by
  obtain ⟨⟨t, u, m1, f1⟩, px, a1, a2⟩ := hx
  have pm := sgn_pos hm
  have sgnN : (sgn m).natAbs = 1 := by rcases sgn_cases m with e | e <;> rw [e] <;> rfl
  refine ⟨p, t, u, m, rfl, m1, f1.pos, hm, (a1.le f1.lt).mono (by omega), (a2.le f1.lu).mono (by omega), sm.mono (by omega), ((a2.le f1.lu).mul sm).mono (by omega), fun r t2 u2 H' _ s mm f3 => ?_⟩
  have z1 : Sz (k + j + 1) (x.1 * sgn m) := (a1.le (y := x.1 * sgn m) (by rw [Int.natAbs_mul, sgnN, Nat.mul_one]; exact Nat.le_refl _)).mono (by omega)
  have z2 : Sz j (m * sgn m) := sm.le (by rw [Int.natAbs_mul, sgnN, Nat.mul_one]; exact Nat.le_refl _)
  refine f r H' s ⟨⟨t2, u2, mm, fr_of f3.pos f3.co (Int.mul_pos px pm) ?_⟩, Int.mul_pos px pm, z1, (a2.mul z2).mono (by omega)⟩
  have e1 := f1.eq
  have e3 := f3.eq
  have hu := f1.pos
  have z : (t2 * (x.2 * (m * sgn m))) * u = ((x.1 * sgn m) * u2) * u := by
    have w0 : (t2 * (x.2 * (m * sgn m))) * u = (t2 * (u * m)) * x.2 * sgn m := by grind
    rw [w0, e3]
    have w1 : t * u2 * x.2 * sgn m = (t * x.2) * u2 * sgn m := by grind
    rw [w1, e1]
    grind
  exact Int.eq_of_mul_eq_mul_right (by omega) z
theorem q_mk {a b t u : Int} {H' : Hp} (m : MAt C H' p t u) (f : Fr t u a b) (hb : b ≠ 0) (sa : Sz k a) (sb : Sz k b) : QAt C H' p k (qmk a b) := by
  have pm := sgn_pos hb
  have sgnN : (sgn b).natAbs = 1 := by rcases sgn_cases b with e | e <;> rw [e] <;> rfl
  refine ⟨⟨t, u, m, fr_of f.pos f.co pm ?_⟩, pm, sa.le (by show (a * sgn b).natAbs ≤ _; rw [Int.natAbs_mul, sgnN, Nat.mul_one]; exact Nat.le_refl _), sb.le (by show (b * sgn b).natAbs ≤ _; rw [Int.natAbs_mul, sgnN, Nat.mul_one]; exact Nat.le_refl _)⟩
  show t * (b * sgn b) = a * sgn b * u
  have e := f.eq
  have : t * (b * sgn b) = (t * b) * sgn b := by grind
  rw [this, e]
  grind
theorem q_below {al : Bool} (hx : QAt C H p k x) (hy : QAt C H q j y) (l : k ≤ 9000) (l1 : j ≤ 9000) (f : Q (.bl (ltq x y || (al && eqq x y))) H) : sp_below C [.ref p, .ref q, .bl al] H Q E := by
  obtain ⟨⟨t, u, m1, f1⟩, px, a1, a2⟩ := hx
  obtain ⟨⟨t', u', m2, f2⟩, py, b1, b2⟩ := hy
  refine ⟨p, q, t, u, t', u', al, rfl, m1, m2, (a1.le f1.lt).mono l, (a2.le f1.lu).mono l, (b1.le f2.lt).mono l1, (b2.le f2.lu).mono l1, ?_⟩
  have r1 : Re (t, u) x := ⟨f1.pos, px, f1.eq⟩
  have r2 : Re (t', u') y := ⟨f2.pos, py, f2.eq⟩
  have e : lessA t u t' u' al = (ltq x y || (al && eqq x y)) := by
    rw [← ltq_congr r1 r2, ← eqq_congr r1 r2]
    rfl
  rw [e]
  exact f
end
/-! the same, behind the arguments -/
section
variable {C p q : Addr} {H : Hp} {Q : VK} {E : XK} {k j : Nat} {x y : Q2} {σ : L2.St}
theorem q_addT (hx : QAt C H p k x) (hy : QAt C H q j y) (l : k + j ≤ 8900) (l0 : 0 < k) (l1 : 0 < j) (f : ∀ (r : Addr) (H' : Hp), Same H H' → QAt C H' r (k + j + 1) (qadd x y) → Q (.ref r) H') :
    tNil σ H (fun xs H2 => sp_bin2 C (fun t u t' u' => t * u' + t' * u) (fun t u t' u' => u * u') (.ref p :: ((.ref q :: xs) ++ [])) H2 Q E) := q_add (E := E) hx hy l l0 l1 f
theorem q_subT (hx : QAt C H p k x) (hy : QAt C H q j y) (l : k + j ≤ 8900) (l0 : 0 < k) (l1 : 0 < j) (f : ∀ (r : Addr) (H' : Hp), Same H H' → QAt C H' r (k + j + 1) (qsub x y) → Q (.ref r) H') :
    tNil σ H (fun xs H2 => sp_bin2 C (fun t u t' u' => t * u' - t' * u) (fun t u t' u' => u * u') (.ref p :: ((.ref q :: xs) ++ [])) H2 Q E) := q_sub (E := E) hx hy l l0 l1 f
theorem q_mulT (hx : QAt C H p k x) (hy : QAt C H q j y) (l : k + j ≤ 8900) (l0 : 0 < k) (l1 : 0 < j) (f : ∀ (r : Addr) (H' : Hp), Same H H' → QAt C H' r (k + j + 1) (qmul x y) → Q (.ref r) H') :
    tNil σ H (fun xs H2 => sp_bin2 C (fun t u t' u' => t * t') (fun t u t' u' => u * u') (.ref p :: ((.ref q :: xs) ++ [])) H2 Q E) := q_mul (E := E) hx hy l l0 l1 f
theorem q_prt2T (hx : QAt C H p k x) (l : k + 10 ≤ 8900) (l0 : 0 < k) (f : ∀ (r : Addr) (H' : Hp), Same H H' → QAt C H' r (k + 10 + 1) (qprt x 2) → Q (.ref r) H') :
    tNil σ H (fun xs H2 => sp_part2 C (.ref p :: (xs ++ [.int 2])) H2 Q E) := q_prt (E := E) (j := 10) hx (by decide) (by decide) l l0 (by decide) f
theorem q_belowT (hx : QAt C H p k x) (hy : QAt C H q j y) (l : k ≤ 9000) (l1 : j ≤ 9000) (f : Q (.bl (ltq x y)) H) :
    tNil σ H (fun xs H2 => sp_below C (.ref p :: ((.ref q :: xs) ++ [.bl false])) H2 Q E) := q_below (E := E) (al := false) hx hy l l1 (by rw [Bool.false_and, Bool.or_false]; exact f)
theorem q_belowA (hx : QAt C H p k x) (hy : QAt C H q j y) (l : k ≤ 9000) (l1 : j ≤ 9000) (f : Q (.bl (ltq x y || eqq x y)) H) :
    tCons (tC (.bl true)) tNil σ H (fun xs H2 => sp_below C (.ref p :: ((.ref q :: xs) ++ [])) H2 Q E) := q_below (E := E) (al := true) hx hy l l1 (by rw [Bool.true_and]; exact f)
end
/-! ### sums keep the order; the midst lies between -/
def qhalf (x y : Q2) : Q2 := qprt (qadd x y) 2
theorem qhalf_eq (x y : Q2) : qhalf x y = (x.1 * y.2 + y.1 * x.2, x.2 * y.2 * 2) := by
  unfold qhalf qprt qadd
  have : sgn 2 = 1 := by decide
  rw [this, Int.mul_one, Int.mul_one]
theorem half_lo {x y : Q2} (hx : 0 < x.2) (hy : 0 < y.2) : ltq x (qhalf x y) = ltq x y ∧ ltq (qhalf x y) y = ltq x y ∧ eqq (qhalf x y) x = eqq x y ∧ eqq x (qhalf x y) = eqq x y := by
  rw [qhalf_eq]
  unfold ltq eqq
  have e1 : x.1 * (x.2 * y.2 * 2) = (2 * (x.1 * y.2)) * x.2 := by grind
  have e2 : (x.1 * y.2 + y.1 * x.2) * x.2 = (x.1 * y.2 + y.1 * x.2) * x.2 := rfl
  have e3 : y.1 * (x.2 * y.2 * 2) = (2 * (y.1 * x.2)) * y.2 := by grind
  refine ⟨decide_eq_decide.mpr ?_, decide_eq_decide.mpr ?_, decide_eq_decide.mpr ?_, decide_eq_decide.mpr ?_⟩
  · show x.1 * (x.2 * y.2 * 2) < (x.1 * y.2 + y.1 * x.2) * x.2 ↔ _
    rw [e1]
    exact ⟨fun h => by have := Int.lt_of_mul_lt_mul_right h (Int.le_of_lt hx); omega, fun h => Int.mul_lt_mul_of_pos_right (by omega) hx⟩
  · show (x.1 * y.2 + y.1 * x.2) * y.2 < y.1 * (x.2 * y.2 * 2) ↔ _
    rw [e3]
    exact ⟨fun h => by have := Int.lt_of_mul_lt_mul_right h (Int.le_of_lt hy); omega, fun h => Int.mul_lt_mul_of_pos_right (by omega) hy⟩
  · show (x.1 * y.2 + y.1 * x.2) * x.2 = x.1 * (x.2 * y.2 * 2) ↔ _
    rw [e1]
    exact ⟨fun h => by have := Int.eq_of_mul_eq_mul_right (by omega) h; omega, fun h => by rw [h]; grind⟩
  · show x.1 * (x.2 * y.2 * 2) = (x.1 * y.2 + y.1 * x.2) * x.2 ↔ _
    rw [e1]
    exact ⟨fun h => by have := Int.eq_of_mul_eq_mul_right (by omega) h; omega, fun h => by rw [h]; grind⟩
/-! ### numbers of at most twelve figures -/
/-! ### constants by their signs -/
/-! ### a comprehension over a text -/
end My
namespace My
open PySem PySem.Spec PyProof.Rows L2
/-! ### comprehensions over anything that is walked -/
section
variable {J : It} {n : Nat} {G : Hp → Prop} {Y : Nat → Hp → V → Hp → Prop} {g : TG} {tt : TT} {te : TE} {vs : List Nat} {σ : L2.St} {H1 : Hp} {D : Addr} {Qd : Hp → Prop}
/-- the elements are known: z some y is told, z none is left out -/
theorem lcz (w : Walk J n G Y) (hGs : ∀ H H', G H → Same H H' → G H') (zs : List (Option V)) (hlen : zs.length = n) (hz : n < sizeLine) (hG : G H1) (hD : H1 D = none)
    (hs : ∀ (i : Nat) (x : V) (H H' : Hp) (z : Option V) (N : VK) (M : Hp → Prop), i < n → zs[i]? = some z → Same H1 H → Y i H x H' → (∀ y H4, z = some y → Same H H4 → N y H4) → (∀ H4, z = none → Same H H4 → M H4) →
      g x (wipe σ vs) H' fun σ2 H2 => wipe σ2 vs = wipe σ vs ∧ tt σ2 H2 fun b H3 => if b = true then te σ2 H3 N else M H3)
    (hd : ∀ H, Same H1 H → H D = some (.lst (zs.filterMap _root_.id)) → Qd H) :
    ∃ W : Nat → Nat → Hp → Prop, (∃ m, W 0 m (upd H1 D (.lst []))) ∧ ∀ i m H, W i m H →
      (J.stop i H ∧ Qd H) ∨ (J.go i H ∧ ∃ Nx : Hp → Prop, (∀ H', Nx H' → ∃ m', m' < m ∧ W (i + 1) m' H') ∧ ∀ x H', J.yld i H x H' → g x (wipe σ vs) H' fun σ2 H2 => wipe σ2 vs = wipe σ vs ∧ tt σ2 H2 fun b H3 =>
        if b = true then te σ2 H3 fun y H4 => ∃ acc, H4 D = some (.lst acc) ∧ acc.length < sizeLine ∧ Nx (upd H4 D (.lst (acc ++ [y]))) else Nx H3) := by
  refine lc_it w (fun i H => Same H1 H ∧ H D = some (.lst ((zs.take i).filterMap _root_.id))) ⟨same1 hD, upd_same⟩ (fun i H _ p => hGs _ _ hG p.1) (fun i x H H' hi p y => ?_) (fun H p => hd H p.1 ?_)
  · have hi2 : i < zs.length := by omega
    have tk : ∀ z, zs[i]? = some z → (zs.take (i + 1)).filterMap _root_.id = (zs.take i).filterMap _root_.id ++ z.toList := fun z e => by
      rw [List.take_add_one, e, List.filterMap_append]
      cases z <;> rfl
    have ez : zs[i]? = some zs[i] := List.getElem?_eq_getElem hi2
    refine hs i x H H' zs[i] _ _ hi ez p.1 y (fun v H4 e s4 => ⟨_, s4 _ _ p.2, ?_, ?_, ?_⟩) (fun H4 e s4 => ⟨p.1.trans s4, ?_⟩)
    · refine Nat.lt_of_le_of_lt (List.length_filterMap_le _ _) ?_
      rw [List.length_take]; omega
    · intro c o ec
      rw [upd_ne (ne_of_none ec hD)]
      exact s4 _ _ (p.1 _ _ ec)
    · rw [upd_same, tk _ ez, e]
      rfl
    · rw [tk _ ez, e, Option.toList_none, List.append_nil]
      exact s4 _ _ p.2
  · have e := p.2
    rw [← hlen, List.take_length] at e
    exact e
/-- the elements are told by what holds of them -/
theorem lcr (w : Walk J n G Y) (hGs : ∀ H H', G H → Same H H' → G H') (R : Nat → Hp → V → Prop) (hR : ∀ i H H' y, R i H y → Nl H H' → R i H' y) (hz : n < sizeLine) (hG : G H1) (hD : H1 D = none)
    (hs : ∀ (i : Nat) (x : V) (H H' : Hp) (N : VK) (M : Hp → Prop), i < n → Same H1 H → Y i H x H' → (∀ y H4, Same H H4 → R i H4 y → N y H4) →
      g x (wipe σ vs) H' fun σ2 H2 => wipe σ2 vs = wipe σ vs ∧ tt σ2 H2 fun b H3 => if b = true then te σ2 H3 N else M H3)
    (hd : ∀ H ys, Same H1 H → H D = some (.lst ys) → ys.length = n → (∀ i y, ys[i]? = some y → R i H y) → Qd H) :
    ∃ W : Nat → Nat → Hp → Prop, (∃ m, W 0 m (upd H1 D (.lst []))) ∧ ∀ i m H, W i m H →
      (J.stop i H ∧ Qd H) ∨ (J.go i H ∧ ∃ Nx : Hp → Prop, (∀ H', Nx H' → ∃ m', m' < m ∧ W (i + 1) m' H') ∧ ∀ x H', J.yld i H x H' → g x (wipe σ vs) H' fun σ2 H2 => wipe σ2 vs = wipe σ vs ∧ tt σ2 H2 fun b H3 =>
        if b = true then te σ2 H3 fun y H4 => ∃ acc, H4 D = some (.lst acc) ∧ acc.length < sizeLine ∧ Nx (upd H4 D (.lst (acc ++ [y]))) else Nx H3) := by
  refine lc_it w (fun i H => Same H1 H ∧ ∃ ys, H D = some (.lst ys) ∧ ys.length = i ∧ ∀ j y, ys[j]? = some y → R j H y) ⟨same1 hD, [], upd_same, rfl, fun j y hy => by simp at hy⟩ (fun i H _ p => hGs _ _ hG p.1) (fun i x H H' hi p y => ?_) (fun H p => ?_)
  · obtain ⟨s1, ys, h1, h2, h3⟩ := p
    refine hs i x H H' _ _ hi s1 y (fun v H4 s4 r4 => ⟨ys, s4 _ _ h1, by omega, ?_, ys ++ [v], upd_same, by rw [List.length_append, h2]; rfl, ?_⟩)
    · intro c o ec
      rw [upd_ne (ne_of_none ec hD)]
      exact s4 _ _ (s1 _ _ ec)
    · intro j z hj
      have n4 : Nl H4 (upd H4 D (.lst (ys ++ [v]))) := Nl.put (s4 _ _ h1)
      by_cases hlt : j < ys.length
      · rw [List.getElem?_append_left hlt] at hj
        exact hR _ _ _ _ (hR _ _ _ _ (h3 j z hj) (Nl.of s4)) n4
      · have hj2 : j = ys.length := by
          have := (List.getElem?_eq_some_iff.mp hj).1
          rw [List.length_append, List.length_singleton] at this
          omega
        subst hj2
        rw [List.getElem?_append_right (Nat.le_refl _), Nat.sub_self] at hj
        cases hj
        rw [h2]
        exact hR _ _ _ _ r4 n4
  · obtain ⟨s1, ys, h1, h2, h3⟩ := p
    exact hd H ys s1 h1 h2 h3
end
/-! ### several Measures -/
/-- the values ps are Measures of the fractions zs -/
structure Mks (C : Addr) (H : Hp) (k : Nat) (ps : List V) (zs : List Q2) : Prop where
  len : ps.length = zs.length
  all : ∀ (i : Nat) (v : V) (z : Q2), ps[i]? = some v → zs[i]? = some z → ∃ p, v = V.ref p ∧ QAt C H p k z
section
variable {C : Addr} {H H' : Hp} {k : Nat} {ps : List V} {zs : List Q2} {v : V}
theorem Mks.same (m : Mks C H k ps zs) (s : Same H H') : Mks C H' k ps zs := ⟨m.len, fun i v z h1 h2 => by
  obtain ⟨p, e, q⟩ := m.all i v z h1 h2
  exact ⟨p, e, q.same s⟩⟩
theorem Mks.kp {hd : Addr} {n : Nat} (m : Mks C H k ps zs) (hh : HandAt H hd n) (s : Kp hd H H') : Mks C H' k ps zs := ⟨m.len, fun i v z h1 h2 => by
  obtain ⟨p, e, q⟩ := m.all i v z h1 h2
  exact ⟨p, e, q.kp hh s⟩⟩
theorem Mks.at (m : Mks C H k ps zs) {i : Nat} {z : Q2} (h : zs[i]? = some z) : ∃ p, ps[i]? = some (.ref p) ∧ QAt C H p k z := by
  have hi : i < ps.length := by rw [m.len]; exact (List.getElem?_eq_some_iff.mp h).1
  obtain ⟨p, e, q⟩ := m.all i _ z (List.getElem?_eq_getElem hi) h
  exact ⟨p, by rw [List.getElem?_eq_getElem hi, e], q⟩
theorem Mks.of (m : Mks C H k ps zs) {i : Nat} {v : V} (h : ps[i]? = some v) : ∃ p z, v = .ref p ∧ zs[i]? = some z ∧ QAt C H p k z := by
  have hi : i < zs.length := by rw [← m.len]; exact (List.getElem?_eq_some_iff.mp h).1
  obtain ⟨p, e, q⟩ := m.all i v _ h (List.getElem?_eq_getElem hi)
  exact ⟨p, _, e, List.getElem?_eq_getElem hi, q⟩
/-- None, or a Measure -/
def QO (C : Addr) (H : Hp) (k : Nat) (v : V) : Option Q2 → Prop
  | none => v = .non
  | some z => ∃ p, v = .ref p ∧ QAt C H p k z
theorem QO.same : ∀ {e : Option Q2}, QO C H k v e → Same H H' → QO C H' k v e
  | none, h, _ => h
  | some _, ⟨p, h1, h2⟩, s => ⟨p, h1, h2.same s⟩
theorem QO.kp {hd : Addr} {n : Nat} : ∀ {e : Option Q2}, QO C H k v e → HandAt H hd n → Kp hd H H' → QO C H' k v e
  | none, h, _, _ => h
  | some _, ⟨p, h1, h2⟩, hh, s => ⟨p, h1, h2.kp hh s⟩
/-- the exact numbers of such a Measure -/
theorem QAt.low {p : Addr} {z : Q2} (q : QAt C H p k z) (l : k ≤ 4000) : ∃ a : Q2, MAt C H p a.1 a.2 ∧ Low a ∧ Re a z := by
  obtain ⟨⟨t, u, m, f⟩, h1, h2, h3⟩ := q
  exact ⟨(t, u), m, ⟨f.pos, f.co, (h2.le f.lt).mono l, (h3.le f.lu).mono l⟩, f.pos, h1, f.eq⟩
theorem QO.low (l : k ≤ 4000) : ∀ {e : Option Q2}, QO C H k v e → ∃ m, MsV C H v m ∧ LowO m ∧ ReO m e
  | none, h => ⟨none, h, trivial, trivial⟩
  | some _, ⟨p, h1, h2⟩ => by
    obtain ⟨a, ma, la, ra⟩ := h2.low l
    exact ⟨some a, ⟨p, h1, ma⟩, la, ra⟩
theorem QAt.of {p : Addr} {a z : Q2} (m : MAt C H p a.1 a.2) (l : Low a) (r : Re a z) (s1 : Sz k z.1) (s2 : Sz k z.2) : QAt C H p k z :=
  ⟨⟨a.1, a.2, m, fr_of l.pos l.co r.2.1 r.2.2⟩, r.2.1, s1, s2⟩
end
/-! ### a Ladder -/
def lf (T : V) (r : Str) (l h : V) : List (Str × V) := [("marks", T), ("rule", .str r), ("least", l), ("most", h)]
theorem lf_put (T : V) (r : Str) (l h : V) : putF "most" h (putF "least" l (putF "rule" (.str r) (putF "marks" T []))) = lf T r l h := by
  have e1 : putF ("rule" : Str) (.str r) (putF ("marks" : Str) T []) = ([("marks", T), ("rule", .str r)] : List (Str × V)) := by
    show (if ("marks" : Str) = "rule" then [(("marks" : Str), V.str r)] else (("marks" : Str), T) :: putF "rule" (.str r) []) = _
    rw [if_neg (by decide +kernel)] <;> rfl
  have e2 : putF ("least" : Str) l [("marks", T), ("rule", .str r)] = ([("marks", T), ("rule", .str r), ("least", l)] : List (Str × V)) := by
    show (if ("marks" : Str) = "least" then _ else (("marks" : Str), T) :: (if ("rule" : Str) = "least" then _ else (("rule" : Str), V.str r) :: putF "least" l [])) = _
    rw [if_neg (by decide +kernel), if_neg (by decide +kernel)] <;> rfl
  have e3 : putF ("most" : Str) h [("marks", T), ("rule", .str r), ("least", l)] = lf T r l h := by
    show (if ("marks" : Str) = "most" then _ else (("marks" : Str), T) :: (if ("rule" : Str) = "most" then _ else (("rule" : Str), V.str r) :: (if ("least" : Str) = "most" then _ else (("least" : Str), l) :: putF "most" h []))) = _
    rw [if_neg (by decide +kernel), if_neg (by decide +kernel), if_neg (by decide +kernel)] <;> rfl
  rw [e1, e2, e3]
section
variable (T : V) (r : Str) (l h : V)
theorem lf_marks : (lf T r l h).lookup ("marks" : Str) = some T := by
  rw [← lf_put, lookup_putF, if_neg (by decide +kernel), lookup_putF, if_neg (by decide +kernel), lookup_putF, if_neg (by decide +kernel), lookup_putF, if_pos rfl]
theorem lf_rule : (lf T r l h).lookup ("rule" : Str) = some (.str r) := by
  rw [← lf_put, lookup_putF, if_neg (by decide +kernel), lookup_putF, if_neg (by decide +kernel), lookup_putF, if_pos rfl]
theorem lf_least : (lf T r l h).lookup ("least" : Str) = some l := by
  rw [← lf_put, lookup_putF, if_neg (by decide +kernel), lookup_putF, if_pos rfl]
theorem lf_most : (lf T r l h).lookup ("most" : Str) = some h := by
  rw [← lf_put, lookup_putF, if_pos rfl]
theorem lf_no {m : Str} (h1 : ¬ m = "marks") (h2 : ¬ m = "rule") (h3 : ¬ m = "least") (h4 : ¬ m = "most") : (lf T r l h).lookup m = none := by
  rw [← lf_put, lookup_putF, if_neg h4, lookup_putF, if_neg h3, lookup_putF, if_neg h2, lookup_putF, if_neg h1] <;> rfl
end
/-- rows that rise -/
def RiseQ (zs : List Q2) : Prop := ∀ i a b, zs[i]? = some a → zs[i + 1]? = some b → ltq a b = true
/-- the first row that isn't above the one ahead -/
def SlipQ (zs : List Q2) : Option Nat → Prop
  | none => RiseQ zs
  | some n => 1 ≤ n ∧ n < zs.length ∧ (∀ a b, zs[n - 1]? = some a → zs[n]? = some b → ltq a b = false) ∧ ∀ i a b, i + 1 < n → zs[i]? = some a → zs[i + 1]? = some b → ltq a b = true
def optI : Option Nat → V
  | none => .non
  | some n => .int (n : Int)
def leq (a b : Q2) : Bool := ltq a b || eqq a b
/-- least isn't above most -/
def spanB : Option Q2 → Option Q2 → Bool
  | some a, some b => !ltq b a
  | _, _ => true
def IsRule (r : Str) : Prop := r = "up" ∨ r = "down" ∨ r = "near"
structure LadAt (K : PySem.W.Frag) (CM CL : Addr) (H : Hp) (p : Addr) (k : Nat) (zs : List Q2) (r : Str) (lo hi : Option Q2) : Prop where
  ob : ∃ dx T ps l h, H p = some (.ins CL dx (lf (.ref T) r l h)) ∧ SqT K H T ps ∧ Mks CM H k ps zs ∧ QO CM H k l lo ∧ QO CM H k h hi
  len0 : 0 < zs.length
  len1 : zs.length ≤ 24
  rise : RiseQ zs
  rule : IsRule r
  span : spanB lo hi = true
theorem LadAt.same {K : PySem.W.Frag} {CM CL p : Addr} {H H' : Hp} {k : Nat} {zs : List Q2} {r : Str} {lo hi : Option Q2} (a : LadAt K CM CL H p k zs r lo hi) (s : Same H H') : LadAt K CM CL H' p k zs r lo hi := by
  obtain ⟨⟨dx, T, ps, l, h, h1, h2, h3, h4, h5⟩, a1, a2, a3, a4, a5⟩ := a
  exact ⟨⟨dx, T, ps, l, h, s _ _ h1, s.sqt h2, h3.same s, h4.same s, h5.same s⟩, a1, a2, a3, a4, a5⟩
theorem LadAt.raw {K : PySem.W.Frag} {CM CL p : Addr} {H : Hp} {k : Nat} {zs : List Q2} {r : Str} {lo hi : Option Q2} (a : LadAt K CM CL H p k zs r lo hi) {m : Str} (h1 : ¬ m = "marks") (h2 : ¬ m = "rule") (h3 : ¬ m = "least") (h4 : ¬ m = "most") : ∃ dx fs, H p = some (.ins CL dx fs) ∧ fs.lookup m = none := by
  obtain ⟨⟨dx, T, ps, l, h, e1, _⟩, _⟩ := a
  exact ⟨dx, _, e1, lf_no _ _ _ _ h1 h2 h3 h4⟩
/-- the midsts of neighbours -/
def midq : List Q2 → List Q2
  | a :: b :: r => qhalf a b :: midq (b :: r)
  | _ => []
def sizeR (zs : List Q2) (r : Str) (x : Q2) : Int :=
  if r = "up" then (zs.countP (fun a => ltq a x) : Nat) else if r = "down" then (zs.countP (fun a => leq a x) : Nat) - 1 else ((midq zs).countP (fun a => leq a x) : Nat)
def loOk : Option Q2 → Q2 → Bool
  | none, _ => true
  | some a, x => !ltq x a
def hiOk : Option Q2 → Q2 → Bool
  | none, _ => true
  | some b, x => !ltq b x
def inO (lo hi : Option Q2) (x : Q2) : Bool := loOk lo x && hiOk hi x
def sizeQ (zs : List Q2) (r : Str) (lo hi : Option Q2) (x : Q2) : Option Nat :=
  if inO lo hi x = true then (if 0 ≤ sizeR zs r x ∧ sizeR zs r x < zs.length then some (sizeR zs r x).toNat else none) else none
theorem sizeQ_out {zs : List Q2} {r : Str} {lo hi : Option Q2} {x : Q2} (h : inO lo hi x = false) : none = sizeQ zs r lo hi x := by
  unfold sizeQ
  rw [h]
  rfl
theorem inO_lo {a : Q2} {hi : Option Q2} {x : Q2} (h : ltq x a = true) : inO (some a) hi x = false := by
  show (!ltq x a && hiOk hi x) = false
  rw [h]; rfl
theorem inO_hi {b : Q2} {lo : Option Q2} {x : Q2} (h : ltq b x = true) : inO lo (some b) x = false := by
  show (loOk lo x && !ltq b x) = false
  rw [h]; cases loOk lo x <;> rfl
theorem midq_len : ∀ zs : List Q2, (midq zs).length = zs.length - 1
  | [] => rfl
  | [_] => rfl
  | a :: b :: r => by
    show (midq (b :: r)).length + 1 = _
    rw [midq_len (b :: r)]
    simp
theorem midq_get : ∀ (zs : List Q2) (i : Nat) (a b : Q2), zs[i]? = some a → zs[i + 1]? = some b → (midq zs)[i]? = some (qhalf a b)
  | [], i, a, b, h, _ => by simp at h
  | [x], i, a, b, _, h => by simp at h
  | x :: y :: r, 0, a, b, h1, h2 => by
    cases h1; cases h2; rfl
  | x :: y :: r, i + 1, a, b, h1, h2 => by
    have := midq_get (y :: r) i a b (by simpa using h1) (by simpa using h2)
    simpa [midq] using this
theorem atI_of {xs : List V} {z : Int} {n : Nat} {v : V} (e : z = (n : Int)) (h : xs[n]? = some v) : atI xs z = some v := by
  rw [e]; exact atI_nat h
theorem ge2 {n : Nat} {zs : List Q2} (h : n < zs.length) : ∃ a, zs[n]? = some a := ⟨_, List.getElem?_eq_getElem h⟩
/-- a constant of the module: a tuple of texts -/
def strsOf : List Value → Option (List Str)
  | [] => some []
  | .str x _ :: r => (strsOf r).map (x :: ·)
  | _ => none
theorem strsOf_ok : ∀ {l : List Value} {ss : List Str}, strsOf l = some ss → Vals (ss.map V.str) l
  | [], ss, h => by cases h; exact .nil
  | .str x t :: r, ss, h => by
    cases e : strsOf r with
    | none => simp [strsOf, e] at h
    | some l =>
      simp [strsOf, e] at h
      subst h
      exact .cons ⟨t, rfl⟩ (strsOf_ok e)
def tupB (x : Str) (ss : List Str) : PySem.W.Frag → Bool := fun K => match K.lookup (He.ga K x) with
  | some ⟨.type "tuple", _, .seq its _, _⟩ => decide (its.size ≤ sizeLine) && decide (strsOf its.toList = some ss)
  | _ => false
theorem tup_ok {x : Str} {ss : List Str} {K : PySem.W.Frag} (c : tupB x ss K = true) : ∀ H, SqT K H (He.ga K x) (ss.map V.str) := by
  intro H
  unfold tupB at c
  split at c
  · rename_i d its n sl e
    obtain ⟨c1, c2⟩ := He.ba c
    exact .inr ⟨_, its, n, e, rfl, rfl, of_decide_eq_true c1, strsOf_ok (of_decide_eq_true c2)⟩
  · cases c
theorem tyTup {K : PySem.W.Frag} {H : Hp} {T : Addr} {ps : List V} (h : SqT K H T ps) : TyX K H (.ref T) (.type "tuple") := by
  rcases h with (h | ⟨o, h⟩) | ⟨o, its, n, h, c, _⟩
  · exact .base (.tup h)
  · exact .fTuple h
  · exact .kTuple h c
/-! ### what the defs of ladders promise -/
def sp_slip (K : PySem.W.Frag) (CM : Addr) : Sp := fun vs H Q _ => ∃ (T : Addr) (k : Nat) (ps : List V) (zs : List Q2), vs = [.ref T] ∧ SqT K H T ps ∧ Mks CM H k ps zs ∧ k ≤ 9000 ∧ zs.length ≤ 1000 ∧ ∀ o, SlipQ zs o → Q (optI o) H
def sp_arem (K : PySem.W.Frag) (CM : Addr) : Sp := fun vs H Q _ => ∃ (T : Addr) (k : Nat) (ps : List V) (zs : List Q2), vs = [.ref T] ∧ SqT K H T ps ∧ Mks CM H k ps zs ∧ 0 < zs.length ∧ zs.length ≤ 24 ∧ ∀ H', Same H H' → Q (.bl true) H'
def sp_isrule : Sp := fun vs H Q _ => ∃ r : Str, vs = [.str r] ∧ IsRule r ∧ Q (.bl true) H
def sp_linit (K : PySem.W.Frag) (CM CL : Addr) : Sp := fun vs H Q _ => ∃ (p dx T : Addr) (k : Nat) (ps : List V) (zs : List Q2) (r : Str) (l h : V) (lo hi : Option Q2), vs = [.ref p, .ref T, .str r, l, h] ∧ H p = some (.ins CL dx []) ∧ SqT K H T ps ∧ Mks CM H k ps zs ∧ k ≤ 4000 ∧ 0 < zs.length ∧ zs.length ≤ 24 ∧ RiseQ zs ∧ IsRule r ∧
  QO CM H k l lo ∧ QO CM H k h hi ∧ spanB lo hi = true ∧ ∀ H', H' p = some (.ins CL dx (lf (.ref T) r l h)) → (∀ q o, H q = some o → q ≠ p → H' q = some o) → Q .non H'
def sp_mids (K : PySem.W.Frag) (CM : Addr) : Sp := fun vs H Q _ => ∃ (T : Addr) (k : Nat) (ps : List V) (zs : List Q2), vs = [.ref T] ∧ SqT K H T ps ∧ Mks CM H k ps zs ∧ 0 < k ∧ k ≤ 1000 ∧ 0 < zs.length ∧ zs.length ≤ 24 ∧ ∀ (D : Addr) (ys : List V) (H' : Hp), Same H H' → H' D = some (.lst ys) → Mks CM H' (k + k + 1 + 10 + 1) ys (midq zs) → Q (.ref D) H'
def sp_sizeR (K : PySem.W.Frag) (CM : Addr) : Sp := fun vs H Q _ => ∃ (T q : Addr) (k : Nat) (ps : List V) (zs : List Q2) (r : Str) (x : Q2), vs = [.ref T, .str r, .ref q] ∧ SqT K H T ps ∧ Mks CM H k ps zs ∧ QAt CM H q k x ∧ 0 < k ∧ k ≤ 1000 ∧ 0 < zs.length ∧ zs.length ≤ 24 ∧ ∀ H', Same H H' → Q (.int (sizeR zs r x)) H'
def sp_size (K : PySem.W.Frag) (CM CL : Addr) : Sp := fun vs H Q _ => ∃ (p q : Addr) (k : Nat) (zs : List Q2) (r : Str) (lo hi : Option Q2) (x : Q2), vs = [.ref p, .ref q] ∧ LadAt K CM CL H p k zs r lo hi ∧ QAt CM H q k x ∧ 0 < k ∧ k ≤ 1000 ∧ ∀ H', Same H H' → Q (optI (sizeQ zs r lo hi x)) H'
/-- a Ladder is made -/
theorem lad_made {K : PySem.W.Frag} {CM CL T : Addr} {H : Hp} {Qa : Addr → Hp → Prop} {E : XK} {k : Nat} {ps : List V} {zs : List Q2} {r : Str} {l h : V} {lo hi : Option Q2} (hT : SqT K H T ps) (hm : Mks CM H k ps zs) (hk : k ≤ 4000) (l0 : 0 < zs.length) (l1 : zs.length ≤ 24) (ri : RiseQ zs) (ru : IsRule r)
    (q1 : QO CM H k l lo) (q2 : QO CM H k h hi) (sp : spanB lo hi = true) (f : ∀ (p : Addr) (H' : Hp), H p = none → Same H H' → LadAt K CM CL H' p k zs r lo hi → (∃ dx, H' p = some (.ins CL dx (lf (.ref T) r l h))) → Qa p H') :
    ∀ x dx, H x = none → H dx = none → dx ≠ x → sp_linit K CM CL [.ref x, .ref T, .str r, l, h] (upd (upd H dx (.own x)) x (.ins CL dx [])) (fun v H2 => v = .non ∧ Qa x H2) E := by
  intro x dx nx nd ne
  have s0 : Same H (upd (upd H dx (.own x)) x (.ins CL dx [])) := fun c o e => by
    rw [upd_ne (ne_of_none e nx)]
    exact up1 nd e
  refine ⟨x, dx, T, k, ps, zs, r, l, h, lo, hi, rfl, upd_same, s0.sqt hT, hm.same s0, hk, l0, l1, ri, ru, q1.same s0, q2.same s0, sp, fun H' hx kp => ⟨rfl, ?_⟩⟩
  have s1 : Same H H' := made_same nx nd kp
  exact f x H' nx s1 ⟨⟨dx, T, ps, l, h, hx, s1.sqt hT, hm.same s1, q1.same s1, q2.same s1⟩, l0, l1, ri, ru, sp⟩ ⟨dx, hx⟩
theorem zipF_len {f : Q2 → Bool} : ∀ {ps : List V} {zs : List Q2}, ps.length = zs.length → ((List.zipWith (fun (p : V) (z : Q2) => if f z then some p else none) ps zs).filterMap _root_.id).length = zs.countP f
  | [], [], _ => rfl
  | p :: ps, z :: zs, h => by
    have ih := zipF_len (f := f) (ps := ps) (zs := zs) (by simpa using h)
    rw [List.zipWith_cons_cons, List.countP_cons]
    cases e : f z
    · simpa using ih
    · simpa using ih
  | [], _ :: _, h => by simp at h
  | _ :: _, [], h => by simp at h
theorem zipF_get {f : Q2 → Bool} {ps : List V} {zs : List Q2} {i : Nat} {p : V} {z : Q2} {o : Option V} (h1 : ps[i]? = some p) (h2 : zs[i]? = some z) (h : (List.zipWith (fun (p : V) (z : Q2) => if f z then some p else none) ps zs)[i]? = some o) : o = if f z then some p else none := by
  rw [List.getElem?_zipWith, h1, h2] at h
  exact (Option.some.inj h).symm
theorem iteDT {c A B : Prop} [Decidable c] (hc : c) (h : A) : if decide c = true then A else B := by
  rw [if_pos (decide_eq_true hc)]; exact h
theorem iteDF {c A B : Prop} [Decidable c] (hc : ¬ c) (h : B) : if decide c = true then A else B := by
  rw [if_neg (by simpa using hc)]; exact h
theorem iteNT {c A B : Prop} [Decidable c] (hc : ¬ c) (h : A) : if (!decide c) = true then A else B := by
  rw [if_pos (by simpa using hc)]; exact h
section
variable {C H p k} {m : Str} {R : Prop}
theorem meth_q {x : Q2} (q : QAt C H p k x) (h1 : ¬ m = "top") (h2 : ¬ m = "bottom") (h : R) : ∃ a dx fs, V.ref p = .ref a ∧ H a = some (.ins C dx fs) ∧ fs.lookup m = none ∧ R := by
  obtain ⟨dx, fs, e1, e2⟩ := q.raw h1 h2
  exact ⟨p, dx, fs, rfl, e1, e2, h⟩
theorem meth_l {K : PySem.W.Frag} {CM : Addr} {zs : List Q2} {r : Str} {lo hi : Option Q2} (q : LadAt K CM C H p k zs r lo hi) (h1 : ¬ m = "marks") (h2 : ¬ m = "rule") (h3 : ¬ m = "least") (h4 : ¬ m = "most") (h : R) : ∃ a dx fs, V.ref p = .ref a ∧ H a = some (.ins C dx fs) ∧ fs.lookup m = none ∧ R := by
  obtain ⟨dx, fs, e1, e2⟩ := q.raw h1 h2 h3 h4
  exact ⟨p, dx, fs, rfl, e1, e2, h⟩
theorem meth_s {CM : Addr} {lo hi : Option Q2} {li hj : Bool} (q : StAt CM C H p lo hi li hj) (h1 : ¬ m = "low") (h2 : ¬ m = "high") (h3 : ¬ m = "low_in") (h4 : ¬ m = "high_in") (h : R) : ∃ a dx fs, V.ref p = .ref a ∧ H a = some (.ins C dx fs) ∧ fs.lookup m = none ∧ R := by
  obtain ⟨dx, fs, e1, e2⟩ := q.raw h1 h2 h3 h4
  exact ⟨p, dx, fs, rfl, e1, e2, h⟩
end
end My
namespace My
open PySem PySem.Spec PyProof.Rows L2
/-! ### enumerate of a tuple -/
theorem meets_en1 {v : Value} {o : Obj} {Hh : Heap → Prop} (B : Begins v o Hh) : Meets (Builtin.«enumerate.__new__» ⟨[.type "enumerate", v], []⟩) (fun _ R s => Hh s.heap ∧
      R (.ok (.ret (.ref (s.heap.push o).objs.size))) { s with heap := (s.heap.push o).push { cls := .type "enumerate", data := .fields #[.none, .bool false, .ref s.heap.objs.size, rawInt 0, .none, .none] } }) :=
  .of_wp fun prog w A R s hh => by
    obtain ⟨hp, g, d, tk, os⟩ := s
    obtain ⟨hb, hr⟩ := hh
    have sub := sub_enumerate
    have qi : ∀ {A' : Around} {E : Value → Shared → Prop} {Q : Value → Shared → Prop}, Q (.ref hp.objs.size) ⟨hp.push o, g, d, tk, os⟩ → wpAny (model prog w) A' (pyIter v) Q E ⟨hp, g, d, tk, os⟩ := fun q => B.iter prog w _ _ ⟨hp, g, d, tk, os⟩ _ hb q
    wp_walk using qi
    refine wpAny_stack_any fun st => wpAny_pure ?_
    split
    · rename_i c _ _ _ _ _
      cases (c == Value.type "enumerate")
      · wp_walk using qi
        exact ⟨_, rfl, hr⟩
      · wp_walk using qi
        exact ⟨_, rfl, hr⟩
    · wp_walk using qi
      exact ⟨_, rfl, hr⟩
theorem call_en1 {prog : Program} {w : World} {A : Around} {E : Value → Shared → Prop} {s : Shared} {v : Value} {o : Obj} {Hh : Heap → Prop} {Q : Value → Shared → Prop} (B : Begins v o Hh) (hb : Hh s.heap)
    (f : ∀ h', IsEnum h' (s.heap.objs.size + 1) s.heap.objs.size 0 .none → h'.get? s.heap.objs.size = some o → (∀ b u, s.heap.get? b = some u → h'.get? b = some u) → Q (.ref (s.heap.objs.size + 1)) { s with heap := h' }) :
    wpAny (model prog w) A (call (.type "enumerate") [v]) Q E s := by
  refine callType_new PySem.F.called_enumerate (by decide) (PySem.F.typeCall_enumerate_1 _) (PySem.F.newCall_enumerate_1 _) (fun ob => PySem.F.args_object_init_2 ob _) PySem.F.entry_enumerate_new (meets_en1 B) ⟨hb, ?_⟩
  have hz : (s.heap.push o).objs.size = s.heap.objs.size + 1 := Heap.size_push ..
  have en := Heap.get?_push_size (s.heap.push o) (o := { cls := .type "enumerate", data := .fields #[.none, .bool false, .ref s.heap.objs.size, rawInt 0, .none, .none] }) rfl
  show _ ∧ _
  rw [hz] at en ⊢
  exact ⟨⟨_, en, rfl⟩, f _ en (Heap.get?_push_of_some _ (Heap.get?_push_size _ B.free)) fun b u x => Heap.get?_push_of_some _ (Heap.get?_push_of_some _ x)⟩
/-- the tuple at a, its items in new pairs -/
def ItT (K : PySem.W.Frag) (a : Addr) : It :=
  ⟨fun i H => ∃ (xs : List V) (x : V), SqT K H a xs ∧ xs[i]? = some x, fun i H v H' => ∃ T x, v = .ref T ∧ H T = none ∧ H' = upd H T (.tup [.int (i : Nat), x]) ∧ ∀ xs, SqT K H a xs → xs[i]? = some x, fun i H => ∃ xs : List V, SqT K H a xs ∧ xs.length = i⟩
theorem ti_ne {h : Heap} {it a : Addr} {i : Nat} {its : Array Value} (x : h.IsTupleIter it a i) (y : h.IsTuple a its) : a ≠ it := by
  intro e
  subst e
  obtain ⟨o, e1, c1, _⟩ := x
  obtain ⟨o', e2, c2, _⟩ := y
  rw [e1] at e2
  cases e2
  rw [c1] at c2
  injection c2 with e
  exact absurd e (by decide)
theorem turn_enumT {P : Program} {w : World} {K : PySem.W.Frag} {elts : List Expr} {kk : Nat} {tpos : Pos} (a e it : Addr) :
    Turn P w K (.Tuple elts kk tpos) (ItT K a) [e, it] e (fun i h => (∃ old, IsEnum h e it ((i : Nat) : Int) old) ∧ h.IsTupleIter it a i ∧ e ≠ it ∧ e ≠ a) where
  mem := by simp
  obj := fun i h st b hb => by
    obtain ⟨⟨old, he⟩, ⟨o, ho, hc, hd⟩, _⟩ := st
    rcases (show b = e ∨ b = it by simpa using hb) with z | z
    · rw [z]; exact ⟨_, he, fun v q => nomatch q⟩
    · rw [z]; exact ⟨o, ho, fun v q => by rw [hd] at q; cases q⟩
  keep := fun i h h' st k => let ⟨⟨old, he⟩, hi, hne⟩ := st; ⟨⟨old, k e (by simp) _ he⟩, hi.at fun o q => k it (by simp) o q, hne⟩
  item := by
    intro X hP hw hK hc i pins s σ H E I hf st hg
    subst hP hw hK
    obtain ⟨⟨old, he⟩, hit, hne, hna⟩ := st
    obtain ⟨xs, x, hq, hx⟩ := hg
    obtain ⟨its, rv, p, hz⟩ := I.tuple hq
    have pT : s.heap.IsTuple a its.toArray := p
    obtain ⟨u, hu, ru⟩ := rv.get hx
    have hel : e < s.heap.objs.size := Heap.lt_size he
    have hil : it < s.heap.objs.size := by obtain ⟨_, q, _⟩ := hit; exact Heap.lt_size q
    have hi2 : i < its.toArray.size := by
      have := (List.getElem?_eq_some_iff.mp hu).1
      simpa using this
    have DD := Draws.tuple (prog := X.prog) (w := X.w) (A := X.A.in1) (I.ok.hd hc) it a (ti_ne hit pT) its.toArray
    refine wpAny_pyNext_enum_itemC DD he ⟨hit, pT⟩ hi2 hne (by simp [hne, hna]) fun y h' tk hy ho hst hT hsz hk => ?_
    have ey : y = u := by
      have : its[i]? = some y := by simpa using hy
      rw [hu] at this
      exact (Option.some.inj this).symm
    subst ey
    refine ⟨_, rfl, wpAny_letOwnedTupleGo_enum (s := { s with heap := h', toks := tk + 1 }) ho fun h'' he' sb => ?_⟩
    have hT2 : h''.get? s.heap.objs.size = some { cls := .type "tuple", data := .seq #[.int i tk, y] } := (sb.2 _ (Nat.ne_of_gt hel)).trans hT
    have new : ObjOk X.prog X.w (upd H s.heap.objs.size (.tup [.int (i : Nat), x])) h'' s.heap.objs.size (.tup [.int (i : Nat), x]) :=
      ⟨by show 2 ≤ sizeLine; decide, [.int i tk, y], .cons ⟨_, rfl⟩ (.cons ru .nil), ⟨_, hT2, rfl, _, rfl⟩⟩
    have I1 : Inv X pins σ (upd H s.heap.objs.size (.tup [.int (i : Nat), x])) { s with heap := h'', toks := tk + 1 } :=
      I.turnedNew (ch := [e, it]) (fun b ob hb q => (sb.2 b (fun z => hb (by simp [z]))).trans (hk b ob (fun z => hb (by simp [z])) (fun z => hb (by simp [z])) q)) hf (Nat.le_refl _) new
    refine ⟨.ref s.heap.objs.size, _, I1, rfl, ⟨_, x, rfl, I.hok.fresh (Nat.le_refl _), rfl, fun ys hy => by rw [I.tuple_inj hy hq]; exact hx⟩, ⟨⟨y, ?_⟩, hst.1.at fun o q => (sb.2 it (Ne.symm hne)).trans q, hne, hna⟩, fun b hb => ?_⟩
    · have e1 : ((i + 1 : Nat) : Int) = (i : Int) + 1 := by omega
      rw [e1]; exact he'
    · have hb' : b < s.heap.objs.size := by
        rcases (show b = e ∨ b = it by simpa using hb) with z | z
        · rw [z]; exact hel
        · rw [z]; exact hil
      rw [upd_ne (Nat.ne_of_lt hb')]
      exact (hf b hb).1
  done := by
    intro X hP hw hK hc i pins s σ H E I hf st hg
    subst hP hw hK
    obtain ⟨⟨old, he⟩, hit, hne, hna⟩ := st
    obtain ⟨xs, hq, hx⟩ := hg
    obtain ⟨its, rv, p, hz⟩ := I.tuple hq
    have pT : s.heap.IsTuple a its.toArray := p
    obtain ⟨f0, f1, f2, f3, f4, f5⟩ := hf it (by simp)
    have hl := rv.length
    have hi : i = its.toArray.size := by rw [List.size_toArray]; omega
    have DD := Draws.tuple (prog := X.prog) (w := X.w) (A := X.A.in1) (I.ok.hd hc) it a (ti_ne hit pT) its.toArray
    exact wpAny_pyNext_enum_endD DD he ⟨by rw [← hi]; exact hit, pT⟩ fun h' eb => ⟨rfl, I.turned (t' := s.toks) (fun b o hb q => eb b o hb q) f0 f1 f3 f4 f5⟩
  self := fun A i s Q E st h => let ⟨⟨_, he⟩, _⟩ := st; wpAny_pyIter_enum he h
def iEnumT (K : PySem.W.Frag) (ta : TA) : TI := fun σ H R => ta σ H fun vs H1 => ∃ a xs, vs = [.ref a] ∧ SqT K H1 a xs ∧ R (ItT K a) H1
theorem pi_enumT {X : Cx} {e : Expr} {ta : TA} {p pos tpos : Pos} {elts : List Expr} {kk : Nat} (hg : Gl X "enumerate") (hm : X.mg "enumerate" = none) (ha : PA X [e] ta) (hs : starEach [e] X.env = [(false, eval e X.env)] := by rfl) :
    PI X (.Tuple elts kk tpos) (.Call (.Name "enumerate" p) [e] [] pos) (iEnumT X.K ta) := by
  refine ⟨fun pins s σ H R I h => ?_⟩
  refine Call_ (ld_blt I hg hm boot_enumerate (PyProof.Rows.callWith_type1 (thn (ha.run pos pins s σ H _ I h) fun us s1 ⟨vs, H1, I1, r1, q1⟩ => ?_) hs rfl))
  obtain ⟨a, xs, ex, hq, q⟩ := q1
  subst ex
  cases r1 with
  | cons r rr =>
    cases rr
    cases r
    obtain ⟨its, rv, p', hz⟩ := I1.tuple hq
    have pT : s1.heap.IsTuple a its.toArray := p'
    have la : a < s1.heap.objs.size := by obtain ⟨_, q, _⟩ := pT; exact Heap.lt_size q
    refine call_en1 (begins_tuple a its.toArray) pT fun h' he hit hk => wpAny_pyIter_enum he ?_
    have I2 : Inv X pins σ H1 { s1 with heap := h' } := I1.kept (t' := s1.toks) hk
    refine ⟨s1.heap.objs.size + 1, [s1.heap.objs.size + 1, s1.heap.objs.size], _, _, H1, rfl, I2, turn_enumT a (s1.heap.objs.size + 1) s1.heap.objs.size, ⟨⟨.none, he⟩, ⟨_, hit, rfl, rfl⟩, Nat.succ_ne_self _, Nat.ne_of_gt (Nat.lt_succ_of_lt la)⟩, fun b hb => ?_, q⟩
    have hle : s1.heap.objs.size ≤ b := by
      rcases (show b = s1.heap.objs.size + 1 ∨ b = s1.heap.objs.size by simpa using hb) with z | z
      · rw [z]; exact Nat.le_add_right _ _
      · rw [z]; exact Nat.le_refl _
    exact I1.fpOk hle (I1.hok.fresh hle)
theorem walk_enumT {K : PySem.W.Frag} {a : Addr} {xs : List V} : Walk (ItT K a) xs.length (fun H => SqT K H a xs) (YPair (fun i => some (.int (i : Nat))) (fun i => xs[i]?)) := by
  refine ⟨fun i _ hi q => ⟨xs, xs[i], q, by simp [hi]⟩, fun _ q => ⟨xs, q, rfl⟩, fun i H v H' _ q y => ?_⟩
  obtain ⟨T, x, h1, h2, h3, h4⟩ := y
  exact ⟨T, .int (i : Nat), x, h1, h2, h3, rfl, h4 xs q⟩
section
variable {X : Cx}
/-! ### len of an own object -/
theorem call_lenO {CX : CXT} {n : Nat} {C f : Addr} {fd : FuncData} {ps : List Str} {sp : Sp} {E : XK} (F : FnOk X.prog X.w X.K X.mg X.base CX n f fd ps sp) (hm : Meth X.K C "__len__" f) (hb : Binds X.K fd ps []) (hx : Passes CX X E) (hr : Room (n + 1) X.A) :
    CallR X (.builtin "len") (fun xs H Q => ∃ x a dx fs, xs = [x] ∧ x = .ref a ∧ H a = some (.ins C dx fs) ∧ sp [.ref a] H (fun v H' => ∃ k : Nat, v = .int (k : Int) ∧ k < 1000 ∧ Q (.int (k : Int)) H') E) := by
  intro pins s σ H xs us Q I r h
  obtain ⟨x, a, dx, fs, rfl, rfl, ha, h⟩ := h
  obtain ⟨u, rfl, r1⟩ := vals1 r
  cases (show u = Value.ref a from r1)
  obtain ⟨mA, J, _⟩ := ins_get I.hok ha
  obtain ⟨od, J, _⟩ := J.look
  obtain ⟨m, hF⟩ := I.fr
  have sb : Sub X (n + 1) X.A := ⟨hr, rfl⟩
  refine PySem.W.len_K hF I.ok.mod.kin J hm.at_ hm.fn ?_
  refine thn (fn_at F hb hx sb.in1 I (vs := [.ref a]) (.cons rfl .nil) h) fun u s' q => ?_
  obtain ⟨v, H', I', rv, k, rfl, hk, q⟩ := q
  obtain ⟨t, rfl⟩ := rv
  exact ⟨⟨by omega, by omega⟩, .int (k : Int), H', I'.tok _, ⟨_, rfl⟩, q⟩
end
/-! ### max and min with a default -/
section
variable {X : Cx} {K : PySem.W.Frag}
/-! ### xs[::k] -/
def rTupL (K : PySem.W.Frag) : List V → Hp → VK → Prop := fun xs H Q => ∃ (p : Addr) (ys : List V), xs = [.ref p] ∧ SqL K H p ys ∧ ∀ l, H l = none → Q (.ref l) (upd H l (.tup ys))
theorem tupleL (hK : X.K = K := by rfl) : CallR X (.type "tuple") (rTupL K) := by
  subst hK
  intro pins s σ H xs us Q I r h
  obtain ⟨p, ys, e, h1, h2⟩ := h
  exact call_tuple_of pins s σ H xs us Q I r ⟨p, ys, e, .inl ⟨h1, h2⟩⟩
end
theorem logS {m : Int} (h : m.natAbs < 2 ^ 60) : m.natAbs.log2 < 9000 := Nat.lt_of_lt_of_le (PySem.Flt.log2_lt_of (by decide) h) (by decide)
theorem szl {n : Nat} (h : n ≤ 1000) : n ≤ sizeLine := Nat.le_trans h (by decide)
theorem szb {n : Nat} (h : Nat.ble n 1000 = true) : n ≤ sizeLine := szl (Nat.le_of_ble_eq_true h)
theorem szs {n : Nat} (h : n < 1000) : n < sizeLine := Nat.lt_of_lt_of_le h (by decide)
theorem atI_end {xs : List V} {n : Nat} {v : V} (hn : n + 1 = xs.length) (h : xs[n]? = some v) : atI xs (-1) = some v := by
  have e : ixN xs.length (-1) = some n := by
    unfold ixN
    rw [if_neg (by decide), if_pos (by omega)]
    exact congrArg some (by omega)
  unfold atI
  rw [e]
  exact h
theorem qmk_pos {a b : Int} (h : 0 < b) : qmk a b = (a, b) := by
  have e : sgn b = 1 := by unfold sgn; rw [if_pos h]
  unfold qmk
  rw [e, Int.mul_one, Int.mul_one]
/-- a Measure is made -/
theorem q_made {C : Addr} {H : Hp} {Qa : Addr → Hp → Prop} {E : XK} {k : Nat} {a b : Int} (hb : 0 < b) (sa : Sz k a) (sb : Sz k b) (k0 : 0 < k) (k1 : k ≤ 8900) (f : ∀ (p : Addr) (H' : Hp), Same H H' → QAt C H' p k (a, b) → Qa p H') :
    ∀ x dx, H x = none → H dx = none → dx ≠ x → sp_minit C [.ref x, .int a, .int b] (upd (upd H dx (.own x)) x (.ins C dx [])) (fun v H2 => v = .non ∧ Qa x H2) E := by
  intro x dx nx nd ne
  refine ⟨x, dx, a, b, rfl, upd_same, by omega, Sz.log sb k0 (by omega), fun t u H' fr hx kp => ⟨rfl, ?_⟩⟩
  have q := q_mk (k := k) ⟨dx, hx⟩ fr (by omega) sa sb
  rw [qmk_pos hb] at q
  exact f x H' (made_same nx nd kp) q
/-! ### draws -/
end My
namespace My
open PySem PySem.Spec PyProof.Rows L2
theorem HandAt.put {H : Hp} {h l : Addr} {u : HO} {n : Nat} (a : HandAt H h n) (ne : l ≠ h) : HandAt (upd H l u) h n := by
  obtain ⟨x, y, z, h1, h2⟩ := a
  exact ⟨x, y, z, by rw [upd_ne ne.symm]; exact h1, h2⟩
theorem Kp.fresh {h l : Addr} {H H1 : Hp} (k : Kp h H H1) (hn : H1 l = none) (ne : l ≠ h) : H l = none := by
  cases e : H l with
  | none => rfl
  | some o => rw [k l o e ne] at hn; cases hn
theorem Kp.putN {h l : Addr} {H H1 : Hp} {u : HO} (k : Kp h H H1) (hn : H l = none) : Kp h H (upd H1 l u) := fun c o e n => by
  rw [upd_ne (ne_of_none e hn)]; exact k c o e n
theorem geI {n : Nat} {zs : List Int} (h : n < zs.length) : ∃ a, zs[n]? = some a := ⟨_, List.getElem?_eq_getElem h⟩
theorem mapI {ms : List Int} {n : Nat} {a : Int} (h : ms[n]? = some a) : (ms.map V.int)[n]? = some (.int a) := by rw [List.getElem?_map, h]; rfl
def optZ : Option Int → V
  | none => .non
  | some z => .int z
/-- a ladder in whole parts, as the laws draw it -/
structure LawL (H : Hp) (p : Addr) (part : Int) (ms : List Int) (r : Str) (lo hi : Option Int) : Prop where
  ob : ∃ T, H p = some (.tup [.int part, .ref T, .str r, optZ lo, optZ hi]) ∧ H T = some (.tup (ms.map V.int))
  p0 : 0 < part
  p1 : part ≤ 10007
  len0 : 0 < ms.length
  len1 : ms.length ≤ 24
  rise : ∀ (i : Nat) (a b : Int), ms[i]? = some a → ms[i + 1]? = some b → a < b
  four : ∀ m ∈ ms, m % 4 = 0
  bnd : ∀ m ∈ ms, -4000000 ≤ m ∧ m ≤ 4000000
  blo : ∀ z, lo = some z → -4000040 ≤ z ∧ z ≤ 4000040
  bhi : ∀ z, hi = some z → -4000040 ≤ z ∧ z ≤ 4000040
  rule : IsRule r
  span : ∀ a b, lo = some a → hi = some b → a ≤ b
section
variable {H H' : Hp} {p : Addr} {part : Int} {ms : List Int} {r : Str} {lo hi : Option Int}
theorem LawL.same (a : LawL H p part ms r lo hi) (s : Same H H') : LawL H' p part ms r lo hi := by
  obtain ⟨⟨T, h1, h2⟩, a1⟩ := a
  exact ⟨⟨T, s _ _ h1, s _ _ h2⟩, by assumption, by assumption, by assumption, by assumption, by assumption, by assumption, by assumption, by assumption, by assumption, by assumption, by assumption⟩
/-- the parts as fractions -/
def zq (d : Int) (ms : List Int) : List Q2 := ms.map fun m => (m, d)
def oq (d : Int) (o : Option Int) : Option Q2 := o.map fun m => (m, d)
theorem zq_get {d : Int} {ms : List Int} {i : Nat} {z : Q2} (h : (zq d ms)[i]? = some z) : ∃ m, ms[i]? = some m ∧ z = (m, d) := by
  unfold zq at h
  rw [List.getElem?_map] at h
  cases e : ms[i]? with
  | none => rw [e] at h; cases h
  | some m => rw [e] at h; exact ⟨m, rfl, (Option.some.inj h).symm⟩
theorem ltq_d {d a b : Int} (h : 0 < d) : ltq (a, d) (b, d) = decide (a < b) := by
  unfold ltq
  refine decide_eq_decide.mpr ⟨fun z => Int.lt_of_mul_lt_mul_right z (Int.le_of_lt h), fun z => Int.mul_lt_mul_of_pos_right z h⟩
theorem LawL.riseQ (a : LawL H p part ms r lo hi) : RiseQ (zq (4 * part) ms) := by
  intro i x y hx hy
  obtain ⟨m, hm, rfl⟩ := zq_get hx
  obtain ⟨m', hm', rfl⟩ := zq_get hy
  have := a.p0
  rw [ltq_d (by omega)]
  exact decide_eq_true (a.rise i m m' hm hm')
theorem LawL.spanQ (a : LawL H p part ms r lo hi) : spanB (oq (4 * part) lo) (oq (4 * part) hi) = true := by
  cases lo with
  | none => cases hi <;> rfl
  | some x =>
    cases hi with
    | none => rfl
    | some y =>
      have := a.p0
      have h := a.span x y rfl rfl
      show (!ltq (y, 4 * part) (x, 4 * part)) = true
      rw [ltq_d (by omega), decide_eq_false (by omega)]
      rfl
end
/-- whole numbers within a bound -/
def IntsB (B : Int) (xs : List V) : Prop := ∀ x ∈ xs, ∃ z : Int, x = .int z ∧ -B ≤ z ∧ z ≤ B
theorem IntsB.mono {B B' : Int} {xs : List V} (a : IntsB B xs) (l : B ≤ B') : IntsB B' xs := fun x h => by
  obtain ⟨z, e, h1, h2⟩ := a x h
  exact ⟨z, e, by omega, by omega⟩
theorem IntsB.ints {B : Int} : ∀ {xs : List V}, IntsB B xs → ∃ ys : List Int, xs = ys.map V.int ∧ ∀ y ∈ ys, -B ≤ y ∧ y ≤ B
  | [], _ => ⟨[], rfl, fun y h => by simp at h⟩
  | x :: xs, a => by
    obtain ⟨z, rfl, h1⟩ := a x (by simp)
    obtain ⟨ys, e, h2⟩ := IntsB.ints (xs := xs) fun w hw => a w (by simp [hw])
    refine ⟨z :: ys, by rw [e]; rfl, fun y hy => ?_⟩
    rcases List.mem_cons.mp hy with e | e
    · rw [e]; exact h1
    · exact h2 y e
theorem IntsB.of {B : Int} {ms : List Int} (h : ∀ m ∈ ms, -B ≤ m ∧ m ≤ B) : IntsB B (ms.map V.int) := fun x hx => by
  obtain ⟨m, hm, rfl⟩ := List.mem_map.mp hx
  exact ⟨m, rfl, h m hm⟩
/-! ### sizes by whole numbers -/
abbrev RiseI (ms : List Int) : Prop := ∀ (i : Nat) (a b : Int), ms[i]? = some a → ms[i + 1]? = some b → a < b
theorem RiseI.tail {x : Int} {ms : List Int} (h : RiseI (x :: ms)) : RiseI ms := fun i a b h1 h2 => h (i + 1) a b (by simpa using h1) (by simpa using h2)
theorem RiseI.head : ∀ {ms : List Int} {x : Int}, RiseI (x :: ms) → ∀ m ∈ ms, x < m
  | [], _, _, m, hm => by simp at hm
  | y :: ms, x, h, m, hm => by
    have h0 : x < y := h 0 x y rfl rfl
    rcases List.mem_cons.mp hm with e | e
    · rw [e]; exact h0
    · have := RiseI.head h.tail m e
      omega
theorem RiseI.lt {ms : List Int} (h : RiseI ms) : ∀ {j : Nat} {i : Nat} {a b : Int}, i < j → ms[i]? = some a → ms[j]? = some b → a < b
  | 0, _, _, _, hi, _, _ => by omega
  | j + 1, i, a, b, hi, ha, hb => by
    obtain ⟨c, hc⟩ := geI (zs := ms) (n := j) (by have := (List.getElem?_eq_some_iff.mp hb).1; omega)
    have h1 := h j c b hc hb
    by_cases e : i = j
    · subst e
      rw [ha] at hc
      cases hc
      exact h1
    · have := RiseI.lt h (show i < j by omega) ha hc
      omega
section
variable {ms : List Int} {d z : Int} {lo hi : Option Q2}
end
theorem rep_fm (n : Nat) : (List.replicate n (some (V.bl true))).filterMap _root_.id = (List.replicate n true).map V.bl := by
  induction n with
  | zero => rfl
  | succ n ih => rw [List.replicate_succ, List.replicate_succ]; simpa using ih
theorem rep_all (n : Nat) : (List.replicate n true).all _root_.id = true := by
  induction n with
  | zero => rfl
  | succ n ih => rw [List.replicate_succ]; simpa using ih
/-- the numbers from 0 on of which c holds -/
def idx (n : Nat) (c : Nat → Bool) : List Int := ((List.range n).filter c).map fun k : Nat => (k : Int)
theorem idx_mem {n : Nat} {c : Nat → Bool} {m : Int} : m ∈ idx n c ↔ ∃ k : Nat, k < n ∧ c k = true ∧ m = k := by
  unfold idx
  simp only [List.mem_map, List.mem_filter, List.mem_range]
  exact ⟨fun ⟨k, ⟨h1, h2⟩, h3⟩ => ⟨k, h1, h2, h3.symm⟩, fun ⟨k, h1, h2, h3⟩ => ⟨k, ⟨h1, h2⟩, h3.symm⟩⟩
def oIdx (n : Nat) (c : Nat → Bool) : List (Option V) := (List.range n).map fun k => if c k then some (.int (k : Int)) else none
theorem oIdx_len (n : Nat) (c : Nat → Bool) : (oIdx n c).length = n := by unfold oIdx; simp
theorem oIdx_get {n i : Nat} {c : Nat → Bool} {z : Option V} (h : (oIdx n c)[i]? = some z) : z = if c i then some (.int (i : Int)) else none := by
  unfold oIdx at h
  rw [List.getElem?_map] at h
  by_cases hi : i < n
  · rw [List.getElem?_range hi] at h
    exact (Option.some.inj h).symm
  · rw [List.getElem?_eq_none (by simpa using hi)] at h
    cases h
theorem oIdx_fm (n : Nat) (c : Nat → Bool) : (oIdx n c).filterMap _root_.id = (idx n c).map V.int := by
  unfold oIdx idx
  rw [List.filterMap_map, List.map_map]
  generalize List.range n = l
  induction l with
  | nil => rfl
  | cons x l ih =>
    rw [List.filterMap_cons, List.filter_cons]
    cases e : c x
    · simpa [e] using ih
    · simpa [e] using ih
/-! ### what the laws' own defs promise -/
end My
namespace My
open PySem PySem.Spec PyProof.Rows L2
/-! ### the stretches of a ladder's sizes -/
section
variable {X : Cx} {K : PySem.W.Frag}
/-- an item of a list or a tuple -/
def rIxLT (K : PySem.W.Frag) : R2 := fun x y H Q => ∃ (p : Addr) (xs : List V) (i : Int) (v : V), x = .ref p ∧ y = .int i ∧ (SqL K H p xs ∨ SqT K H p xs) ∧ atI xs i = some v ∧ Q v H
theorem ixs (hK : X.K = K := by rfl) : IxR X (rIxLT K) := by
  subst hK
  intro value slice pins s σ H x y v u Q I rx ry h hs
  obtain ⟨p, xs, i, w, e1, e2, hq | hq, h3, h4⟩ := h
  · exact ix_list value slice pins s σ H x y v u Q I rx ry ⟨p, xs, i, w, e1, e2, hq, h3, h4⟩ hs
  · exact ix_tup value slice pins s σ H x y v u Q I rx ry ⟨p, xs, i, w, e1, e2, hq, h3, h4⟩ hs
end
def endQ (zs : List Q2) (i : Int) : Option Q2 := if 0 ≤ i ∧ i < zs.length then zs[i.toNat]? else none
/-- both ends of a size by the rule alone, and whether they are in -/
def rulE (zs : List Q2) (r : Str) (n : Nat) : (Option Q2 × Bool) × (Option Q2 × Bool) :=
  if r = "up" then ((endQ zs ((n : Int) - 1), false), (zs[n]?, true)) else if r = "down" then ((zs[n]?, true), (endQ zs ((n : Int) + 1), false)) else ((endQ (midq zs) ((n : Int) - 1), true), (endQ (midq zs) n, false))
/-- a Stretch whose ends are these fractions -/
def StQ (CM CS : Addr) (H : Hp) (p : Addr) (x y : Option Q2 × Bool) : Prop := ∃ lo hi, StAt CM CS H p lo hi (x.2 && x.1.isSome) (y.2 && y.1.isSome) ∧ ReO lo x.1 ∧ ReO hi y.1
theorem StQ.same {CM CS p : Addr} {H H' : Hp} {x y : Option Q2 × Bool} (a : StQ CM CS H p x y) (s : Same H H') : StQ CM CS H' p x y := by
  obtain ⟨lo, hi, h1, h2, h3⟩ := a
  exact ⟨lo, hi, h1.same s, h2, h3⟩
def CutQ (CM CS : Addr) (H : Hp) (v : V) (x y : Option Q2 × Bool) : Prop := ∃ x' y', CutV CM CS H v x' y' ∧ Alike x' x ∧ Alike y' y
theorem CutQ.same {CM CS : Addr} {H H' : Hp} {v : V} {x y : Option Q2 × Bool} (a : CutQ CM CS H v x y) (s : Same H H') : CutQ CM CS H' v x y := by
  obtain ⟨x', y', h1, h2, h3⟩ := a
  exact ⟨x', y', h1.same s, h2, h3⟩
/-- both ends of a size's stretch -/
def sizE (zs : List Q2) (r : Str) (lo hi : Option Q2) (n : Nat) : (Option Q2 × Bool) × (Option Q2 × Bool) :=
  (cutLo (rulE zs r n).1.1 (rulE zs r n).1.2 lo true, cutHi (rulE zs r n).2.1 (rulE zs r n).2.2 hi true)
def sp_endat (K : PySem.W.Frag) (CM : Addr) : Sp := fun vs H Q _ => ∃ (T : Addr) (k : Nat) (ps : List V) (zs : List Q2) (i : Int), vs = [.ref T, .int i] ∧ (SqL K H T ps ∨ SqT K H T ps) ∧ Mks CM H k ps zs ∧ ∀ v, QO CM H k v (endQ zs i) → Q v H
def sp_strR (K : PySem.W.Frag) (CM CS : Addr) : Sp := fun vs H Q _ => ∃ (T : Addr) (k : Nat) (ps : List V) (zs : List Q2) (r : Str) (n : Nat), vs = [.ref T, .str r, .int n] ∧ SqT K H T ps ∧ Mks CM H k ps zs ∧ 0 < k ∧ k ≤ 1000 ∧ zs.length ≤ 24 ∧ n < zs.length ∧ RiseQ zs ∧
  ∀ (p : Addr) (H' : Hp), Same H H' → StQ CM CS H' p (rulE zs r n).1 (rulE zs r n).2 → Q (.ref p) H'
def sp_hassz (K : PySem.W.Frag) (CM CL : Addr) : Sp := fun vs H Q _ => ∃ (p : Addr) (k : Nat) (zs : List Q2) (r : Str) (lo hi : Option Q2) (n : Nat), vs = [.ref p, .int n] ∧ LadAt K CM CL H p k zs r lo hi ∧ n < zs.length ∧ Q (.bl true) H
def sp_llen (K : PySem.W.Frag) (CM CL : Addr) : Sp := fun vs H Q _ => ∃ (p : Addr) (k : Nat) (zs : List Q2) (r : Str) (lo hi : Option Q2), vs = [.ref p] ∧ LadAt K CM CL H p k zs r lo hi ∧ Q (.int (zs.length : Nat)) H
def sp_stretch (K : PySem.W.Frag) (CM CL CS : Addr) : Sp := fun vs H Q _ => ∃ (p : Addr) (k : Nat) (zs : List Q2) (r : Str) (lo hi : Option Q2) (n : Nat), vs = [.ref p, .int n] ∧ LadAt K CM CL H p k zs r lo hi ∧ 0 < k ∧ k ≤ 1000 ∧ n < zs.length ∧
  ∀ (v : V) (H' : Hp), Same H H' → CutQ CM CS H' v (sizE zs r lo hi n).1 (sizE zs r lo hi n).2 → Q v H'
/-! between neighbours there is something -/
theorem some_lt {a b : Q2} {i j : Bool} (h : ltq a b = true) : someB (some a) (some b) i j = true := by
  unfold someB
  first
    | (rw [h]; rfl)
    | (simp [h])
theorem mids_lt {a b c : Q2} (ha : 0 < a.2) (hb : 0 < b.2) (hc : 0 < c.2) (h1 : ltq a b = true) (h2 : ltq b c = true) : ltq (qhalf a b) (qhalf b c) = true := by
  have e1 := (half_lo ha hb).2.1
  have e2 := (half_lo hb hc).1
  rw [h1] at e1
  rw [h2] at e2
  have p1 : 0 < (qhalf a b).2 := by rw [qhalf_eq]; exact Int.mul_pos (Int.mul_pos ha hb) (by decide)
  have p2 : 0 < (qhalf b c).2 := by rw [qhalf_eq]; exact Int.mul_pos (Int.mul_pos hb hc) (by decide)
  exact ltq_trans hb p1 p2 e1 e2
theorem stq_made {CM CS : Addr} {H : Hp} {Qa : Addr → Hp → Prop} {E : XK} {k j : Nat} {l h : V} {a b : Option Q2} {ia ib : Bool} (ql : QO CM H k l a) (qh : QO CM H j h b) (hk : k ≤ 4000) (hj : j ≤ 4000) (so : someB a b ia ib = true)
    (f : ∀ (p : Addr) (H' : Hp), Same H H' → StQ CM CS H' p (a, ia) (b, ib) → Qa p H') :
    ∀ x dx, H x = none → H dx = none → dx ≠ x → sp_sinit CM CS [.ref x, l, h, .bl ia, .bl ib] (upd (upd H dx (.own x)) x (.ins CS dx [])) (fun v H2 => v = .non ∧ Qa x H2) E := by
  intro x dx nx nd ne
  obtain ⟨lo, m1, l1, r1⟩ := ql.low hk
  obtain ⟨hi, m2, l2, r2⟩ := qh.low hj
  have s0 : Same H (upd (upd H dx (.own x)) x (.ins CS dx [])) := fun c o e => by
    rw [upd_ne (ne_of_none e nx)]
    exact up1 nd e
  refine ⟨x, dx, l, h, lo, hi, ia, ib, rfl, upd_same, m1.same s0, m2.same s0, l1, l2, by rw [someB_congr r1 r2]; exact so, fun H' hx kp => ⟨rfl, ?_⟩⟩
  have s1 : Same H H' := made_same nx nd kp
  refine f x H' s1 ⟨lo, hi, ?_, r1, r2⟩
  have z := StAt.mk' (CM := CM) hx s1 m1 m2 l1 l2
  rw [r1.isS, r2.isS] at z
  exact z
theorem some_tt {lo hi : Option Q2} (h : spanB lo hi = true) : someB lo hi true true = true := by
  cases lo with
  | none => cases hi <;> rfl
  | some a =>
    cases hi with
    | none => rfl
    | some b =>
      have h' : ltq b a = false := by simpa [spanB] using h
      have t := lt_tri a b
      rw [h'] at t
      unfold someB
      rcases t with ⟨t1, t2, _⟩ | ⟨t1, t2, _⟩ | ⟨_, _, t3⟩
      · simp [t1, t2]
      · simp [t1, t2]
      · cases t3
/-- the fractions' bottoms are above nought -/
def PosL (zs : List Q2) : Prop := ∀ z ∈ zs, 0 < z.2
theorem Mks.posL {C : Addr} {H : Hp} {k : Nat} {ps : List V} {zs : List Q2} (m : Mks C H k ps zs) : PosL zs := fun z hz => by
  obtain ⟨i, hi⟩ := List.mem_iff_getElem?.mp hz
  obtain ⟨p, _, q⟩ := m.at hi
  exact q.pos
theorem endQ_in {zs : List Q2} {i : Int} {n : Nat} (e : i = (n : Int)) : endQ zs i = zs[n]? := by
  subst e
  unfold endQ
  by_cases h : n < zs.length
  · rw [if_pos (by omega)]; rfl
  · rw [if_neg (by omega)]
    exact (List.getElem?_eq_none (by omega)).symm
theorem endQ_none {zs : List Q2} {i : Int} (h : i < 0) : endQ zs i = none := by
  unfold endQ
  rw [if_neg (by omega)]
theorem some_up {zs : List Q2} {n : Nat} (hr : RiseQ zs) {i j : Bool} : someB (endQ zs ((n : Int) - 1)) zs[n]? i j = true := by
  cases n with
  | zero => rw [endQ_none (by omega)]; rfl
  | succ n =>
    rw [endQ_in (n := n) (by omega)]
    cases e1 : zs[n]? with
    | none => rfl
    | some a =>
      cases e2 : zs[n + 1]? with
      | none => rfl
      | some b => exact some_lt (hr n a b e1 e2)
theorem some_dn {zs : List Q2} {n : Nat} (hr : RiseQ zs) {i j : Bool} : someB zs[n]? (endQ zs ((n : Int) + 1)) i j = true := by
  rw [endQ_in (n := n + 1) (by omega)]
  cases e1 : zs[n]? with
  | none => rfl
  | some a =>
    cases e2 : zs[n + 1]? with
    | none => rfl
    | some b => exact some_lt (hr n a b e1 e2)
theorem midq_rise {zs : List Q2} (hr : RiseQ zs) (hp : PosL zs) : RiseQ (midq zs) := by
  intro i x y hx hy
  have l := (List.getElem?_eq_some_iff.mp hy).1
  rw [midq_len] at l
  obtain ⟨a, ha⟩ := ge2 (zs := zs) (n := i) (by omega)
  obtain ⟨b, hb⟩ := ge2 (zs := zs) (n := i + 1) (by omega)
  obtain ⟨c, hc⟩ := ge2 (zs := zs) (n := i + 1 + 1) (by omega)
  rw [midq_get zs i a b ha hb] at hx
  rw [midq_get zs (i + 1) b c hb hc] at hy
  cases hx; cases hy
  exact mids_lt (hp a (List.mem_of_getElem? ha)) (hp b (List.mem_of_getElem? hb)) (hp c (List.mem_of_getElem? hc)) (hr i a b ha hb) (hr (i + 1) b c hb hc)
theorem some_nr {zs : List Q2} {n : Nat} (hr : RiseQ zs) {i j : Bool} : someB (endQ zs ((n : Int) - 1)) (endQ zs (n : Int)) i j = true := by
  rw [endQ_in (n := n) rfl]
  exact some_up hr
end My
namespace My
open PySem PySem.Spec PyProof.Rows L2
/-! ### defs that are called where no text of a list or tuple is under way -/
structure FnG (P : Program) (w : World) (K : PySem.W.Frag) (mg : Str → Option Value) (base : Heap) (CX : CXT) (k : Nat) (f : Addr) (fd : FuncData) (ps : List Str) (sp : Sp) : Prop where
  lenG : ∀ vs H Q E, sp vs H Q E → vs.length = ps.length
  runG : ∀ (A : Around) (outer : List Env) (s : Shared) (H : Hp) (args : Args) (us : List Value) (vs : List V) (Q : VK) (E : XK), Room k A → A.guards = some [] → Env0 P w K mg base A outer s H → BindsTo s fd args (ps.zip us) → Vals vs us → sp vs H Q E →
    codeAny (model P w) A (.call (.ref f) args) (CR CX outer P w H s Q E) s
section
variable {P : Program} {w : World} {K : PySem.W.Frag} {mg : Str → Option Value} {base : Heap} {x qual : Str} {params : Arguments} {body : List Stmt} {scope : Scope} {dvs : List V} {kws : List (Str × V)} {f : Addr} {fd : FuncData}
theorem okG {CX : CXT} {N ps : List Str} {k : Nat} {sp : Sp} (F : FunD K x qual params body scope dvs kws f fd) (S : FnScope N ps scope) (hlen : ∀ vs H Q E, sp vs H Q E → vs.length = ps.length)
    (hbody : ∀ (cdv : Value) (A : Around) (outer : List Env) (s : Shared) (H : Hp) (vs : List V) (Q : VK) (E : XK), Room k (A.deeper (envOfC qual scope s.heap.objs.size f cdv)) → A.guards = some [] → sp vs H Q E →
      ∃ t, PSs (cxOf CX P w K mg base N qual scope f cdv A outer s H E) body t ∧ t { nx := fun _ H' => Q .non H', rt := Q } (start N vs) H) : FnG P w K mg base CX (k + 1) f fd ps sp := by
  obtain ⟨oc, od, dV, kV, doc, pm, an, cdv, ct, osl, rfl, lk, hcd, _, _⟩ := F.ex
  refine ⟨hlen, fun A outer s H args us vs Q E room gd en bd rl hs => ?_⟩
  have lv := hlen _ _ _ _ hs
  have kin : K.In s.heap := en.mod.kin.keeps fun b o q => (en.bs b o q).1
  have noL : s.heap.NoLimit := en.mod.nolimit.keeps fun b o q => (en.bs b o q).1
  have kinds : ∀ y ∈ ps.zip us, scope.names.lookup y.1 = some .local ∨ (scope.names.lookup y.1 = some .cell ∧ ((cellsFrom (s.heap.objs.size + 1) scope.names []).lookup y.1).isSome = true) := fun ⟨n, v⟩ hy => by
    rcases S.par n (List.of_mem_zip hy).1 with q | q
    · exact .inl q
    · exact .inr ⟨q, PySem.W.cellsFrom_some _ _ _ (.inl q)⟩
  refine codeAny_call_function room.depth (kin _ _ lk) rfl S.co S.gen rfl (PySem.W.codeRec_of kin hcd) (bd _ _ _ _ ?_)
  refine wpAny_newFunctionEnv_cells S.kind kinds fun env ee s1 ic => ?_
  subst ee
  refine ⟨noL.keeps ic.toInCall.keep, codeAny_func ?_⟩
  obtain ⟨t, ht, hq⟩ := hbody cdv A outer s H vs Q E (room.deeper _) gd hs
  have J0 : Inv (cxOf CX P w K mg base N qual scope f cdv A outer s H E) [] (start N vs) H s1 := inv_start S room.hd en lv rl ic
  refine wpAny_mono (ht.run [] s1 (start N vs) H _ J0 hq) (fun fl s' hz => ?_) fun e s' hz => hz
  cases fl with
  | ret u =>
    obtain ⟨v, σ', H', J, rv, q⟩ := hz
    exact ⟨v, H', J.os, J.bare, J.base, J.hok, rv, q⟩
  | next =>
    obtain ⟨σ', H', J, q⟩ := hz
    exact ⟨V.non, H', J.os, J.bare, J.base, J.hok, rfl, q⟩
  | brk =>
    obtain ⟨_, _, _, q⟩ := hz
    exact False.elim q
  | cont =>
    obtain ⟨_, _, _, q⟩ := hz
    exact False.elim q
end
section
variable {X : Cx} {CX : CXT} {k : Nat} {f : Addr} {fd : FuncData} {ps : List Str} {sp : Sp} {dvs : List V} {ds : List Value} {E : XK} {x : Str} {p pos : Pos} {e : Expr} {es : List Expr} {t : TA}
theorem pe_callG (F : FnG X.prog X.w X.K X.mg X.base CX k f fd ps sp) (gd : X.A.guards = some []) (hr : Room k X.A) (hg : Gl X x) (hm : X.mg x = some (.ref f)) (hk : PySem.W.keepIn X.K (.ref f) = true) (hb : Binds X.K fd ps ds) (hd : Vals dvs ds) (hx : Passes CX X E)
    (ha : PA X (e :: es) t) (hdb : (x == ("__debug__" : Str)) = false := by decide) (he : starEach (e :: es) X.env = (false, eval e X.env) :: starEach es X.env := by rfl) (hpl : (backTo pos (starEach es X.env)).any (·.1) = false := by rfl) :
    PE X (.Call (.Name x p) (e :: es) [] pos) (tCall sp dvs E t) := by
  refine ⟨fun pins s σ H Q I hw => ?_⟩
  refine wpAny_Call_Name_kw (ld_glob I hg hm ?_ hdb)
  refine PySem.W.callWith_K (h₀ := X.base) I.ok.mod.kin hk (thn (ha.run pos pins s σ H _ I hw) fun us s1 ⟨vs, H1, I1, rl, q⟩ => ⟨I1.kIn, ?_⟩) he hpl
  have r2 : Vals (vs ++ dvs) (us ++ ds) := rl.append hd
  have hl : (us ++ ds).length = ps.length := by rw [← r2.length]; exact F.lenG _ _ _ _ q
  refine wpAny_call (codeAny_mono (F.runG X.A X.stack s1 H1 ⟨us, []⟩ (us ++ ds) (vs ++ dvs) Q E hr gd I1.env0 (hb s1 us I1.kIn hl) r2 q) fun rr s' hq => ?_)
  cases rr with
  | error e => exact hx pins σ H1 s1 e s' I1 hq
  | ok fl =>
    cases fl with
    | ret u => exact I1.after hq
    | next => exact False.elim hq
    | brk => exact False.elim hq
    | cont => exact False.elim hq
/-- repr of data -/
theorem call_reprD {n : Nat} (gd : X.A.guards = some []) (hr : Room n X.A) : CallR X (.builtin "repr") (fun xs H Q => ∃ x d, xs = [x] ∧ Dp X.K H x d ∧ d.showable = true ∧ d.hasDict = false ∧ d.depth ≤ 60 ∧ d.shown.length ≤ sizeLine ∧ Q (.str d.shown) H) := by
  intro pins s σ H xs us Q I r h
  obtain ⟨x, d, rfl, hd, hs, hn, hp, hz, q⟩ := h
  obtain ⟨u, rfl, rx⟩ := vals1 r
  obtain ⟨as, rd⟩ := Dp.reads I d x u hd rx
  have hu := hr.un
  cases hd with
  | non =>
    cases (show u = Value.none from rx)
    exact PySem.P.repr_of_none ⟨.str _, H, I.tok _, ⟨_, rfl⟩, q⟩
  | bl b =>
    cases (show u = Value.bool b from rx)
    exact PySem.P.repr_of_bool ⟨.str _, H, I.tok _, ⟨_, rfl⟩, q⟩
  | int i =>
    obtain ⟨t, rfl⟩ := rx
    have hi : i.natAbs.log2 < 1920 := by simpa [PyData.showable] using hs
    simp only [PyData.shown] at q
    exact PySem.P.repr_of_int hi ⟨.str _, H, I.tok _, ⟨_, rfl⟩, q⟩
  | str z =>
    obtain ⟨t, rfl⟩ := rx
    exact PySem.P.repr_of_str ⟨.str _, H, I.tok _, ⟨_, rfl⟩, q⟩ hz
  | lst hq ha =>
    cases (show u = Value.ref _ from rx)
    exact repr_of_reads' rd hs (fun e => by rw [hn] at e; cases e) gd (by omega) (fun _ _ e => e) (fun h' t tk hk => ⟨.str _, H, I.kept hk, ⟨t, rfl⟩, q⟩) hz
  | tup hq ha =>
    cases (show u = Value.ref _ from rx)
    exact repr_of_reads' rd hs (fun e => by rw [hn] at e; cases e) gd (by omega) (fun _ _ e => e) (fun h' t tk hk => ⟨.str _, H, I.kept hk, ⟨t, rfl⟩, q⟩) hz
end
/-! ### the law is called where none is under way -/
theorem law_G {P : Program} {w : World} {K : PySem.W.Frag} {mg mb : Str → Option Value} {CX : CXT} {k : Nat} {fa a : Addr} {fd : FuncData} {x : Str} {sp : Sp} {s1 : Shared} {vs : List Value} {ns : List Int}
    (kin : K.In s1.heap) (hns : s1.heap.Ns mainGlobals mg) (hb : s1.heap.Ns builtinsNs mb) (hbb : ∀ y : Str, y ≠ "__name__" → mb y = bootBuiltins y) (hlim : s1.heap.NoLimit) (hgen : s1.gens = #[])
    (ha : s1.heap.get? a = some { cls := .type "list", data := .seq vs.toArray }) (hi : IntsAre vs ns) (hl : ns.length ≤ sizeLine) (hr : Room k callerA)
    (F : ∀ base : Heap, K.In base → base.Ns mainGlobals mg → FnG P w K mg base CX k fa fd [x] sp) (hbind : ∀ (s : Shared) (u : Value), BindsTo s fd ⟨[u], []⟩ [(x, u)])
    (hsp : ∀ H : Hp, Only H → SqL K H a (ns.map V.int) → sp [.ref a] H (fun v _ => v = .bl true) fun _ _ _ => False)
    (hCX : ∀ H e s', CX [] H s1 (fun _ _ _ => False) e s' → False) :
    codeAny (model P w) callerA (.call (.ref fa) ⟨[.ref a], []⟩) (fun r s' => r = .ok (.ret (.bool true)) ∧ OldK s1.heap s'.heap ∧ s'.os = s1.os ∧ AllBare s'.gens) s1 := by
  have rv := vals_ints hi
  have lenV := hi.length
  have core : ∀ H : Hp, Only H → SqL K H a (ns.map V.int) → HOk P w H s1.heap → (∀ b, H b ≠ none → b = a) → (H a ≠ none → K.lookup a = none) →
      codeAny (model P w) callerA (.call (.ref fa) ⟨[.ref a], []⟩) (fun r s' => r = .ok (.ret (.bool true)) ∧ OldK s1.heap s'.heap ∧ s'.os = s1.os ∧ AllBare s'.gens) s1 := by
    intro H only seq hok one free
    have inB : ∀ {b : Addr} {o : Obj}, s1.heap.get? b = some o → H b = none → (hidT s1.heap H).get? b = some o := fun q n => hidT_get q n
    have apart : ∀ {b : Addr} {o : Obj} {es : Array DictEntry} {ep : Nat}, s1.heap.get? b = some o → o.data = .dict es ep → H b = none := fun {b o es ep} q dd => by
      cases z : H b with
      | none => rfl
      | some u =>
        have eb : b = a := one b (by rw [z]; simp)
        subst eb
        rw [ha] at q; cases q
        have d' : Data.seq vs.toArray _ = Data.dict es ep := dd
        cases d'
    have nsB : ∀ {b : Addr} {m : Str → Option Value}, s1.heap.Ns b m → (hidT s1.heap H).Ns b m := fun {b m} ⟨o, es, ep, q, dd, r⟩ => ⟨o, es, ep, inB q (apart q dd), dd, r⟩
    have kinB : K.In (hidT s1.heap H) := fun b o q => inB (kin b o q) (by
      cases z : H b with
      | none => rfl
      | some u =>
        have eb : b = a := one b (by rw [z]; simp)
        subst eb
        rw [free (by rw [z]; simp)] at q; cases q)
    have md : Mod K mg (hidT s1.heap H) := ⟨kinB, nsB hns, ⟨mb, nsB hb, hbb⟩, let ⟨mc, h1, h2⟩ := hlim; ⟨mc, nsB h1, h2⟩⟩
    have en : Env0 P w K mg (hidT s1.heap H) callerA [] s1 H := ⟨rfl, md, fun b o q => of_hidT q, Nat.le_of_eq (hidT_size _ _), trivial, fun b hb => absurd (show b ∈ ([] : List Addr) from hb) (by simp), hok, .of_eq hgen⟩
    refine codeAny_mono ((F _ kinB (nsB hns)).runG callerA [] s1 H ⟨[.ref a], []⟩ [.ref a] [.ref a] _ _ hr rfl en (hbind s1 (.ref a)) (.cons rfl .nil) (hsp H only seq)) fun r s' h => ?_
    cases r with
    | error e => exact (hCX H e s' h).elim
    | ok fl =>
      cases fl with
      | next => exact False.elim h
      | brk => exact False.elim h
      | cont => exact False.elim h
      | ret u =>
        obtain ⟨v, H', os, bare, un, hok', r', q⟩ := h
        cases (show v = .bl true from q)
        cases (show u = Value.bool true from r')
        refine ⟨rfl, OldK.of_keep fun b o eo => ?_, os, bare⟩
        cases z : H b with
        | none => exact un.keep b o eo z (fun y => absurd (show b ∈ ([] : List Addr) from y) (by simp)) (by simp)
        | some u =>
          rcases only b with y | ⟨ob, xs, y⟩
          · rw [z] at y; cases y
          · obtain ⟨e1, _⟩ := hok b _ y
            obtain ⟨e2, _⟩ := hok' b _ (un.frzs b ob _ y)
            rw [eo] at e1; cases e1
            exact e2
  cases hk : K.lookup a with
  | some o =>
    have eo := kin a o hk
    rw [ha] at eo
    cases eo
    exact core (fun _ => none) (fun _ => .inl rfl) (.inr ⟨_, vs.toArray, _, hk, rfl, rfl, rfl, by rw [List.size_toArray, lenV]; exact hl, by simpa using rv⟩) (fun b u z => nomatch (show (none : Option HO) = some u from z)) (fun b z => absurd rfl z) fun z => absurd rfl z
  | none =>
    refine core (fun b => if b = a then some (.frz { cls := .type "list", data := .seq vs.toArray } (.lst (ns.map V.int))) else none) (fun b => ?_) (.inl (.inr ⟨{ cls := .type "list", data := .seq vs.toArray }, if_pos rfl⟩)) (fun b u z => ?_) (fun b z => ?_) fun _ => hk
    · by_cases eb : b = a
      · exact .inr ⟨_, _, if_pos eb⟩
      · exact .inl (if_neg eb)
    · by_cases eb : b = a
      · have y := (if_pos eb).symm.trans z
        cases y
        subst eb
        exact ⟨ha, by rw [List.length_map]; exact hl, vs, _, rv, ha⟩
      · have y := (if_neg eb).symm.trans z
        cases y
    · by_cases eb : b = a
      · exact eb
      · exact absurd (if_neg eb) z
theorem walk_G {l : PySem.W.OpenLaw} {n k : Nat} {q : Program} {loose : List Str} {XP : (Str → Option Value) → Heap → Prop} {YP : World → Heap → Prop} {d : DefRec} {CX : CXT} {x : Str}
    (hn : l.most = some n) (hn2 : n ≤ sizeLine) (hdf : d.params.defaults = []) (hr : Room k callerA)
    (F : ∀ (w : World) (mg : Str → Option Value) (fa : Addr) (h : Heap), YP w h → h.Ns mainGlobals mg → mg d.name = some (.ref fa) →
      ∃ (K : PySem.W.Frag) (fd : FuncData) (sp : Sp), K.In h ∧ (∀ (s : Shared) (u : Value), BindsTo s fd ⟨[u], []⟩ [(x, u)]) ∧
        (∀ (H : Hp) (a : Addr) (ns : List Int), ns.length ≤ n → Only H → SqL K H a (ns.map V.int) → sp [.ref a] H (fun v _ => v = .bl true) fun _ _ _ => False) ∧
        ∀ base : Heap, K.In base → base.Ns mainGlobals mg → FnG l.prog w K mg base CX k fa fd [x] sp)
    (hCX : ∀ (H : Hp) (s : Shared) (e : Value) (s' : Shared), CX [] H s (fun _ _ _ => False) e s' → False) :
    PySem.W.WalkO q loose XP YP l.row.toRowW d [] (fun f vs => PySem.call f vs) := by
  refine Att.attach_call hn hdf fun w s₀ s1 mg mb fa o pm cd doc a vs ns G Y ho hd hcd hmg hobj hints hlen hgen => ?_
  obtain ⟨K, fd, sp, KX, hb, hsp, hF⟩ := F w mg fa _ Y G.T.g hmg
  exact law_G KX G.T.g G.T.b G.T.builtins G.T.nolimit hgen hobj hints (Nat.le_trans hlen hn2) hr hF hb (fun H hO hS => hsp H a ns hlen hO hS) fun H e s' => hCX H s1 e s'
end My
namespace My
open PySem PySem.Spec PyProof.Rows L2
/-! ### tuples: sums and slices, whatever their lengths -/
section
variable {X : Cx} {K : PySem.W.Frag}
end
theorem cutV_take (xs : List V) {i : Int} {n : Nat} (e : i = (n : Int)) : cutV xs none (some i) = xs.take n := by
  subst e
  unfold cutV
  rw [HT.sIx_none, HT.sIx_nat, List.drop_zero, Nat.sub_zero]
  by_cases h : n ≤ xs.length
  · rw [Nat.min_eq_left h]
  · rw [Nat.min_eq_right (by omega), List.take_length, List.take_of_length_le (by omega)]
theorem Mks.cut {C : Addr} {H : Hp} {k : Nat} {ps : List V} {zs : List Q2} (m : Mks C H k ps zs) (n : Nat) : Mks C H k (ps.take n ++ ps.drop (n + 1)) (zs.take n ++ zs.drop (n + 1)) := by
  have l := m.len
  refine ⟨by simp only [List.length_append, List.length_take, List.length_drop]; omega, fun i v z h1 h2 => ?_⟩
  by_cases hi : i < n ∧ i < ps.length
  · rw [List.getElem?_append_left (by rw [List.length_take]; omega), List.getElem?_take_of_lt hi.1] at h1
    rw [List.getElem?_append_left (by rw [List.length_take]; omega), List.getElem?_take_of_lt hi.1] at h2
    exact m.all i v z h1 h2
  · rw [List.getElem?_append_right (by rw [List.length_take]; omega), List.getElem?_drop] at h1
    rw [List.getElem?_append_right (by rw [List.length_take]; omega), List.getElem?_drop] at h2
    have e : (ps.take n).length = (zs.take n).length := by rw [List.length_take, List.length_take, l]
    rw [e] at h1
    exact m.all _ v z h1 h2
/-! ### rows, as the laws draw them -/
structure RowsL (H : Hp) (p : Addr) (part : Int) (ts : List Int) : Prop where
  ob : ∃ T, H p = some (.tup [.int part, .ref T]) ∧ H T = some (.tup (ts.map V.int))
  p0 : 0 < part
  p1 : part ≤ 10007
  len0 : 0 < ts.length
  len1 : ts.length ≤ 24
  bnd : ∀ t ∈ ts, -2000000 ≤ t ∧ t ≤ 2000000
theorem RowsL.same {H H' : Hp} {p : Addr} {part : Int} {ts : List Int} (a : RowsL H p part ts) (s : Same H H') : RowsL H' p part ts := by
  obtain ⟨⟨T, h1, h2⟩, a1, a2, a3, a4, a5⟩ := a
  exact ⟨⟨T, s _ _ h1, s _ _ h2⟩, a1, a2, a3, a4, a5⟩
/-! ### tuples of whole numbers as data -/
def intsD (zs : List Int) : PyData := .tuple (zs.map PyData.int)
theorem dpI {K : PySem.W.Frag} {H : Hp} : ∀ zs : List Int, DpAll K H (zs.map V.int) (zs.map PyData.int)
  | [] => .nil
  | z :: zs => .cons (.int z) (dpI zs)
theorem dpT {K : PySem.W.Frag} {H : Hp} {p : Addr} {zs : List Int} (h : H p = some (.tup (zs.map V.int))) : Dp K H (.ref p) (intsD zs) := .tup (SqT.of h) (dpI zs)
theorem shI : ∀ zs : List Int, (∀ z ∈ zs, z.natAbs < 2 ^ 60) → PyData.showableAll (zs.map PyData.int) = true
  | [], _ => rfl
  | z :: zs, h => by
    have h1 := h z List.mem_cons_self
    have h2 := shI zs fun y hy => h y (List.mem_cons_of_mem _ hy)
    have h3 : z.natAbs.log2 < 1920 := by
      by_cases e : z.natAbs = 0
      · rw [e]; decide
      · exact Nat.lt_of_lt_of_le ((Nat.log2_lt e).mpr h1) (by decide)
    show (decide (z.natAbs.log2 < 1920) && PyData.showableAll (zs.map PyData.int)) = true
    rw [h2, Bool.and_true]
    exact decide_eq_true h3
theorem ndI : ∀ zs : List Int, PyData.hasDictAll (zs.map PyData.int) = false
  | [] => rfl
  | z :: zs => by
    show (false || PyData.hasDictAll (zs.map PyData.int)) = false
    rw [ndI zs]; rfl
theorem deI : ∀ zs : List Int, PyData.depthAll (zs.map PyData.int) = 0
  | [] => rfl
  | z :: zs => by
    show max 0 (PyData.depthAll (zs.map PyData.int)) = 0
    rw [deI zs]; rfl
theorem plI : ∀ zs : List Int, (∀ z ∈ zs, z.natAbs < 2 ^ 60) → piled (PyData.shownAll (zs.map PyData.int)) ≤ 100 * zs.length
  | [], _ => Nat.le_refl _
  | z :: zs, h => by
    have h1 := h z List.mem_cons_self
    have h2 := plI zs fun y hy => h y (List.mem_cons_of_mem _ hy)
    have h3 : z.natAbs.log2 < 60 := by
      by_cases e : z.natAbs = 0
      · rw [e]; decide
      · exact (Nat.log2_lt e).mpr h1
    have h4 := int_text_length_le (a := z) (k := 60) (by decide) h3
    have h5 : (Str.ofString (toString z)).length = (toString z).length := PySem.ofString_length _
    show piled (Str.ofString (toString z) :: PyData.shownAll (zs.map PyData.int)) ≤ _
    rw [piled_cons, h5, List.length_cons]
    omega
theorem intsD_ok {zs : List Int} (hl : zs.length ≤ 1000) (h : ∀ z ∈ zs, z.natAbs < 2 ^ 60) : (intsD zs).showable = true ∧ (intsD zs).hasDict = false ∧ (intsD zs).depth ≤ 60 ∧ (intsD zs).shown.length ≤ sizeLine := by
  refine ⟨shI zs h, ndI zs, ?_, ?_⟩
  · show PyData.depthAll (zs.map PyData.int) + 1 ≤ 60
    rw [deI]; decide
  · have h1 := fmt_text (PyData.shownAll (zs.map PyData.int))
    have h2 := plI zs h
    have h3 : 200000 ≤ sizeLine := by decide
    show (tupleText (PyData.shownAll (zs.map PyData.int))).length ≤ _
    omega
theorem idx_len {n : Nat} {c : Nat → Bool} : (idx n c).length ≤ n := by
  unfold idx
  rw [List.length_map]
  exact Nat.le_trans (List.length_filter_le _ _) (Nat.le_of_eq List.length_range)
end My
namespace My
open PySem PySem.Spec PyProof.Rows L2
/-! ### a list or a tuple, walked -/
section
variable {X : Cx} {tg : Expr}
end
/-- a def that calls itself, ahead of its own promise -/
theorem fn_never {P : Program} {w : World} {K : PySem.W.Frag} {mg : Str → Option Value} {base : Heap} {CX : CXT} {k : Nat} {f : Addr} {fd : FuncData} {ps : List Str} : FnOk P w K mg base CX k f fd ps (fun _ _ _ _ => False) :=
  ⟨fun _ _ _ _ h => h.elim, fun _ _ _ _ _ _ _ _ _ _ _ _ _ h => h.elim⟩
/-! ### fractions as pairs of whole numbers -/
def TQ (H : Hp) (v : V) (k : Nat) (z : Q2) : Prop := ∃ p, v = .ref p ∧ H p = some (.tup [.int z.1, .int z.2]) ∧ 0 < z.2 ∧ Sz k z.1 ∧ Sz k z.2
section
variable {H H' : Hp} {v : V} {k j : Nat} {z : Q2}
theorem TQ.same (a : TQ H v k z) (s : Same H H') : TQ H' v k z := by
  obtain ⟨p, h1, h2, h3⟩ := a
  exact ⟨p, h1, s _ _ h2, h3⟩
theorem TQ.nl (a : TQ H v k z) (s : Nl H H') : TQ H' v k z := by
  obtain ⟨p, h1, h2, h3⟩ := a
  exact ⟨p, h1, s _ _ h2 rfl, h3⟩
theorem TQ.kp {h : Addr} {n : Nat} (a : TQ H v k z) (hh : HandAt H h n) (s : Kp h H H') : TQ H' v k z := by
  obtain ⟨p, h1, h2, h3⟩ := a
  exact ⟨p, h1, s.get hh h2 rfl, h3⟩
theorem TQ.mono (a : TQ H v k z) (l : k ≤ j) : TQ H v j z := by
  obtain ⟨p, h1, h2, h3, h4, h5⟩ := a
  exact ⟨p, h1, h2, h3, h4.mono l, h5.mono l⟩
theorem TQ.pos (a : TQ H v k z) : 0 < z.2 := by
  obtain ⟨p, h1, h2, h3, h4, h5⟩ := a
  exact h3
theorem TQ.mk {p : Addr} {a b : Int} (h : H p = some (.tup [.int a, .int b])) (hb : 0 < b) (s1 : Sz k a) (s2 : Sz k b) : TQ H (.ref p) k (a, b) := ⟨p, rfl, h, hb, s1, s2⟩
end
structure Tqs (H : Hp) (k : Nat) (vs : List V) (zs : List Q2) : Prop where
  len : vs.length = zs.length
  all : ∀ (i : Nat) (v : V) (z : Q2), vs[i]? = some v → zs[i]? = some z → TQ H v k z
section
variable {H H' : Hp} {k j : Nat} {vs : List V} {zs : List Q2}
theorem Tqs.same (m : Tqs H k vs zs) (s : Same H H') : Tqs H' k vs zs := ⟨m.len, fun i v z h1 h2 => (m.all i v z h1 h2).same s⟩
theorem Tqs.nl (m : Tqs H k vs zs) (s : Nl H H') : Tqs H' k vs zs := ⟨m.len, fun i v z h1 h2 => (m.all i v z h1 h2).nl s⟩
theorem Tqs.kp {h : Addr} {n : Nat} (m : Tqs H k vs zs) (hh : HandAt H h n) (s : Kp h H H') : Tqs H' k vs zs := ⟨m.len, fun i v z h1 h2 => (m.all i v z h1 h2).kp hh s⟩
theorem Tqs.mono (m : Tqs H k vs zs) (l : k ≤ j) : Tqs H j vs zs := ⟨m.len, fun i v z h1 h2 => (m.all i v z h1 h2).mono l⟩
theorem Tqs.at (m : Tqs H k vs zs) {i : Nat} {z : Q2} (h : zs[i]? = some z) : ∃ v, vs[i]? = some v ∧ TQ H v k z := by
  have hi : i < vs.length := by rw [m.len]; exact (List.getElem?_eq_some_iff.mp h).1
  exact ⟨_, List.getElem?_eq_getElem hi, m.all i _ z (List.getElem?_eq_getElem hi) h⟩
theorem Tqs.of (m : Tqs H k vs zs) {i : Nat} {v : V} (h : vs[i]? = some v) : ∃ z, zs[i]? = some z ∧ TQ H v k z := by
  have hi : i < zs.length := by rw [← m.len]; exact (List.getElem?_eq_some_iff.mp h).1
  exact ⟨_, List.getElem?_eq_getElem hi, m.all i v _ h (List.getElem?_eq_getElem hi)⟩
theorem Tqs.snoc (m : Tqs H k vs zs) {v : V} {z : Q2} (t : TQ H v k z) : Tqs H k (vs ++ [v]) (zs ++ [z]) := by
  refine ⟨by rw [List.length_append, List.length_append, m.len]; rfl, fun i w y h1 h2 => ?_⟩
  by_cases hi : i < vs.length
  · rw [List.getElem?_append_left hi] at h1
    rw [List.getElem?_append_left (by rw [← m.len]; exact hi)] at h2
    exact m.all i w y h1 h2
  · have l1 := (List.getElem?_eq_some_iff.mp h1).1
    rw [List.length_append, List.length_singleton] at l1
    have e : i = vs.length := by omega
    rw [e, List.getElem?_append_right (Nat.le_refl _), Nat.sub_self] at h1
    rw [e, m.len, List.getElem?_append_right (Nat.le_refl _), Nat.sub_self] at h2
    cases h1; cases h2
    exact t
theorem Tqs.one {v : V} {z : Q2} (t : TQ H v k z) : Tqs H k [v] [z] := (⟨rfl, fun i w y h1 => by simp at h1⟩ : Tqs H k [] []).snoc t
theorem Tqs.cons (m : Tqs H k vs zs) {v : V} {z : Q2} (t : TQ H v k z) : Tqs H k (v :: vs) (z :: zs) := by
  refine ⟨by rw [List.length_cons, List.length_cons, m.len], fun i w y h1 h2 => ?_⟩
  cases i with
  | zero => cases h1; cases h2; exact t
  | succ i => exact m.all i w y (by simpa using h1) (by simpa using h2)
theorem Tqs.nil : Tqs H k [] [] := ⟨rfl, fun i w y h1 => by simp at h1⟩
theorem Mks.mono {C : Addr} {ps : List V} (m : Mks C H k ps zs) (l : k ≤ j) : Mks C H j ps zs := ⟨m.len, fun i v z h1 h2 => by
  obtain ⟨p, e, q⟩ := m.all i v z h1 h2
  exact ⟨p, e, q.mono l⟩⟩
theorem QO.mono {C : Addr} {v : V} (l : k ≤ j) : ∀ {e : Option Q2}, QO C H k v e → QO C H j v e
  | none, h => h
  | some _, ⟨p, h1, h2⟩ => ⟨p, h1, h2.mono l⟩
end
theorem leq_not {a b : Q2} : leq a b = !ltq b a := by
  unfold leq ltq eqq
  rw [← Bool.decide_or, ← decide_not]
  exact decide_eq_decide.mpr ⟨fun h => by omega, fun h => by omega⟩
theorem leq_congr {a b c d : Q2} (h : Re a c) (g : Re b d) : leq a b = leq c d := by rw [leq_not, leq_not, ltq_congr g h]
theorem span_leq (a b : Q2) : spanB (some a) (some b) = (ltq a b || eqq a b) := by
  show (!ltq b a) = leq a b
  rw [leq_not]
/-! ### what the defs of pairs promise -/
def sp_span (CM : Addr) : Sp := fun vs H Q _ => ∃ (l h : V) (k : Nat) (lo hi : Option Q2), vs = [l, h] ∧ QO CM H k l lo ∧ QO CM H k h hi ∧ k ≤ 9000 ∧ Q (.bl (spanB lo hi)) H
theorem rise_ltq {zs : List Q2} (h : RiseQ zs) (hp : ∀ z ∈ zs, 0 < z.2) : ∀ {j i : Nat} {a b : Q2}, i < j → zs[i]? = some a → zs[j]? = some b → ltq a b = true
  | 0, _, _, _, hi, _, _ => by omega
  | j + 1, i, a, b, hi, ha, hb => by
    obtain ⟨c, hc⟩ := ge2 (zs := zs) (n := j) (by have := (List.getElem?_eq_some_iff.mp hb).1; omega)
    have h1 := h j c b hc hb
    by_cases e : i = j
    · subst e
      rw [ha] at hc
      cases hc
      exact h1
    · exact ltq_trans (hp c (List.mem_of_getElem? hc)) (hp a (List.mem_of_getElem? ha)) (hp b (List.mem_of_getElem? hb)) (rise_ltq h hp (show i < j by omega) ha hc) h1
theorem Tqs.posL {H : Hp} {k : Nat} {vs : List V} {zs : List Q2} (m : Tqs H k vs zs) : ∀ z ∈ zs, 0 < z.2 := fun z hz => by
  obtain ⟨i, hi⟩ := List.mem_iff_getElem?.mp hz
  obtain ⟨v, _, t⟩ := m.at hi
  exact t.pos
/-- None, or a pair -/
def TOq (H : Hp) (k : Nat) (v : V) : Option Q2 → Prop
  | none => v = .non
  | some z => TQ H v k z
theorem TOq.same {H H' : Hp} {k : Nat} {v : V} : ∀ {e : Option Q2}, TOq H k v e → Same H H' → TOq H' k v e
  | none, h, _ => h
  | some _, h, s => TQ.same h s
theorem TOq.kp {H H' : Hp} {k n : Nat} {h : Addr} {v : V} : ∀ {e : Option Q2}, TOq H k v e → HandAt H h n → Kp h H H' → TOq H' k v e
  | none, h, _, _ => h
  | some _, h, hh, s => TQ.kp h hh s
theorem QO.nl {C : Addr} {H H' : Hp} {k : Nat} {v : V} (s : Nl H H') : ∀ {e : Option Q2}, QO C H k v e → QO C H' k v e
  | none, h => h
  | some _, ⟨p, h1, h2⟩ => ⟨p, h1, h2.nl s⟩
theorem sqt_kp {K : PySem.W.Frag} {H H' : Hp} {h a : Addr} {n : Nat} {xs : List V} (s : SqT K H a xs) (hh : HandAt H h n) (k : Kp h H H') : SqT K H' a xs := by
  rcases s with (s | ⟨o, s⟩) | s
  · exact .inl (.inl (k.get hh s rfl))
  · exact .inl (.inr ⟨o, k.get hh s rfl⟩)
  · exact .inr s
theorem LadAt.kp {K : PySem.W.Frag} {CM CL p h : Addr} {H H' : Hp} {k n : Nat} {zs : List Q2} {r : Str} {lo hi : Option Q2} (a : LadAt K CM CL H p k zs r lo hi) (hh : HandAt H h n) (s : Kp h H H') : LadAt K CM CL H' p k zs r lo hi := by
  obtain ⟨⟨dx, T, ps, l, u, h1, h2, h3, h4, h5⟩, a1, a2, a3, a4, a5⟩ := a
  exact ⟨⟨dx, T, ps, l, u, s.get hh h1 rfl, sqt_kp h2 hh s, h3.kp hh s, h4.kp hh s, h5.kp hh s⟩, a1, a2, a3, a4, a5⟩
end My
namespace My
open PySem PySem.Spec PyProof.Rows L2
/-! ### comprehensions that draw -/
/-! ### things that are the same, one within another -/
def AtomV (x : V) : Prop := (∃ z : Int, x = .int z) ∨ (∃ s : Str, x = .str s) ∨ x = .non ∨ ∃ b : Bool, x = .bl b
def SameV (K : PySem.W.Frag) (H : Hp) : Nat → V → V → Prop
  | 0, x, y => x = y ∧ AtomV x
  | n + 1, x, y => (x = y ∧ AtomV x) ∨ ∃ p q xs ys, x = .ref p ∧ y = .ref q ∧ SqT K H p xs ∧ SqT K H q ys ∧ xs.length = ys.length ∧ xs.length ≤ 900 ∧ ∀ (i : Nat) (a b : V), xs[i]? = some a → ys[i]? = some b → SameV K H n a b
theorem SameV.same {K : PySem.W.Frag} {H H' : Hp} (s : Same H H') : ∀ {n : Nat} {x y : V}, SameV K H n x y → SameV K H' n x y
  | 0, _, _, h => h
  | n + 1, _, _, .inl h => .inl h
  | n + 1, _, _, .inr ⟨p, q, xs, ys, h1, h2, h3, h4, h5, h6, h7⟩ => .inr ⟨p, q, xs, ys, h1, h2, s.sqt h3, s.sqt h4, h5, h6, fun i a b ha hb => SameV.same s (h7 i a b ha hb)⟩
theorem SameV.atom {K : PySem.W.Frag} {H : Hp} {x : V} (a : AtomV x) : ∀ n, SameV K H n x x
  | 0 => ⟨rfl, a⟩
  | _ + 1 => .inl ⟨rfl, a⟩
theorem SameV.ints {K : PySem.W.Frag} {H : Hp} {p q : Addr} {ss : List Int} (n : Nat) (hp : SqT K H p (ss.map V.int)) (hq : SqT K H q (ss.map V.int)) (l : ss.length ≤ 900) : SameV K H (n + 1) (.ref p) (.ref q) :=
  .inr ⟨p, q, _, _, rfl, rfl, hp, hq, rfl, by rw [List.length_map]; exact l, fun i a b ha hb => by
    rw [ha] at hb
    cases hb
    obtain ⟨s, _, rfl⟩ := List.mem_map.mp (List.mem_of_getElem? ha)
    exact SameV.atom (.inl ⟨s, rfl⟩) n⟩
/-! ### a Grid -/
def gf (a b c : V) : List (Str × V) := [("lengths", a), ("breadths", b), ("grade", c)]
section
variable (a b c : V)
end
/-- a ladder, whatever its rule and ends -/
def LadE (K : PySem.W.Frag) (CM CL : Addr) (H : Hp) (p : Addr) (k : Nat) (zs : List Q2) : Prop := ∃ r lo hi, LadAt K CM CL H p k zs r lo hi
structure GrdAt (K : PySem.W.Frag) (CM CL CG : Addr) (H : Hp) (p : Addr) (k : Nat) (L1 L2 : Addr) (g : Q2) : Prop where
  ob : ∃ dx q, H p = some (.ins CG dx (gf (.ref L1) (.ref L2) (.ref q))) ∧ QAt CM H q k g
theorem GrdAt.same {K : PySem.W.Frag} {CM CL CG : Addr} {H H' : Hp} {p : Addr} {k : Nat} {L1 L2 : Addr} {g : Q2} (a : GrdAt K CM CL CG H p k L1 L2 g) (s : Same H H') : GrdAt K CM CL CG H' p k L1 L2 g := by
  obtain ⟨dx, q, h1, h2⟩ := a.ob
  exact ⟨dx, q, s _ _ h1, h2.same s⟩
theorem GrdAt.kp {K : PySem.W.Frag} {CM CL CG : Addr} {H H' : Hp} {p h : Addr} {k n : Nat} {L1 L2 : Addr} {g : Q2} (a : GrdAt K CM CL CG H p k L1 L2 g) (hh : HandAt H h n) (s : Kp h H H') : GrdAt K CM CL CG H' p k L1 L2 g := by
  obtain ⟨dx, q, h1, h2⟩ := a.ob
  exact ⟨dx, q, s.get hh h1 rfl, h2.kp hh s⟩
/-! ### the laws' sides of a grid -/
structure SidesAt (H : Hp) (h p : Addr) (k : Nat) (zs ys : List Q2) (g : Q2) : Prop where
  ob : ∃ l1 l2 v us ws, H p = some (.lst [.ref l1, .ref l2, v]) ∧ H l1 = some (.lst us) ∧ H l2 = some (.lst ws) ∧ Tqs H k us zs ∧ Tqs H k ws ys ∧ TQ H v 20 g ∧ p ≠ h ∧ l1 ≠ h ∧ l2 ≠ h
  l0 : 0 < zs.length
  l1 : zs.length ≤ 8
  m0 : 0 < ys.length
  m1 : ys.length ≤ 8
theorem SidesAt.same {H H' : Hp} {h p : Addr} {k : Nat} {zs ys : List Q2} {g : Q2} (a : SidesAt H h p k zs ys g) (s : Same H H') : SidesAt H' h p k zs ys g := by
  obtain ⟨⟨l1, l2, v, us, ws, a1, a2, a3, a4, a5, a6, a7⟩, b1, b2, b3, b4⟩ := a
  exact ⟨⟨l1, l2, v, us, ws, s _ _ a1, s _ _ a2, s _ _ a3, a4.same s, a5.same s, a6.same s, a7⟩, b1, b2, b3, b4⟩
theorem SidesAt.kp {H H' : Hp} {h p : Addr} {k n : Nat} {zs ys : List Q2} {g : Q2} (a : SidesAt H h p k zs ys g) (hh : HandAt H h n) (s : Kp h H H') : SidesAt H' h p k zs ys g := by
  obtain ⟨⟨l1, l2, v, us, ws, a1, a2, a3, a4, a5, a6, a7, a8, a9⟩, b1, b2, b3, b4⟩ := a
  exact ⟨⟨l1, l2, v, us, ws, s _ _ a1 a7, s _ _ a2 a8, s _ _ a3 a9, a4.kp hh s, a5.kp hh s, a6.kp hh s, a7, a8, a9⟩, b1, b2, b3, b4⟩
theorem sqt_nl {K : PySem.W.Frag} {H H' : Hp} {a : Addr} {xs : List V} (s : SqT K H a xs) (k : Nl H H') : SqT K H' a xs := by
  rcases s with (s | ⟨o, s⟩) | s
  · exact .inl (.inl (k _ _ s rfl))
  · exact .inl (.inr ⟨o, k _ _ s rfl⟩)
  · exact .inr s
end My
namespace My
open PySem PySem.Spec PyProof.Rows L2
/-! ### sizes by fractions -/
/-- f holds of the first ones alone -/
def DownQ (f : Q2 → Bool) (zs : List Q2) : Prop := ∀ (i j : Nat) (a b : Q2), i < j → zs[i]? = some a → zs[j]? = some b → f b = true → f a = true
theorem DownQ.tail {f : Q2 → Bool} {x : Q2} {zs : List Q2} (h : DownQ f (x :: zs)) : DownQ f zs := fun i j a b hij ha hb hf => h (i + 1) (j + 1) a b (by omega) (by simpa using ha) (by simpa using hb) hf
theorem cntQ (f : Q2 → Bool) : ∀ {zs : List Q2}, DownQ f zs → ∀ (k : Nat) (a : Q2), zs[k]? = some a → (f a = true ↔ k < zs.countP f)
  | [], _, k, a, h => by simp at h
  | x :: zs, hd, k, a, h => by
    rw [List.countP_cons]
    cases e : f x with
    | true =>
      rw [if_pos rfl]
      cases k with
      | zero =>
        have : x = a := by simpa using h
        subst this
        simp [e]
      | succ k =>
        have := cntQ f hd.tail k a (by simpa using h)
        rw [this]
        omega
    | false =>
      rw [if_neg (by simp)]
      have z0 : zs.countP f = 0 := by
        rw [List.countP_eq_zero]
        intro y hy q
        obtain ⟨n, hn⟩ := List.mem_iff_getElem?.mp hy
        have := hd 0 (n + 1) x y (by omega) rfl (by simpa using hn) q
        rw [e] at this
        cases this
      rw [z0]
      have fa : f a = false := by
        cases k with
        | zero =>
          have : x = a := by simpa using h
          rw [← this]; exact e
        | succ k =>
          cases q : f a with
          | false => rfl
          | true =>
            have := hd 0 (k + 1) x a (by omega) rfl h q
            rw [e] at this
            cases this
      rw [fa]
      simp
theorem down_lt {zs : List Q2} {x : Q2} (h : RiseQ zs) (hp : ∀ z ∈ zs, 0 < z.2) (hx : 0 < x.2) : DownQ (fun a => ltq a x) zs := fun i j a b hij ha hb hf =>
  ltq_trans (hp b (List.mem_of_getElem? hb)) (hp a (List.mem_of_getElem? ha)) hx (rise_ltq h hp hij ha hb) hf
theorem leq_trans_lt {a b c : Q2} (ha : 0 < a.2) (hb : 0 < b.2) (hc : 0 < c.2) (h : ltq a b = true) (g : leq b c = true) : leq a c = true := by
  rw [leq_not] at g ⊢
  have g' : ltq c b = false := by simpa using g
  cases e : ltq c a with
  | false => rfl
  | true =>
    rw [ltq_trans ha hc hb e h] at g'
    cases g'
theorem down_le {zs : List Q2} {x : Q2} (h : RiseQ zs) (hp : ∀ z ∈ zs, 0 < z.2) (hx : 0 < x.2) : DownQ (fun a => leq a x) zs := fun i j a b hij ha hb hf =>
  leq_trans_lt (hp a (List.mem_of_getElem? ha)) (hp b (List.mem_of_getElem? hb)) hx (rise_ltq h hp hij ha hb) hf
section
variable {zs : List Q2} {r : Str} {lo hi : Option Q2} {x : Q2}
end
end My
namespace My
open PySem PySem.Spec PyProof.Rows L2
/-! ### what stood ahead, wanted at a later heap: the step first -/
section
variable {K : PySem.W.Frag} {C CM CL CG p q h a L1 L2 : Addr} {H H' H1 : Hp} {v : V} {k j n : Nat} {z : Q2} {vs : List V} {zs ys : List Q2} {o : HO} {e : Option Q2} {r : Str} {lo hi : Option Q2}
theorem TQ.s (s : Same H H') (t : TQ H v k z) : TQ H' v k z := t.same s
theorem TQ.nq (s : Nl H H') (t : TQ H v k z) : TQ H' v k z := t.nl s
theorem Tqs.s (s : Same H H') (t : Tqs H k vs zs) : Tqs H' k vs zs := t.same s
theorem QAt.s (s : Same H H') (t : QAt C H p k z) : QAt C H' p k z := t.same s
theorem Mks.s (s : Same H H') (t : Mks C H k vs zs) : Mks C H' k vs zs := t.same s
theorem QO.s (s : Same H H') (t : QO C H k v e) : QO C H' k v e := t.same s
theorem TOq.s (s : Same H H') (t : TOq H k v e) : TOq H' k v e := t.same s
theorem TOq.mono (l : k ≤ j) : ∀ {e : Option Q2}, TOq H k v e → TOq H j v e
  | none, h => h
  | some _, h => TQ.mono h l
theorem LadAt.s (s : Same H H') (t : LadAt K CM CL H p k zs r lo hi) : LadAt K CM CL H' p k zs r lo hi := t.same s
theorem LadAt.mono (t : LadAt K CM CL H p k zs r lo hi) (l : k ≤ j) : LadAt K CM CL H p j zs r lo hi := by
  obtain ⟨⟨dx, T, ps, u, w, h1, h2, h3, h4, h5⟩, a1, a2, a3, a4, a5⟩ := t
  exact ⟨⟨dx, T, ps, u, w, h1, h2, h3.mono l, h4.mono l, h5.mono l⟩, a1, a2, a3, a4, a5⟩
theorem GrdAt.s (s : Same H H') (t : GrdAt K CM CL CG H p k L1 L2 z) : GrdAt K CM CL CG H' p k L1 L2 z := t.same s
theorem SidesAt.s (s : Same H H') (t : SidesAt H h p k zs ys z) : SidesAt H' h p k zs ys z := t.same s
theorem HandAt.s (s : Same H H') (t : HandAt H h n) : HandAt H' h n := t.same s
theorem TQ.u {u : HO} {b : Addr} (np : H b = none) (t : TQ H v k z) : TQ (upd H b u) v k z := t.same (same1 np)
theorem Tqs.u {u : HO} {b : Addr} (np : H b = none) (t : Tqs H k vs zs) : Tqs (upd H b u) k vs zs := t.same (same1 np)
theorem QAt.u {u : HO} {b : Addr} (np : H b = none) (t : QAt C H p k z) : QAt C (upd H b u) p k z := t.same (same1 np)
theorem Mks.u {u : HO} {b : Addr} (np : H b = none) (t : Mks C H k vs zs) : Mks C (upd H b u) k vs zs := t.same (same1 np)
theorem QO.u {u : HO} {b : Addr} (np : H b = none) (t : QO C H k v e) : QO C (upd H b u) k v e := t.same (same1 np)
theorem TOq.u {u : HO} {b : Addr} (np : H b = none) (t : TOq H k v e) : TOq (upd H b u) k v e := t.same (same1 np)
theorem LadAt.u {u : HO} {b : Addr} (np : H b = none) (t : LadAt K CM CL H p k zs r lo hi) : LadAt K CM CL (upd H b u) p k zs r lo hi := t.same (same1 np)
theorem GrdAt.u {u : HO} {b : Addr} (np : H b = none) (t : GrdAt K CM CL CG H p k L1 L2 z) : GrdAt K CM CL CG (upd H b u) p k L1 L2 z := t.same (same1 np)
theorem SidesAt.u {u : HO} {b : Addr} (np : H b = none) (t : SidesAt H h p k zs ys z) : SidesAt (upd H b u) h p k zs ys z := t.same (same1 np)
theorem HandAt.u {u : HO} {b : Addr} (np : H b = none) (t : HandAt H h n) : HandAt (upd H b u) h n := t.same (same1 np)
end
/-- each of these values is a fraction -/
def AllTQ (H : Hp) (k : Nat) (vs : List V) : Prop := ∀ x ∈ vs, ∃ z, TQ H x k z
theorem AllTQ.nil {H : Hp} {k : Nat} : AllTQ H k [] := fun x hx => by simp at hx
theorem AllTQ.cons {H : Hp} {k : Nat} {v : V} {z : Q2} {vs : List V} (t : TQ H v k z) (m : AllTQ H k vs) : AllTQ H k (v :: vs) := fun x hx => by
  rcases List.mem_cons.mp hx with e | e
  · rw [e]; exact ⟨z, t⟩
  · exact m x e
/-! ### a rule, a least and a most, as the laws draw them in fractions -/
structure ChartAt (H : Hp) (T : Addr) (k : Nat) (r : Str) (lo hi : Option Q2) : Prop where
  ob : ∃ u w, H T = some (.tup [.str r, u, w]) ∧ TOq H k u lo ∧ TOq H k w hi
  rule : IsRule r
  span : spanB lo hi = true
section
variable {H H' : Hp} {T h : Addr} {k n : Nat} {r : Str} {lo hi : Option Q2}
theorem ChartAt.same (c : ChartAt H T k r lo hi) (s : Same H H') : ChartAt H' T k r lo hi := by
  obtain ⟨⟨u, w, h1, h2, h3⟩, h4, h5⟩ := c
  exact ⟨⟨u, w, s _ _ h1, h2.same s, h3.same s⟩, h4, h5⟩
theorem ChartAt.kp (c : ChartAt H T k r lo hi) (hh : HandAt H h n) (s : Kp h H H') : ChartAt H' T k r lo hi := by
  obtain ⟨⟨u, w, h1, h2, h3⟩, h4, h5⟩ := c
  exact ⟨⟨u, w, s.get hh h1 rfl, h2.kp hh s, h3.kp hh s⟩, h4, h5⟩
theorem ChartAt.u {u : HO} {b : Addr} (np : H b = none) (c : ChartAt H T k r lo hi) : ChartAt (upd H b u) T k r lo hi := c.same (same1 np)
theorem ChartAt.s (s : Same H H') (c : ChartAt H T k r lo hi) : ChartAt H' T k r lo hi := c.same s
end
def PosE (o : Option Q2) : Prop := ∀ a, o = some a → 0 < a.2
theorem midq_pos : ∀ {zs : List Q2}, (∀ z ∈ zs, 0 < z.2) → ∀ z ∈ midq zs, 0 < z.2
  | [], _, z, hz => by simp [midq] at hz
  | [_], _, z, hz => by simp [midq] at hz
  | a :: b :: r, hp, z, hz => by
    have hz' : z ∈ qhalf a b :: midq (b :: r) := hz
    rcases List.mem_cons.mp hz' with e | e
    · rw [e, qhalf_eq]
      have := hp a (by simp)
      have := hp b (by simp)
      have := Int.mul_pos (hp a (by simp)) (hp b (by simp))
      show 0 < a.2 * b.2 * 2
      omega
    · exact midq_pos (fun y hy => hp y (by simp [hy])) z e
theorem inO_congr {lo hi : Option Q2} {x x' : Q2} (hl : PosE lo) (hh : PosE hi) (h : Re x x') : inO lo hi x = inO lo hi x' := by
  have e1 : loOk lo x = loOk lo x' := by
    cases lo with
    | none => rfl
    | some a =>
      show (!ltq x a) = (!ltq x' a)
      rw [ltq_congr h (Re.refl (hl a rfl))]
  have e2 : hiOk hi x = hiOk hi x' := by
    cases hi with
    | none => rfl
    | some a =>
      show (!ltq a x) = (!ltq a x')
      rw [ltq_congr (Re.refl (hh a rfl)) h]
  unfold inO
  rw [e1, e2]
theorem sizeQ_congr {zs : List Q2} {r : Str} {lo hi : Option Q2} {x x' : Q2} (hp : ∀ z ∈ zs, 0 < z.2) (hl : PosE lo) (hh : PosE hi) (h : Re x x') : sizeQ zs r lo hi x = sizeQ zs r lo hi x' := by
  have e1 := inO_congr hl hh h
  have e2 : sizeR zs r x = sizeR zs r x' := by
    have c1 : zs.countP (fun a => ltq a x) = zs.countP (fun a => ltq a x') := List.countP_congr fun a ha => by rw [ltq_congr (Re.refl (hp a ha)) h]
    have c2 : zs.countP (fun a => leq a x) = zs.countP (fun a => leq a x') := List.countP_congr fun a ha => by rw [leq_congr (Re.refl (hp a ha)) h]
    have c3 : (midq zs).countP (fun a => leq a x) = (midq zs).countP (fun a => leq a x') := List.countP_congr fun a ha => by rw [leq_congr (Re.refl (midq_pos hp a ha)) h]
    unfold sizeR
    rw [c1, c2, c3]
  unfold sizeQ
  rw [e1, e2]
theorem sizeQ_lt {zs : List Q2} {r : Str} {lo hi : Option Q2} {x : Q2} {i : Nat} (h : sizeQ zs r lo hi x = some i) : i < zs.length := by
  unfold sizeQ at h
  split at h
  · split at h
    · rename_i c
      have e := Option.some.inj h
      omega
    · cases h
  · cases h
/-- a pair of sizes, or None -/
def OwnV (H : Hp) (v : V) : Option (Nat × Nat) → Prop
  | none => v = .non
  | some x => ∃ T, v = .ref T ∧ H T = some (.tup [.int (x.1 : Int), .int (x.2 : Int)])
theorem OwnV.s {H H' : Hp} {v : V} (s : Same H H') : ∀ {o : Option (Nat × Nat)}, OwnV H v o → OwnV H' v o
  | none, h => h
  | some _, ⟨T, h1, h2⟩ => ⟨T, h1, s _ _ h2⟩
theorem OwnV.alike {K : PySem.W.Frag} {H : Hp} {v w : V} : ∀ {o : Option (Nat × Nat)}, OwnV H v o → OwnV H w o → SameV K H 1 v w
  | none, h, g => by
    cases h; cases g
    exact SameV.atom (.inr (.inr (.inl rfl))) 1
  | some x, ⟨T, h1, h2⟩, ⟨T', g1, g2⟩ => by
    subst h1 g1
    exact SameV.ints (ss := [(x.1 : Int), (x.2 : Int)]) 0 (SqT.of h2) (SqT.of g2) (Nat.le_of_ble_eq_true rfl)
/-! ### the numbers of the marks, first and last -/
end My
namespace My
open PySem PySem.Spec PyProof.Rows L2
/-! ### cuts of three stretches -/
theorem lt_w {x y w : Int} (hw : 0 < w) : x < y ↔ x * w < y * w := ⟨fun h => Int.mul_lt_mul_of_pos_right h hw, fun h => Int.lt_of_mul_lt_mul_right h (Int.le_of_lt hw)⟩
theorem eq_w {x y w : Int} (hw : 0 < w) : x = y ↔ x * w = y * w := ⟨fun h => by rw [h], fun h => Int.eq_of_mul_eq_mul_right (by omega) h⟩
/-- three fractions by three whole numbers -/
structure Ord3 (a b c : Q2) (A B C : Int) : Prop where
  ab : ltq a b = decide (A < B)
  ba : ltq b a = decide (B < A)
  eab : eqq a b = decide (A = B)
  eba : eqq b a = decide (B = A)
  bc : ltq b c = decide (B < C)
  cb : ltq c b = decide (C < B)
  ebc : eqq b c = decide (B = C)
  ecb : eqq c b = decide (C = B)
  ac : ltq a c = decide (A < C)
  ca : ltq c a = decide (C < A)
  eac : eqq a c = decide (A = C)
  eca : eqq c a = decide (C = A)
theorem ltw {a b : Q2} {w : Int} (hw : 0 < w) {A B : Int} (h1 : A = a.1 * b.2 * w) (h2 : B = b.1 * a.2 * w) : ltq a b = decide (A < B) := by
  unfold ltq; rw [h1, h2]; exact decide_eq_decide.mpr (lt_w hw)
theorem eqw {a b : Q2} {w : Int} (hw : 0 < w) {A B : Int} (h1 : A = a.1 * b.2 * w) (h2 : B = b.1 * a.2 * w) : eqq a b = decide (A = B) := by
  unfold eqq; rw [h1, h2]; exact decide_eq_decide.mpr (eq_w hw)
theorem ord3 {a b c : Q2} (ha : 0 < a.2) (hb : 0 < b.2) (hc : 0 < c.2) : Ord3 a b c (a.1 * b.2 * c.2) (b.1 * a.2 * c.2) (c.1 * a.2 * b.2) := by
  have z1 : b.1 * a.2 * c.2 = b.1 * c.2 * a.2 := by rw [Int.mul_assoc, Int.mul_comm a.2, Int.mul_assoc]
  have z2 : c.1 * a.2 * b.2 = c.1 * b.2 * a.2 := by rw [Int.mul_assoc, Int.mul_comm a.2, Int.mul_assoc]
  have z3 : a.1 * b.2 * c.2 = a.1 * c.2 * b.2 := by rw [Int.mul_assoc, Int.mul_comm b.2, Int.mul_assoc]
  exact ⟨ltw hc rfl rfl, ltw hc rfl rfl, eqw hc rfl rfl, eqw hc rfl rfl, ltw ha z1 z2, ltw ha z2 z1, eqw ha z1 z2, eqw ha z2 z1, ltw hb z3 rfl, ltw hb rfl z3, eqw hb z3 rfl, eqw hb rfl z3⟩
theorem Alike.of {x y : Q2} {i j : Bool} (h : Re x y) (e : i = j) : Alike (some x, i) (some y, j) := ⟨h, fun _ => e⟩
theorem Alike.refl {x : Option Q2 × Bool} (h : PosO x.1) : Alike x x := ⟨ReO.refl h, fun _ => rfl⟩
theorem Alike.symm {x y : Option Q2 × Bool} (h : Alike x y) : Alike y x := ⟨h.1.symm, fun e => (h.2 (by rw [h.1.isS]; exact e)).symm⟩

theorem cutLo_pos {a b : Option Q2} {i j : Bool} (ha : PosO a) (hb : PosO b) : PosO (cutLo a i b j).1 := by
  cases a with
  | none => exact hb
  | some a => cases b with
    | none => exact ha
    | some b =>
      show PosO (if ltq a b then (some b, j) else if eqq a b then (some a, i && j) else (some a, i)).1
      split
      · exact hb
      · split <;> exact ha
theorem cutHi_pos {a b : Option Q2} {i j : Bool} (ha : PosO a) (hb : PosO b) : PosO (cutHi a i b j).1 := by
  cases a with
  | none => exact hb
  | some a => cases b with
    | none => exact ha
    | some b =>
      show PosO (if ltq b a then (some b, j) else if eqq a b then (some a, i && j) else (some a, i)).1
      split
      · exact hb
      · split <;> exact ha
theorem in_some {lo hi : Option Q2} {li hj : Bool} {x : Q2} (h1 : PosO lo) (h2 : PosO hi) (hx : 0 < x.2) (a : loIn lo li x = true) (b : hiIn hi hj x = true) : someB lo hi li hj = true := by
  cases lo with
  | none => rfl
  | some l =>
    cases hi with
    | none => rfl
    | some h =>
      have o := ord3 (a := l) (b := h) (c := x) h1 h2 hx
      revert o
      generalize l.1 * h.2 * x.2 = A
      generalize h.1 * l.2 * x.2 = B
      generalize x.1 * l.2 * h.2 = C
      intro o
      have a : (ltq l x || (li && eqq l x)) = true := a
      have b : (ltq x h || (hj && eqq x h)) = true := b
      show (ltq l h || (eqq l h && li && hj)) = true
      rw [o.ac, o.eac] at a
      rw [o.cb, o.ecb] at b
      rw [o.ab, o.eab]
      simp only [Bool.or_eq_true, Bool.and_eq_true, decide_eq_true_eq] at a b ⊢
      rcases a with a | ⟨a1, a2⟩ <;> rcases b with b | ⟨b1, b2⟩
      · exact .inl (by omega)
      · exact .inl (by omega)
      · exact .inl (by omega)
      · exact .inr ⟨⟨by omega, a1⟩, b1⟩
theorem some_in {lo hi : Option Q2} {li hj : Bool} (h1 : PosO lo) (h2 : PosO hi) (h : someB lo hi li hj = true) : ∃ x : Q2, 0 < x.2 ∧ loIn lo li x = true ∧ hiIn hi hj x = true := by
  cases lo with
  | none =>
    cases hi with
    | none => exact ⟨(0, 1), by decide, rfl, rfl⟩
    | some b =>
      have h2 : 0 < b.2 := h2
      refine ⟨(b.1 - b.2, b.2), h2, rfl, ?_⟩
      show (ltq (b.1 - b.2, b.2) b || (hj && eqq (b.1 - b.2, b.2) b)) = true
      have : ltq (b.1 - b.2, b.2) b = true := by
        unfold ltq
        exact decide_eq_true ((lt_w h2).mp (by omega))
      rw [this]; rfl
  | some a =>
    have h1 : 0 < a.2 := h1
    cases hi with
    | none =>
      refine ⟨(a.1 + a.2, a.2), h1, ?_, rfl⟩
      show (ltq a (a.1 + a.2, a.2) || (li && eqq a (a.1 + a.2, a.2))) = true
      have : ltq a (a.1 + a.2, a.2) = true := by
        unfold ltq
        exact decide_eq_true ((lt_w h1).mp (by omega))
      rw [this]; rfl
    | some b =>
      have h2 : 0 < b.2 := h2
      have h : (ltq a b || (eqq a b && li && hj)) = true := h
      simp only [Bool.or_eq_true, Bool.and_eq_true] at h
      rcases h with h | ⟨⟨h, e1⟩, e2⟩
      · have h0 : a.1 * b.2 < b.1 * a.2 := of_decide_eq_true h
        have p2 : 0 < a.2 * b.2 := Int.mul_pos h1 h2
        refine ⟨(a.1 * b.2 + b.1 * a.2, 2 * (a.2 * b.2)), by show 0 < 2 * (a.2 * b.2); omega, ?_, ?_⟩
        · show (ltq a _ || (li && eqq a _)) = true
          have : ltq a (a.1 * b.2 + b.1 * a.2, 2 * (a.2 * b.2)) = true := by
            unfold ltq
            refine decide_eq_true ?_
            show a.1 * (2 * (a.2 * b.2)) < (a.1 * b.2 + b.1 * a.2) * a.2
            have e1 : a.1 * (2 * (a.2 * b.2)) = (2 * (a.1 * b.2)) * a.2 := by grind
            rw [e1]
            exact (lt_w h1).mp (by omega)
          rw [this]; rfl
        · show (ltq _ b || (hj && eqq _ b)) = true
          have : ltq (a.1 * b.2 + b.1 * a.2, 2 * (a.2 * b.2)) b = true := by
            unfold ltq
            refine decide_eq_true ?_
            show (a.1 * b.2 + b.1 * a.2) * b.2 < b.1 * (2 * (a.2 * b.2))
            have e1 : b.1 * (2 * (a.2 * b.2)) = (2 * (b.1 * a.2)) * b.2 := by grind
            rw [e1]
            exact (lt_w h2).mp (by omega)
          rw [this]; rfl
      · refine ⟨a, h1, ?_, ?_⟩
        · show (ltq a a || (li && eqq a a)) = true
          rw [e1, eqq_self]; simp
        · show (ltq a b || (hj && eqq a b)) = true
          rw [e2, h]; simp
theorem loIn_flag {x : Option Q2 × Bool} {q : Q2} : loIn x.1 (x.2 && x.1.isSome) q = loIn x.1 x.2 q := by
  obtain ⟨c, i⟩ := x
  cases c with
  | none => rfl
  | some a => show (ltq a q || ((i && true) && eqq a q)) = _; rw [Bool.and_true]; rfl
theorem hiIn_flag {x : Option Q2 × Bool} {q : Q2} : hiIn x.1 (x.2 && x.1.isSome) q = hiIn x.1 x.2 q := by
  obtain ⟨c, i⟩ := x
  cases c with
  | none => rfl
  | some a => show (ltq q a || ((i && true) && eqq q a)) = _; rw [Bool.and_true]; rfl
/-- a Measure whose numbers are not too great -/
def PtM (CM : Addr) (H : Hp) (y : V) : Prop := ∃ (q : Addr) (x : Q2), y = .ref q ∧ MAt CM H q x.1 x.2 ∧ 0 < x.2 ∧ Sz 20000 x.1 ∧ Sz 20000 x.2
theorem PtM.nl {CM : Addr} {H H' : Hp} {y : V} (h : PtM CM H y) (s : Nl H H') : PtM CM H' y := by
  obtain ⟨q, x, e, ⟨d, m⟩, r⟩ := h
  exact ⟨q, x, e, ⟨d, s _ _ m rfl⟩, r⟩
theorem PtM.same {CM : Addr} {H H' : Hp} {y : V} (h : PtM CM H y) (s : Same H H') : PtM CM H' y := h.nl (Nl.of s)
end My
namespace My
open PySem PySem.Spec PyProof.Rows L2
/-! ### which measures a size's stretch holds -/
theorem loIn_t (a x : Q2) : loIn (some a) true x = leq a x := by
  show (ltq a x || (true && eqq a x)) = (ltq a x || eqq a x)
  rw [Bool.true_and]
theorem loIn_f (a x : Q2) : loIn (some a) false x = ltq a x := by
  show (ltq a x || (false && eqq a x)) = ltq a x
  rw [Bool.false_and, Bool.or_false]
theorem hiIn_t (a x : Q2) : hiIn (some a) true x = !ltq a x := by
  show (ltq x a || (true && eqq x a)) = _
  rw [Bool.true_and]
  exact leq_not
theorem hiIn_f (a x : Q2) : hiIn (some a) false x = !leq a x := by
  show (ltq x a || (false && eqq x a)) = _
  rw [Bool.false_and, Bool.or_false, leq_not (a := a), Bool.not_not]
/-- what comes to a size by the rule alone -/
def rulIn (zs : List Q2) (r : Str) (n : Nat) (x : Q2) : Bool := loIn (rulE zs r n).1.1 (rulE zs r n).1.2 x && hiIn (rulE zs r n).2.1 (rulE zs r n).2.2 x
theorem rul_in {zs : List Q2} {r : Str} {n : Nat} {x : Q2} (hr : RiseQ zs) (hp : PosL zs) (hx : 0 < x.2) (hn : n < zs.length) : rulIn zs r n x = true ↔ sizeR zs r x = (n : Int) := by
  unfold rulIn rulE sizeR
  by_cases e1 : r = "up"
  · rw [if_pos e1, if_pos e1]
    obtain ⟨a, ha⟩ := ge2 hn
    have c := cntQ (fun a => ltq a x) (down_lt hr hp hx)
    have ca := c n a ha
    show (loIn (endQ zs ((n : Int) - 1)) false x && hiIn zs[n]? true x) = true ↔ _
    rw [ha, hiIn_t]
    cases n with
    | zero =>
      rw [endQ_none (by omega)]
      show (true && !ltq a x) = true ↔ _
      cases e : ltq a x <;> simp [e] at ca ⊢ <;> omega
    | succ n =>
      obtain ⟨b, hb⟩ := ge2 (zs := zs) (n := n) (by omega)
      have cb := c n b hb
      rw [endQ_in (n := n) (by omega), hb, loIn_f]
      cases e : ltq a x <;> cases e2 : ltq b x <;> simp [e, e2] at ca cb ⊢ <;> omega
  · rw [if_neg e1, if_neg e1]
    by_cases e2 : r = "down"
    · rw [if_pos e2, if_pos e2]
      obtain ⟨a, ha⟩ := ge2 hn
      have c := cntQ (fun a => leq a x) (down_le hr hp hx)
      have ca := c n a ha
      have cl : zs.countP (fun a => leq a x) ≤ zs.length := List.countP_le_length
      show (loIn zs[n]? true x && hiIn (endQ zs ((n : Int) + 1)) false x) = true ↔ _
      rw [ha, loIn_t, endQ_in (n := n + 1) (by omega)]
      cases hb : zs[n + 1]? with
      | none =>
        have := List.getElem?_eq_none_iff.mp hb
        show (leq a x && true) = true ↔ _
        cases e : leq a x <;> simp [e] at ca ⊢ <;> omega
      | some b =>
        have cb := c (n + 1) b hb
        rw [hiIn_f]
        cases e : leq a x <;> cases e3 : leq b x <;> simp [e, e3] at ca cb ⊢ <;> omega
    · rw [if_neg e2, if_neg e2]
      have hm := midq_rise hr hp
      have hpm : PosL (midq zs) := midq_pos hp
      have c := cntQ (fun a => leq a x) (down_le hm hpm hx)
      have cl : (midq zs).countP (fun a => leq a x) ≤ (midq zs).length := List.countP_le_length
      have ml := midq_len zs
      show (loIn (endQ (midq zs) ((n : Int) - 1)) true x && hiIn (endQ (midq zs) n) false x) = true ↔ _
      rw [endQ_in (i := (n : Int)) (n := n) rfl]
      have lo : loIn (endQ (midq zs) ((n : Int) - 1)) true x = true ↔ n ≤ (midq zs).countP (fun a => leq a x) := by
        cases n with
        | zero =>
          rw [endQ_none (by omega)]
          exact ⟨fun _ => by omega, fun _ => rfl⟩
        | succ n =>
          obtain ⟨b, hb⟩ := ge2 (zs := midq zs) (n := n) (by omega)
          rw [endQ_in (n := n) (by omega), hb, loIn_t]
          exact c n b hb
      have hi : hiIn (midq zs)[n]? false x = true ↔ (midq zs).countP (fun a => leq a x) ≤ n := by
        cases hb : (midq zs)[n]? with
        | none =>
          have := List.getElem?_eq_none_iff.mp hb
          exact ⟨fun _ => by omega, fun _ => rfl⟩
        | some b =>
          have cb := c n b hb
          rw [hiIn_f]
          cases e3 : leq b x <;> simp [e3] at cb ⊢ <;> omega
      rw [Bool.and_eq_true, lo, hi]
      omega
theorem loIn_ok (lo : Option Q2) (x : Q2) : loIn lo true x = loOk lo x := by
  cases lo with
  | none => rfl
  | some a => rw [loIn_t, leq_not]; rfl
theorem hiIn_ok (hi : Option Q2) (x : Q2) : hiIn hi true x = hiOk hi x := by
  cases hi with
  | none => rfl
  | some a => rw [hiIn_t]; rfl
/-- what is in a size's stretch -/
def sizIn (zs : List Q2) (r : Str) (lo hi : Option Q2) (n : Nat) (x : Q2) : Bool := loIn (sizE zs r lo hi n).1.1 (sizE zs r lo hi n).1.2 x && hiIn (sizE zs r lo hi n).2.1 (sizE zs r lo hi n).2.2 x
/-- whether there is such a stretch -/
def sizB (zs : List Q2) (r : Str) (lo hi : Option Q2) (n : Nat) : Bool := someB (sizE zs r lo hi n).1.1 (sizE zs r lo hi n).2.1 (sizE zs r lo hi n).1.2 (sizE zs r lo hi n).2.2
structure LadQ (zs : List Q2) (r : Str) (lo hi : Option Q2) : Prop where
  rise : RiseQ zs
  pos : PosL zs
  plo : PosO lo
  phi : PosO hi
  span : spanB lo hi = true
theorem endQ_pos {zs : List Q2} (hp : PosL zs) (i : Int) : PosO (endQ zs i) := by
  unfold endQ
  split
  · cases e : zs[i.toNat]? with
    | none => trivial
    | some a => exact hp a (List.mem_of_getElem? e)
  · trivial
theorem getQ_pos {zs : List Q2} (hp : PosL zs) (i : Nat) : PosO zs[i]? := by
  cases e : zs[i]? with
  | none => trivial
  | some a => exact hp a (List.mem_of_getElem? e)
theorem rulE_pos {zs : List Q2} {r : Str} {n : Nat} (hp : PosL zs) : PosO (rulE zs r n).1.1 ∧ PosO (rulE zs r n).2.1 := by
  unfold rulE
  split
  · exact ⟨endQ_pos hp _, getQ_pos hp _⟩
  · split
    · exact ⟨getQ_pos hp _, endQ_pos hp _⟩
    · exact ⟨endQ_pos (midq_pos hp) _, endQ_pos (midq_pos hp) _⟩
theorem siz_in {zs : List Q2} {r : Str} {lo hi : Option Q2} {n : Nat} {x : Q2} (L : LadQ zs r lo hi) (hx : 0 < x.2) (hn : n < zs.length) : sizIn zs r lo hi n x = true ↔ sizeQ zs r lo hi x = some n := by
  have p := rulE_pos (r := r) (n := n) L.pos
  have a1 := cutLo_in (i := (rulE zs r n).1.2) (j := true) p.1 L.plo hx
  have a2 := cutHi_in (i := (rulE zs r n).2.2) (j := true) p.2 L.phi hx
  have e : sizIn zs r lo hi n x = (rulIn zs r n x && inO lo hi x) := by
    show (loIn (cutLo _ _ lo true).1 (cutLo _ _ lo true).2 x && hiIn (cutHi _ _ hi true).1 (cutHi _ _ hi true).2 x) = _
    rw [a1, a2, loIn_ok, hiIn_ok]
    unfold rulIn inO
    cases loIn (rulE zs r n).1.1 (rulE zs r n).1.2 x <;> cases loOk lo x <;> cases hiIn (rulE zs r n).2.1 (rulE zs r n).2.2 x <;> rfl
  rw [e, Bool.and_eq_true, rul_in L.rise L.pos hx hn]
  unfold sizeQ
  by_cases h : inO lo hi x = true
  · rw [if_pos h]
    constructor
    · rintro ⟨h1, _⟩
      rw [h1, if_pos (by omega)]
      rfl
    · intro q
      split at q
      · next c =>
        refine ⟨?_, h⟩
        have := Option.some.inj q
        omega
      · cases q
  · rw [if_neg h]
    constructor
    · rintro ⟨_, h2⟩; exact absurd h2 h
    · intro q; cases q
theorem sizE_pos {zs : List Q2} {r : Str} {lo hi : Option Q2} {n : Nat} (L : LadQ zs r lo hi) : PosO (sizE zs r lo hi n).1.1 ∧ PosO (sizE zs r lo hi n).2.1 :=
  ⟨cutLo_pos (rulE_pos L.pos).1 L.plo, cutHi_pos (rulE_pos L.pos).2 L.phi⟩
/-- there is a measure of that size just where its stretch is told -/
theorem siz_some {zs : List Q2} {r : Str} {lo hi : Option Q2} {n : Nat} (L : LadQ zs r lo hi) : sizB zs r lo hi n = true ↔ ∃ x : Q2, 0 < x.2 ∧ sizIn zs r lo hi n x = true := by
  have p := sizE_pos (n := n) L
  constructor
  · intro h
    obtain ⟨x, hx, a, b⟩ := some_in p.1 p.2 h
    exact ⟨x, hx, by unfold sizIn; rw [a, b]; rfl⟩
  · rintro ⟨x, hx, h⟩
    unfold sizIn at h
    rw [Bool.and_eq_true] at h
    exact in_some p.1 p.2 hx h.1 h.2
/-- sizes rise as measures do -/
theorem sizeR_mono {zs : List Q2} {r : Str} {x y : Q2} (hp : PosL zs) (hx : 0 < x.2) (hy : 0 < y.2) (h : ltq y x = false) : sizeR zs r x ≤ sizeR zs r y := by
  have k1 : ∀ {ms : List Q2}, PosL ms → ms.countP (fun a => ltq a x) ≤ ms.countP (fun a => ltq a y) := fun {ms} pm => List.countP_mono_left fun a ha q => by
    have pa := pm a ha
    have o := ord3 pa hx hy
    have q' : ltq a x = true := q
    show ltq a y = true
    rw [o.ab] at q'; rw [o.ac]; rw [o.cb] at h
    simp at q' h ⊢
    omega
  have k2 : ∀ {ms : List Q2}, PosL ms → ms.countP (fun a => leq a x) ≤ ms.countP (fun a => leq a y) := fun {ms} pm => List.countP_mono_left fun a ha q => by
    have pa := pm a ha
    have o := ord3 pa hx hy
    have q' : leq a x = true := q
    show leq a y = true
    rw [leq_not, o.ba] at q'; rw [leq_not, o.ca]; rw [o.cb] at h
    simp at q' h ⊢
    omega
  unfold sizeR
  split
  · have := k1 hp; omega
  · split
    · have := k2 hp; omega
    · have := k2 (midq_pos hp); omega
theorem rul_some {zs : List Q2} {r : Str} {n : Nat} (hr : RiseQ zs) (hp : PosL zs) : someB (rulE zs r n).1.1 (rulE zs r n).2.1 (rulE zs r n).1.2 (rulE zs r n).2.2 = true := by
  unfold rulE
  split
  · exact some_up hr
  · split
    · exact some_dn hr
    · exact some_nr (midq_rise hr hp)
end My
namespace My
open PySem PySem.Spec PyProof.Rows L2
/-! ### lists of numbers -/
/-! ### the sizes that fit some feet -/
structure FitsL (H : Hp) (D : Addr) (ls : List (List Int)) : Prop where
  ob : ∃ ts : List V, H D = some (.lst ts) ∧ ts.length = ls.length ∧ ∀ (i : Nat) (v : V) (l : List Int), ts[i]? = some v → ls[i]? = some l → ∃ T, v = .ref T ∧ H T = some (.tup (l.map V.int))
theorem FitsL.same {H H' : Hp} {D : Addr} {ls : List (List Int)} (a : FitsL H D ls) (s : Same H H') : FitsL H' D ls := by
  obtain ⟨ts, h1, h2, h3⟩ := a.ob
  refine ⟨ts, s _ _ h1, h2, fun i v l e1 e2 => ?_⟩
  obtain ⟨T, e, h⟩ := h3 i v l e1 e2
  exact ⟨T, e, s _ _ h⟩
theorem FitsL.at {H : Hp} {D : Addr} {ls : List (List Int)} {ts : List V} (h2 : ts.length = ls.length) (h3 : ∀ (i : Nat) (v : V) (l : List Int), ts[i]? = some v → ls[i]? = some l → ∃ T, v = .ref T ∧ H T = some (.tup (l.map V.int))) {i : Nat} {l : List Int} (h : ls[i]? = some l) : ∃ T, ts[i]? = some (.ref T) ∧ H T = some (.tup (l.map V.int)) := by
  have hi : i < ts.length := by rw [h2]; exact (List.getElem?_eq_some_iff.mp h).1
  obtain ⟨T, e, k⟩ := h3 i _ l (List.getElem?_eq_getElem hi) h
  exact ⟨T, by rw [List.getElem?_eq_getElem hi, e], k⟩
/-- the first one of which there is none -/
def BareAt (ls : List (List Int)) : Option Nat → Prop
  | none => ∀ l ∈ ls, l ≠ []
  | some n => ls[n]? = some [] ∧ ∀ j l, j < n → ls[j]? = some l → l ≠ []
theorem BareAt.uniq {ls : List (List Int)} : ∀ {o o' : Option Nat}, BareAt ls o → BareAt ls o' → o = o'
  | none, none, _, _ => rfl
  | none, some n, h, g => absurd rfl (h _ (List.mem_of_getElem? g.1))
  | some n, none, h, g => absurd rfl (g _ (List.mem_of_getElem? h.1))
  | some n, some m, h, g => by
    rcases Nat.lt_trichotomy n m with q | q | q
    · exact absurd rfl (g.2 n _ q h.1)
    · rw [q]
    · exact absurd rfl (h.2 m _ q g.1)
def firstI (ls : List (List Int)) (a : Int) : Int := ((ls.getD a.toNat []).head?).getD 0
def lastI (ls : List (List Int)) (a : Int) : Int := ((ls.getD a.toNat []).getLast?).getD 0
/-- runs: none is bare, each begins no later than it ends -/
def RunsI (ls : List (List Int)) : Prop := ∀ i : Nat, i < ls.length → ls.getD i [] ≠ [] ∧ firstI ls i ≤ lastI ls i
structure GInv (ls : List (List Int)) (done : List (Int × Int)) (ss as : List Int) : Prop where
  len : ss.length = as.length
  hits : ∀ q ∈ done, ∃ s ∈ ss, firstI ls q.2 ≤ s ∧ s ≤ q.1
  own : ∀ (j : Nat) (s a : Int), ss[j]? = some s → as[j]? = some a → (s, a) ∈ done
  ap : ∀ (j j' : Nat) (s a : Int), j < j' → ss[j]? = some s → as[j']? = some a → s < firstI ls a
theorem GInv.nil {ls : List (List Int)} : GInv ls [] [] [] := ⟨rfl, fun q h => by simp at h, fun j s a h => by simp at h, fun j j' s a _ h => by simp at h⟩
/-- the pairs of last sizes and numbers -/
structure PairsOf (ls : List (List Int)) (ps : List (Int × Int)) : Prop where
  perm : ps.Perm ((List.range ls.length).map fun i : Nat => (lastI ls i, (i : Int)))
  srt : ∀ (i j : Nat) (p q : Int × Int), i < j → ps[i]? = some p → ps[j]? = some q → p.1 ≤ q.1
theorem PairsOf.mem {ls : List (List Int)} {ps : List (Int × Int)} (h : PairsOf ls ps) {q : Int × Int} : q ∈ ps ↔ ∃ i : Nat, i < ls.length ∧ q = (lastI ls i, (i : Int)) := by
  rw [h.perm.mem_iff, List.mem_map]
  constructor
  · rintro ⟨i, hi, e⟩; exact ⟨i, List.mem_range.mp hi, e.symm⟩
  · rintro ⟨i, hi, e⟩; exact ⟨i, List.mem_range.mpr hi, e.symm⟩
theorem GInv.rise {ls : List (List Int)} {ps : List (Int × Int)} {k : Nat} {ss as : List Int} (P : PairsOf ls ps) (R : RunsI ls) (g : GInv ls (ps.take k) ss as) : ∀ (j j' : Nat) (s s' : Int), j < j' → ss[j]? = some s → ss[j']? = some s' → s < s' := fun j j' s s' hj h h' => by
  have l := (List.getElem?_eq_some_iff.mp h').1
  obtain ⟨a', ha'⟩ := geI (zs := as) (n := j') (by rw [← g.len]; exact l)
  have h1 := g.ap j j' s a' hj h ha'
  have h2 := g.own j' s' a' h' ha'
  obtain ⟨i, hi, e⟩ := P.mem.mp (List.mem_of_mem_take h2)
  obtain ⟨rfl, rfl⟩ := Prod.mk.inj e
  have := (R i hi).2
  omega
theorem GInv.take {ls : List (List Int)} {ps : List (Int × Int)} {k : Nat} {ss as : List Int} {b n : Int} (P : PairsOf ls ps) (R : RunsI ls) (hk : ps[k]? = some (b, n)) (g : GInv ls (ps.take k) ss as) (h : ∀ s, ss.getLast? = some s → s < firstI ls n) : GInv ls (ps.take (k + 1)) (ss ++ [b]) (as ++ [n]) := by
  have e : ps.take (k + 1) = ps.take k ++ [(b, n)] := by rw [List.take_add_one, hk]; rfl
  obtain ⟨i, hi, ei⟩ := P.mem.mp (List.mem_of_getElem? hk)
  obtain ⟨rfl, rfl⟩ := Prod.mk.inj ei
  refine ⟨by rw [List.length_append, List.length_append, g.len]; rfl, fun q hq => ?_, fun j s' a h1 h2 => ?_, fun j j' s' a hj h1 h2 => ?_⟩
  · rw [e] at hq
    rcases List.mem_append.mp hq with hq | hq
    · obtain ⟨s, hs, q1⟩ := g.hits q hq
      exact ⟨s, List.mem_append.mpr (.inl hs), q1⟩
    · have : q = (lastI ls (i : Int), (i : Int)) := by simpa using hq
      subst this
      exact ⟨lastI ls i, by simp, (R i hi).2, Int.le_refl _⟩
  · rw [e]
    by_cases hlt : j < ss.length
    · rw [List.getElem?_append_left hlt] at h1
      rw [List.getElem?_append_left (by rw [← g.len]; exact hlt)] at h2
      exact List.mem_append.mpr (.inl (g.own j s' a h1 h2))
    · have l1 := (List.getElem?_eq_some_iff.mp h1).1
      rw [List.length_append, List.length_singleton] at l1
      have ej : j = ss.length := by omega
      rw [ej, List.getElem?_append_right (Nat.le_refl _), Nat.sub_self] at h1
      rw [ej, g.len, List.getElem?_append_right (Nat.le_refl _), Nat.sub_self] at h2
      have h1 : lastI ls i = s' := by simpa using h1
      have h2 : (i : Int) = a := by simpa using h2
      rw [← h1, ← h2]
      simp
  · have l2 := (List.getElem?_eq_some_iff.mp h2).1
    rw [List.length_append, List.length_singleton, ← g.len] at l2
    have h1' : ss[j]? = some s' := by
      rw [List.getElem?_append_left (by omega)] at h1; exact h1
    by_cases hlt : j' < ss.length
    · rw [List.getElem?_append_left (by rw [← g.len]; exact hlt)] at h2
      exact g.ap j j' s' a hj h1' h2
    · have ej : j' = ss.length := by omega
      rw [ej, g.len, List.getElem?_append_right (Nat.le_refl _), Nat.sub_self] at h2
      have h2 : (i : Int) = a := by simpa using h2
      rw [← h2]
      have hs : ss[ss.length - 1]? = ss.getLast? := List.getLast?_eq_getElem?.symm
      obtain ⟨s, hs2⟩ := geI (zs := ss) (n := ss.length - 1) (by omega)
      have hlast := h s (by rw [← hs]; exact hs2)
      by_cases q : j = ss.length - 1
      · rw [q, hs2] at h1'
        cases h1'
        exact hlast
      · have := g.rise P R j (ss.length - 1) s' s (by omega) h1' hs2
        omega
theorem idx_sorted {n : Nat} {c : Nat → Bool} : (idx n c).Pairwise (· < ·) := by
  unfold idx
  rw [List.pairwise_map]
  refine List.Pairwise.imp ?_ (List.Pairwise.filter c List.pairwise_lt_range)
  intro a b h
  omega
/-! ### tuples of the heap: sums and slices -/
section
variable {X : Cx}
end
/-! ### fractions as rational numbers -/
def toR (z : Q2) : Rat := (z.1 : Rat) / (z.2 : Rat)
theorem posR {n : Int} (h : 0 < n) : (0 : Rat) < (n : Rat) := by
  have := Rat.intCast_lt_intCast.mpr h
  simpa using this
section
variable {a b z w x y : Q2}
theorem div_ltR {a b c d : Int} (hb : 0 < b) (hd : 0 < d) : ((a : Rat) / b < (c : Rat) / d) ↔ (a : Rat) * d < c * b := by
  have hb := posR hb
  have hd := posR hd
  constructor
  · intro h
    have e1 : (a : Rat) * d = (a / b) * (b * d) := by grind
    have e2 : (c : Rat) * b = (c / d) * (b * d) := by grind
    rw [e1, e2]
    exact Rat.mul_lt_mul_of_pos_right h (Rat.mul_pos hb hd)
  · intro h
    by_cases g : (c : Rat) / d ≤ (a : Rat) / b
    · have := Rat.mul_le_mul_of_nonneg_right g (Rat.le_of_lt (Rat.mul_pos hb hd))
      have e1 : (a : Rat) * d = (a / b) * (b * d) := by grind
      have e2 : (c : Rat) * b = (c / d) * (b * d) := by grind
      grind
    · grind
theorem ltq_R (ha : 0 < a.2) (hb : 0 < b.2) : ltq a b = true ↔ toR a < toR b := by
  unfold toR
  rw [div_ltR ha hb]
  unfold ltq
  rw [decide_eq_true_iff, ← Rat.intCast_mul, ← Rat.intCast_mul, Rat.intCast_lt_intCast]
theorem leq_R (ha : 0 < a.2) (hb : 0 < b.2) : leq a b = true ↔ toR a ≤ toR b := by
  rw [leq_not]
  cases e : ltq b a with
  | true =>
    have := (ltq_R hb ha).mp e
    constructor
    · intro h; simp at h
    · intro h; grind
  | false =>
    have : ¬ toR b < toR a := fun q => by rw [(ltq_R hb ha).mpr q] at e; cases e
    constructor
    · intro _; grind
    · intro _; rfl
theorem re_R (h : Re z w) : toR z = toR w := by
  obtain ⟨h1, h2, h3⟩ := h
  unfold toR
  have p1 := posR h1
  have p2 := posR h2
  have e : (z.1 : Rat) * (w.2 : Rat) = (w.1 : Rat) * (z.2 : Rat) := by rw [← Rat.intCast_mul, ← Rat.intCast_mul, h3]
  grind
theorem re_of_R (h1 : 0 < z.2) (h2 : 0 < w.2) (h : toR z = toR w) : Re z w := by
  refine ⟨h1, h2, ?_⟩
  unfold toR at h
  have p1 := posR h1
  have p2 := posR h2
  have e : (z.1 : Rat) * (w.2 : Rat) = (w.1 : Rat) * (z.2 : Rat) := by grind
  rw [← Rat.intCast_mul, ← Rat.intCast_mul] at e
  exact Rat.intCast_inj.mp e
theorem add_R (ha : 0 < a.2) (hb : 0 < b.2) : toR (qadd a b) = toR a + toR b := by
  unfold toR qadd
  have p1 := posR ha
  have p2 := posR hb
  simp only [Rat.intCast_add, Rat.intCast_mul]
  grind
theorem sub_R (ha : 0 < a.2) (hb : 0 < b.2) : toR (qsub a b) = toR a - toR b := by
  unfold toR qsub
  have p1 := posR ha
  have p2 := posR hb
  simp only [Rat.intCast_sub, Rat.intCast_mul]
  grind
theorem half_R (ha : 0 < a.2) (hb : 0 < b.2) : toR (qhalf a b) = (toR a + toR b) / 2 := by
  rw [qhalf_eq]
  unfold toR
  have p1 := posR ha
  have p2 := posR hb
  simp only [Rat.intCast_add, Rat.intCast_mul]
  grind
theorem nn_R (ha : 0 < a.2) : 0 ≤ a.1 ↔ 0 ≤ toR a := by
  have p : 0 < ((0, 1) : Q2).2 := by decide
  have h := leq_R (a := (0, 1)) (b := a) p ha
  have e : toR (0, 1) = 0 := by unfold toR; grind
  rw [e] at h
  rw [← h, leq_not]
  unfold ltq
  simp
end
theorem Re.nn {z w : Q2} (r : Re z w) (h : 0 ≤ w.1) : 0 ≤ z.1 := by
  rw [nn_R r.1, re_R r]
  exact (nn_R r.2.1).mp h
section
variable {zs : List Q2} {a z x y e w : Q2} {i : Nat}
end
/-! ### lists of tuples of numbers as data -/
theorem rm65 {k : Nat} {A : Around} (r : Room k A) : A.units + 65 < cLine := by have := r.un; omega
section
variable {X : Cx} {K : PySem.W.Frag}
theorem notInDK (hu : X.A.units + 65 < cLine) (hK : X.K = K := by rfl) : OpR X (compareOp .NotIn) (rNotInD K) := by subst hK; exact op_notInD hu
end
theorem eqvAll_ints : ∀ a b : List Int, PyData.eqvAll (a.map PyData.int) (b.map PyData.int) = decide (a = b)
  | [], [] => by simp [PyData.eqvAll]
  | [], _ :: _ => by simp [PyData.eqvAll]
  | _ :: _, [] => by simp [PyData.eqvAll]
  | x :: a, y :: b => by
    have e : (x == y) = decide (x = y) := by rw [Bool.eq_iff_iff]; simp
    simp [PyData.eqvAll, PyData.eqv, eqvAll_ints a b, e]
theorem eqv_intsD (a b : List Int) : PyData.eqv (intsD a) (intsD b) = decide (a = b) := by
  unfold intsD
  simp [PyData.eqv, eqvAll_ints]
theorem dpAll_of {α : Type} {K : PySem.W.Frag} {H : Hp} (f : α → PyData) : ∀ {ts : List V} {ls : List α}, ts.length = ls.length → (∀ (i : Nat) (v : V) (l : α), ts[i]? = some v → ls[i]? = some l → Dp K H v (f l)) → DpAll K H ts (ls.map f)
  | [], [], _, _ => .nil
  | [], _ :: _, h, _ => by simp at h
  | _ :: _, [], h, _ => by simp at h
  | t :: ts, l :: ls, h, g => .cons (g 0 t l rfl rfl) (dpAll_of f (by simpa using h) fun i v l' h1 h2 => g (i + 1) v l' (by simpa using h1) (by simpa using h2))
theorem FitsL.dp {K : PySem.W.Frag} {H : Hp} {D : Addr} {ls : List (List Int)} (a : FitsL H D ls) : Dp K H (.ref D) (.list (ls.map fun l => intsD l)) := by
  obtain ⟨ts, h1, h2, h3⟩ := a.ob
  refine .lst (SqL.of h1) (dpAll_of (fun l => intsD l) h2 fun i v l e1 e2 => ?_)
  obtain ⟨T, rfl, h⟩ := h3 i v l e1 e2
  exact dpT h
/-! ### a set of a tuple of numbers -/
/-! ### looked at ahead of a step (apply fails at once where exact, refine and show take seconds) -/
theorem eq_id {α : Sort _} {a b : α} (h : a = b) : a = b := h
theorem ile_id {a b : Int} (h : a ≤ b) : a ≤ b := h
theorem ilt_id {a b : Int} (h : a < b) : a < b := h
theorem nle_id {a b : Nat} (h : a ≤ b) : a ≤ b := h
theorem nlt_id {a b : Nat} (h : a < b) : a < b := h
section
variable {K : PySem.W.Frag} {C CM CL CG p h a L1 L2 : Addr} {H H' : Hp} {v : V} {k n : Nat} {z : Q2} {vs : List V} {zs ys : List Q2} {e : Option Q2} {r : Str} {lo hi : Option Q2} {o : Option HO} {x : HO} {P Q : Prop}
end
/-! ### what follows a statement, kept out of sight while it is read -/
/-! ### a comprehension over a list that draws, some left out -/
theorem AllTQ.nl {H H' : Hp} {k : Nat} {vs : List V} (m : AllTQ H k vs) (s : Nl H H') : AllTQ H' k vs := fun x hx => by
  obtain ⟨z, t⟩ := m x hx
  exact ⟨z, t.nl s⟩
theorem AllTQ.same {H H' : Hp} {k : Nat} {vs : List V} (m : AllTQ H k vs) (s : Same H H') : AllTQ H' k vs := m.nl (Nl.of s)
theorem AllTQ.mono {H : Hp} {k j : Nat} {vs : List V} (m : AllTQ H k vs) (l : k ≤ j) : AllTQ H j vs := fun x hx => by
  obtain ⟨z, t⟩ := m x hx
  exact ⟨z, t.mono l⟩
theorem Kp.up2 {h D : Addr} {H H1 : Hp} {u : HO} (k : Kp h H H1) (hD : H D = none) : Kp h H (upd H1 D u) := fun c o e n => by
  rw [upd_ne (ne_of_none e hD)]
  exact k c o e n
end My
namespace My
open PySem PySem.Spec PyProof.Rows L2
/-! ### the stretches of a ladder's sizes, held -/
theorem MAt.nl {C p : Addr} {H H' : Hp} {t u : Int} (a : MAt C H p t u) (s : Nl H H') : MAt C H' p t u := by
  obtain ⟨dx, h⟩ := a
  exact ⟨dx, s _ _ h rfl⟩
theorem MsV.nl {C : Addr} {H H' : Hp} {v : V} (s : Nl H H') : ∀ {e : Option Q2}, MsV C H v e → MsV C H' v e
  | none, h => h
  | some _, ⟨p, h1, h2⟩ => ⟨p, h1, h2.nl s⟩
theorem StAt.nl {CM CS p : Addr} {H H' : Hp} {lo hi : Option Q2} {li hj : Bool} (a : StAt CM CS H p lo hi li hj) (s : Nl H H') : StAt CM CS H' p lo hi li hj := by
  obtain ⟨⟨dx, l, h, h1, h2, h3⟩, a1, a2, a3, a4⟩ := a
  exact ⟨⟨dx, l, h, s _ _ h1 rfl, h2.nl s, h3.nl s⟩, a1, a2, a3, a4⟩
theorem StQ.nl {CM CS p : Addr} {H H' : Hp} {x y : Option Q2 × Bool} (a : StQ CM CS H p x y) (s : Nl H H') : StQ CM CS H' p x y := by
  obtain ⟨lo, hi, h1, h2, h3⟩ := a
  exact ⟨lo, hi, h1.nl s, h2, h3⟩
/-- the stretch of a size, or None -/
def RunV (CM CS : Addr) (H : Hp) (v : V) (zs : List Q2) (r : Str) (lo hi : Option Q2) (n : Nat) : Prop :=
  (sizB zs r lo hi n = true ∧ ∃ p, v = .ref p ∧ StQ CM CS H p (sizE zs r lo hi n).1 (sizE zs r lo hi n).2) ∨ (sizB zs r lo hi n = false ∧ v = .non)
section
variable {CM CS : Addr} {H H' : Hp} {v : V} {zs : List Q2} {r : Str} {lo hi : Option Q2} {n : Nat}
theorem RunV.same (a : RunV CM CS H v zs r lo hi n) (s : Same H H') : RunV CM CS H' v zs r lo hi n := by
  rcases a with ⟨h, p, e, q⟩ | h
  · exact .inl ⟨h, p, e, q.same s⟩
  · exact .inr h
theorem RunV.nl (a : RunV CM CS H v zs r lo hi n) (s : Nl H H') : RunV CM CS H' v zs r lo hi n := by
  rcases a with ⟨h, p, e, q⟩ | h
  · exact .inl ⟨h, p, e, q.nl s⟩
  · exact .inr h
theorem run_of (c : CutQ CM CS H v (sizE zs r lo hi n).1 (sizE zs r lo hi n).2) : RunV CM CS H v zs r lo hi n := by
  obtain ⟨x', y', c, ax, ay⟩ := c
  have e := Alike.someB ax ay
  rcases c with ⟨h, p, rfl, st⟩ | ⟨h, rfl⟩
  · refine .inl ⟨by unfold sizB; rw [← e]; exact h, p, rfl, x'.1, y'.1, ?_, ax.1, ay.1⟩
    rw [← ax.flag, ← ay.flag]
    exact st
  · exact .inr ⟨by unfold sizB; rw [← e]; exact h, rfl⟩
end
section
variable {CM CS : Addr} {H : Hp} {p q : Addr} {x y x2 y2 : Option Q2 × Bool}
theorem StQ.raw (a : StQ CM CS H p x y) {m : Str} (h1 : ¬ m = "low") (h2 : ¬ m = "high") (h3 : ¬ m = "low_in") (h4 : ¬ m = "high_in") {R : Prop} (h : R) : ∃ a dx fs, V.ref p = .ref a ∧ H a = some (.ins CS dx fs) ∧ fs.lookup m = none ∧ R := by
  obtain ⟨lo, hi, s, _⟩ := a
  exact meth_s s h1 h2 h3 h4 h
/-- an end of so many bits -/
def SzE (k : Nat) : Option Q2 → Prop
  | none => True
  | some a => Sz k a.1 ∧ Sz k a.2
theorem qo_of {k : Nat} {v : V} {m e : Option Q2} (a : MsV CM H v m) (l : LowO m) (r : ReO m e) (s : SzE k e) : QO CM H k v e := by
  cases m with
  | none =>
    cases e with
    | none => exact a
    | some _ => exact r.elim
  | some m =>
    cases e with
    | none => exact r.elim
    | some e =>
      obtain ⟨p, rfl, hp⟩ := a
      exact ⟨p, rfl, QAt.of hp l r s.1 s.2⟩
end
theorem SzE.mono {k j : Nat} (l : k ≤ j) : ∀ {o : Option Q2}, SzE k o → SzE j o
  | none, _ => trivial
  | some _, h => ⟨h.1.mono l, h.2.mono l⟩
theorem cutLo_sze {k : Nat} {a b : Option Q2} {i j : Bool} (h : SzE k a) (g : SzE k b) : SzE k (cutLo a i b j).1 := by
  cases a with
  | none => exact g
  | some a =>
    cases b with
    | none => exact h
    | some b =>
      show SzE k (if ltq a b then (some b, j) else if eqq a b then (some a, i && j) else (some a, i)).1
      split
      · exact g
      · split <;> exact h
theorem cutHi_sze {k : Nat} {a b : Option Q2} {i j : Bool} (h : SzE k a) (g : SzE k b) : SzE k (cutHi a i b j).1 := by
  cases a with
  | none => exact g
  | some a =>
    cases b with
    | none => exact h
    | some b =>
      show SzE k (if ltq b a then (some b, j) else if eqq a b then (some a, i && j) else (some a, i)).1
      split
      · exact g
      · split <;> exact h
def SzL (k : Nat) (zs : List Q2) : Prop := ∀ z ∈ zs, Sz k z.1 ∧ Sz k z.2
theorem SzL.get {k : Nat} {zs : List Q2} (h : SzL k zs) (i : Nat) : SzE k zs[i]? := by
  cases e : zs[i]? with
  | none => trivial
  | some a => exact h a (List.mem_of_getElem? e)
theorem SzL.end {k : Nat} {zs : List Q2} (h : SzL k zs) (i : Int) : SzE k (endQ zs i) := by
  unfold endQ
  split
  · exact h.get _
  · trivial
theorem SzL.mid {k : Nat} : ∀ {zs : List Q2}, SzL k zs → SzL (k + k + 12) (midq zs)
  | [], _ => fun z hz => by simp [midq] at hz
  | [_], _ => fun z hz => by simp [midq] at hz
  | a :: b :: r, h => fun z hz => by
    have hz' : z ∈ qhalf a b :: midq (b :: r) := hz
    rcases List.mem_cons.mp hz' with e | e
    · rw [e, qhalf_eq]
      have ha := h a (by simp)
      have hb := h b (by simp)
      have c1 : Sz (k + k + 1) (a.1 * b.2 + b.1 * a.2) := (ha.1.mul hb.2).add (hb.1.mul ha.2)
      have c2 : Sz (k + k) (a.2 * b.2) := ha.2.mul hb.2
      exact ⟨c1.mono (by omega), (c2.mul (show Sz 2 2 by decide)).mono (by omega)⟩
    · exact SzL.mid (fun y hy => h y (by simp [hy])) z e
theorem rulE_sz {k : Nat} {zs : List Q2} {r : Str} {n : Nat} (h : SzL k zs) : SzE (k + k + 12) (rulE zs r n).1.1 ∧ SzE (k + k + 12) (rulE zs r n).2.1 := by
  unfold rulE
  split
  · exact ⟨(h.end _).mono (by omega), (h.get _).mono (by omega)⟩
  · split
    · exact ⟨(h.get _).mono (by omega), (h.end _).mono (by omega)⟩
    · exact ⟨h.mid.end _, h.mid.end _⟩
theorem sizE_sz {k : Nat} {zs : List Q2} {r : Str} {lo hi : Option Q2} {n : Nat} (h : SzL k zs) (hl : SzE k lo) (hh : SzE k hi) : SzE (k + k + 12) (sizE zs r lo hi n).1.1 ∧ SzE (k + k + 12) (sizE zs r lo hi n).2.1 :=
  ⟨cutLo_sze (rulE_sz h).1 (hl.mono (by omega)), cutHi_sze (rulE_sz h).2 (hh.mono (by omega))⟩
theorem LawL.szs {H : Hp} {p : Addr} {part : Int} {ms : List Int} {r : Str} {lo hi : Option Int} (a : LawL H p part ms r lo hi) : SzL 40 (zq (4 * part) ms) ∧ SzE 40 (oq (4 * part) lo) ∧ SzE 40 (oq (4 * part) hi) := by
  have p0 := a.p0
  have p1 := a.p1
  have sp : Sz 40 (4 * part) := by show (4 * part).natAbs < 2 ^ 40; omega
  have sz : ∀ z : Int, -4000040 ≤ z → z ≤ 4000040 → Sz 40 z := fun z h1 h2 => by show z.natAbs < 2 ^ 40; omega
  refine ⟨fun z hz => ?_, ?_, ?_⟩
  · obtain ⟨m, hm, rfl⟩ := List.mem_map.mp hz
    have := a.bnd m hm
    exact ⟨sz m (by omega) (by omega), sp⟩
  · cases lo with
    | none => trivial
    | some z => have := a.blo z rfl; exact ⟨sz z this.1 this.2, sp⟩
  · cases hi with
    | none => trivial
    | some z => have := a.bhi z rfl; exact ⟨sz z this.1 this.2, sp⟩
theorem LadAt.up {K : PySem.W.Frag} {CM CL : Addr} {H : Hp} {p : Addr} {k j : Nat} {zs : List Q2} {r : Str} {lo hi : Option Q2} (a : LadAt K CM CL H p k zs r lo hi) (l : k ≤ j) : LadAt K CM CL H p j zs r lo hi := a.mono l
/-! ### measures that a stretch holds -/
def GoodM (CM : Addr) (x y : Option Q2 × Bool) (H : Hp) (ys : List V) : Prop := ∀ v ∈ ys, ∃ q z, v = .ref q ∧ QAt CM H q 300 z ∧ (loIn x.1 x.2 z && hiIn y.1 y.2 z) = true
theorem GoodM.nl {CM : Addr} {x y : Option Q2 × Bool} {H H' : Hp} {ys : List V} (g : GoodM CM x y H ys) (s : Nl H H') : GoodM CM x y H' ys := fun v hv => by
  obtain ⟨q, z, e, a, h⟩ := g v hv
  exact ⟨q, z, e, a.nl s, h⟩
theorem GoodM.snoc {CM : Addr} {x y : Option Q2 × Bool} {H : Hp} {ys : List V} {q : Addr} {z : Q2} (g : GoodM CM x y H ys) (a : QAt CM H q 300 z) (h : (loIn x.1 x.2 z && hiIn y.1 y.2 z) = true) : GoodM CM x y H (ys ++ [.ref q]) := fun v hv => by
  rcases List.mem_append.mp hv with hv | hv
  · exact g v hv
  · have : v = .ref q := by simpa using hv
    exact ⟨q, z, this, a, h⟩
section
variable {a b : Q2} {i j : Bool} {yo xo : Option Q2}
end
end My
namespace My
open PySem PySem.Spec PyProof.Rows L2
/-! ### comprehensions within comprehensions: the readings of the inner ones are found ahead -/
section
variable {X : Cx}
end
end My
namespace My
open PySem PySem.Spec PyProof.Rows L2
/-! ### repr of a tuple that holds own objects -/
def leafD : PyData → Bool
  | .none => true
  | .bool _ => true
  | .int i => decide (i.natAbs.log2 < 1920)
  | .str s => true
  | _ => false
def leafS : PyData → Str
  | .none => "None"
  | .bool b => if b then "True" else "False"
  | .int i => toString i
  | .str s => reprText s
  | _ => ""
/-- what is asked of the values one by one -/
def tShow (K : PySem.W.Frag) (C : Addr) (sp : Sp) (E : XK) : List V → List Str → Hp → (List Str → Hp → Prop) → Prop
  | [], acc, H, Q => Q acc H
  | x :: xs, acc, H, Q => (∃ d, Dp K H x d ∧ leafD d = true ∧ (leafS d).length ≤ 10000 ∧ tShow K C sp E xs (acc ++ [leafS d]) H Q) ∨
      tOwn C sp E x H (fun v H2 => ∃ z : Str, v = .str z ∧ z.length ≤ 10000 ∧ tShow K C sp E xs (acc ++ [z]) H2 Q)
theorem piled_le : ∀ ts : List Str, (∀ t ∈ ts, t.length ≤ 10000) → piled ts ≤ 10002 * ts.length
  | [], _ => Nat.zero_le _
  | t :: ts, h => by
    have h1 := h t (by simp)
    have h2 := piled_le ts fun x hx => h x (by simp [hx])
    rw [piled_cons, List.length_cons]
    omega
theorem tupleText_le {ts : List Str} (h : ∀ t ∈ ts, t.length ≤ 10000) : (tupleText ts).length ≤ 10002 * ts.length + 3 := by
  have hp := piled_le ts h
  unfold tupleText
  rw [strLen_append, strLen_append]
  have e1 : ((("(" : String) : Str)).length = 1 := rfl
  have e3 : (((if ts.length == 1 then ",)" else ")" : String) : Str)).length ≤ 2 := by split <;> decide
  rw [e1]
  by_cases e : ts = []
  · subst e
    have : (Str.join ", " []).length = 0 := rfl
    rw [this]
    simp at e3 ⊢
    omega
  · have := join_length_add ts e
    omega
section
variable {X : Cx} {n : Nat} {CX : CXT} {C f : Addr} {fd : FuncData} {ps : List Str} {sp : Sp} {E : XK}
theorem leaf_is {K : PySem.W.Frag} {H : Hp} {x : V} {d : PyData} {u : Value} (hd : Dp K H x d) (hl : leafD d = true) (hz : (leafS d).length ≤ 10000) (r : RelV x u) : ReprIs X.prog X.w u (leafS d) := by
  have sl := sizeLine_eq
  cases hd with
  | non => cases (show u = Value.none from r); exact ReprIs.none
  | bl b => cases (show u = Value.bool b from r); exact ReprIs.bool b
  | int i => obtain ⟨t, rfl⟩ := r; exact ReprIs.int t (of_decide_eq_true hl)
  | str z => obtain ⟨t, rfl⟩ := r; exact ReprIs.str z t (show (leafS (.str z)).length ≤ sizeLine by omega)
  | lst _ _ => cases hl
  | tup _ _ => cases hl
theorem own_under (F : FnOk X.prog X.w X.K X.mg X.base CX n f fd ps sp) (hm : Meth X.K C "__repr__" f) (hb : Binds X.K fd ps []) (hx : Passes CX X E) {A : Around} {pins : List (Addr × Obj)} {s : Shared} {σ : L2.St} {H : Hp} {x : V} {u : Value} {b : Nat} {Q : VK}
    (sb : Sub X n A) (I : Inv X pins σ H s) (r : RelV x u) (hbz : b ≤ sizeLine) (h : tOwn C sp E x H Q) : wpAny (model X.prog X.w) A (pyReprUnder b u) (fun z s' => ∃ H', Inv X pins σ H' s' ∧ Q (.str z) H') X.xe s := by
  obtain ⟨a, dx, fs, rfl, ha, q⟩ := h
  cases (show u = Value.ref a from r)
  obtain ⟨mA, J, _⟩ := ins_get I.hok ha
  obtain ⟨od, J, _⟩ := J.look
  refine wpAny_pyReprUnder_ref hbz ?_
  unfold pyReprObjUnder pyReprObjBy
  refine wpAny_bind (wpAny_cRoomFor sb.room.units0 ?_)
  refine wpAny_bind (wpAny_bind (J.type.here ((PySem.W.looks_findIn I.kIn hm.at_).here ?_)))
  show wpAny _ _ (if (some (Value.ref f)).isNone = true then _ else _) _ _ _
  rw [if_neg (by simp)]
  have core : wpAny (model X.prog X.w) A (call (.ref f) [.ref a]) (fun u s' => ∃ z t H', u = .str z t ∧ Inv X pins σ H' s' ∧ Q (.str z) H') X.xe s :=
    thn (fn_at F hb hx sb I (vs := [.ref a]) (.cons rfl .nil) q) fun w s2 q2 => by
      obtain ⟨v, H2, I2, rw', z, rfl, q3⟩ := q2
      obtain ⟨t, rfl⟩ := rw'
      exact ⟨z, t, H2, rfl, I2, q3⟩
  refine wpAny_bind (m := callSpecialIfBoundBy? _ (.ref a) (Str.ofString "__repr__")) ?_
  simp only [callSpecialIfBoundBy?, bindSpecialIfBound?]
  refine wpAny_holding (wpAny_bind (wpAny_bind (wpAny_bind (J.type.here ((PySem.W.looks_findIn I.kIn hm.at_).here ?_)))))
  refine wpAny_bind (wpAny_askSetting (wpAny_ite ?_))
  have fin : ∀ {Qf : Option Value → Shared → Prop}, (∀ z t s', (∃ H', Inv X pins σ H' s' ∧ Q (.str z) H') → Qf (some (.str z t)) s') → wpAny (model X.prog X.w) A (call (.ref f) ([.ref a] ++ []) >>= fun v => pure (some v)) Qf X.xe s := fun hq =>
    wpAny_bind (wpAny_mono core (fun v s' h' => by
      obtain ⟨z, t, H', rfl, I', q'⟩ := h'
      exact wpAny_pure (hq z t s' ⟨H', I', q'⟩)) fun _ _ h' => h')
  have tail : ∀ z t s', (∃ H', Inv X pins σ H' s' ∧ Q (.str z) H') → wpAny (model X.prog X.w) A (do if ← isInstance (.str z t) (.type "str") then pure (Value.str z t) else raiseError "TypeError" s!"__repr__ returned non-string (type {← typeNameOf (.str z t)})") (fun v s' => ∃ x u, v = .str x u ∧ ∃ H', Inv X pins σ H' s' ∧ Q (.str x) H') X.xe s' := fun z t s' hq => by
    refine wpAny_bind (wpAny_isInstance (typeIs_str _ _ _) isSubtype_str_str ?_)
    first
      | exact wpAny_pure ⟨z, t, rfl, hq⟩
      | (rw [if_pos rfl]; exact wpAny_pure ⟨z, t, rfl, hq⟩)
      | (simp only [if_true]; exact wpAny_pure ⟨z, t, rfl, hq⟩)
  have hfn := beq_iff_eq.mp hm.fn
  split
  · refine wpAny_bind ((PySem.W.bind_fn I.kIn _ hfn).here (wpAny_pure ?_))
    exact fin fun z t s' hq => tail z t s' hq
  · refine wpAny_tryCatch (wpAny_bind ((PySem.W.bind_fn I.kIn _ hfn).here (wpAny_pure ?_)))
    exact fin fun z t s' hq => tail z t s' hq
theorem tup_fold (F : FnOk X.prog X.w X.K X.mg X.base CX n f fd ps sp) (hm : Meth X.K C "__repr__" f) (hb : Binds X.K fd ps []) (hx : Passes CX X E) {A : Around} (sb : Sub X n A) {pins : List (Addr × Obj)} {σ : L2.St} {Q : List Str → Hp → Prop} :
    ∀ (xs : List V) (us : List Value) (ar : Array Str) (m : Nat) (s : Shared) (H : Hp), Vals xs us → Inv X pins σ H s → (∀ t ∈ ar.toList, t.length ≤ 10000) → m + 10002 * xs.length ≤ 4000000 → tShow X.K C sp E xs ar.toList H Q →
      wpAny (model X.prog X.w) A (forIn us ((ar, m) : Array Str × Nat) tupBody) (fun r s' => ∃ H', r.1.toList.length = ar.toList.length + xs.length ∧ (∀ t ∈ r.1.toList, t.length ≤ 10000) ∧ Inv X pins σ H' s' ∧ Q r.1.toList H') X.xe s
  | [], us, ar, m, s, H, r, I, ha, hz, q => by
    cases r
    rw [List.forIn_nil]
    exact wpAny_pure ⟨H, by simp, ha, I, q⟩
  | x :: xs, us, ar, m, s, H, r, I, ha, hz, q => by
    cases r with
    | @cons _ u _ ur rx rr =>
    have sl := sizeLine_eq
    rw [List.length_cons] at hz
    rw [List.forIn_cons]
    have step : ∀ (z : Str) (s' : Shared) (H' : Hp), z.length ≤ 10000 → Inv X pins σ H' s' → tShow X.K C sp E xs (ar.toList ++ [z]) H' Q →
        wpAny (model X.prog X.w) A (forIn ur ((ar.push z, m + (z.length + 2)) : Array Str × Nat) tupBody) (fun r s' => ∃ H', r.1.toList.length = ar.toList.length + (x :: xs).length ∧ (∀ t ∈ r.1.toList, t.length ≤ 10000) ∧ Inv X pins σ H' s' ∧ Q r.1.toList H') X.xe s' := fun z s' H' hl I' q' => by
      refine wpAny_mono (tup_fold F hm hb hx sb xs ur (ar.push z) (m + (z.length + 2)) s' H' rr I' (fun t ht => ?_) (by omega) (by rw [Array.toList_push]; exact q')) (fun r s2 h => ?_) fun _ _ h => h
      · rw [Array.toList_push, List.mem_append, List.mem_singleton] at ht
        rcases ht with ht | rfl
        · exact ha t ht
        · exact hl
      · obtain ⟨H2, h1, h2, h3, h4⟩ := h
        refine ⟨H2, ?_, h2, h3, h4⟩
        have e := h1
        rw [Array.toList_push, List.length_append, List.length_singleton] at e
        rw [List.length_cons]
        omega
    refine wpAny_bind (wpAny_bind (m := pyReprUnder (m + 1) u) ?_)
    rcases q with ⟨d, hd, hl, hlz, q⟩ | q
    · refine leaf_is hd hl hlz rx (m + 1) (by omega) A X.xe s _ fun tk => wpAny_pure ?_
      exact step (leafS d) _ H hlz (I.tok _) q
    · refine wpAny_mono (own_under F hm hb hx sb I rx (by omega) q) (fun z s' h => ?_) fun _ _ h => h
      obtain ⟨H', I', z', ez, hl, q'⟩ := h
      cases ez
      exact wpAny_pure (step z s' H' hl I' q')
theorem sub_under {A : Around} (sb : Sub X (n + 1) A) (args : Args) : Sub X n (A.under (.builtin "tuple.__repr__" args)) := by
  have hd : (A.under (.builtin "tuple.__repr__" args)).depth ≤ A.depth + 1 := by
    show A.depth + (Code.builtin "tuple.__repr__" args).weight ≤ A.depth + 1
    have e : (Code.builtin "tuple.__repr__" args).weight ≤ 1 := by
      have e1 : (Code.builtin "tuple.__repr__" args).isCreation = false := by first | rfl | simp [Code.isCreation]
      have e2 : (Code.builtin "tuple.__repr__" args).isCaller = false := by first | rfl | simp [Code.isCaller]
      have e3 : (Code.builtin "tuple.__repr__" args).frames = 0 := by first | rfl | simp [Code.frames]
      unfold Code.weight
      rw [e1, e2, e3, isGuard_tuple_repr]
      decide
    omega
  have hu := units_under_tuple_repr A args
  have hf : (A.under (.builtin "tuple.__repr__" args)).frames = A.frames := by
    first | rfl | simp [Around.under, Code.envs, pushEnvs, Code.frames, Code.isFrame]
  refine ⟨⟨sb.room.hd, ?_, ?_⟩, hf.trans sb.fr⟩
  · have := sb.room.dp; omega
  · rw [hu]; have := sb.room.un; omega
theorem call_tupR (F : FnOk X.prog X.w X.K X.mg X.base CX n f fd ps sp) (hm : Meth X.K C "__repr__" f) (hb : Binds X.K fd ps []) (hx : Passes CX X E) {A : Around} (sb : Sub X (n + 1) A) (gd : A.guards = some []) {pins : List (Addr × Obj)} {s : Shared} {σ : L2.St} {H : Hp} {a : Addr} {xs : List V} {Q : VK}
    (I : Inv X pins σ H s) (ht : SqT X.K H a xs) (hz : xs.length ≤ 100) (q : tShow X.K C sp E xs [] H (fun ts H' => Q (.str (tupleText ts)) H')) :
    wpAny (model X.prog X.w) A (call (.builtin "tuple.__repr__") [.ref a]) (fun u s' => ∃ z t H', u = .str z t ∧ z.length ≤ sizeLine ∧ Inv X pins σ H' s' ∧ Q (.str z) H') X.xe s := by
  have sl := sizeLine_eq
  obtain ⟨its, rv, ⟨o, ho, hc, m, hd⟩, _⟩ := I.tuple ht
  have hlen : its.length = xs.length := rv.length.symm
  refine wpAny_call (codeAny_call_builtin_own (Code.quiet_builtin _ (by decide +kernel)) PySem.F.entry_tuple_repr (PySem.F.slot_tuple_repr.check _ _ _ _ _ _ _ _ ⟨o, ho, hc⟩ (PySem.F.args_tuple_repr_1 _) ?_))
  show wpOwn _ _ _ (Builtin.tupleReprAt 0 ⟨[.ref a], []⟩) _ _ _
  rw [tuple_repr_tree, tupleReprUnderWay_eq]
  refine wpOwn_bind (wpOwn_stackTailAny gd (tupGuardF_off _) (tupGuardF_pos _) ?_)
  refine wpOwn_of_wpAny ?_
  show wpAny _ _ (tupleReprRest 0 (.ref a)) _ _ s
  unfold tupleReprRest Builtin.Tuple.tupleItemsOf
  refine wpAny_bind (wpAny_bind (wpAny_seqItems ho hd (wpAny_pure ?_)))
  rw [← Array.forIn_toList]
  refine wpAny_bind (wpAny_mono (tup_fold F hm hb hx (sub_under sb _) xs its #[] 0 s H (by simpa using rv) I (fun t ht => by simp at ht) (by omega) q) (fun r s' h => ?_) fun _ _ h => h)
  obtain ⟨H', h1, h2, I', q'⟩ := h
  have tl := tupleText_le h2
  have h1' : r.1.toList.length = its.length := by simpa [hlen] using h1
  refine wpAny_bind (wpAny_mkStr (wpAny_pure ?_) ?_)
  · refine ⟨tupleText r.1.toList, s'.toks, H', ?_, by omega, I'.tok _, q'⟩
    simp [tupleText, ← h1']
  · have e : tupleText r.1.toList = ("(" : Str) ++ Str.join ", " r.1.toList ++ (if its.toArray.size == 1 then ",)" else ")" : String) := by
      simp [tupleText, ← h1']
    rw [← e]
    omega
/-- repr of a tuple of data and own objects -/
def rReprT (K : PySem.W.Frag) (C : Addr) (sp : Sp) (E : XK) : List V → Hp → VK → Prop := fun xs H Q => ∃ a ys, xs = [.ref a] ∧ SqT K H a ys ∧ ys.length ≤ 100 ∧ tShow K C sp E ys [] H (fun ts H' => Q (.str (tupleText ts)) H')
theorem call_reprT (gd : X.A.guards = some []) (F : FnOk X.prog X.w X.K X.mg X.base CX n f fd ps sp) (hm : Meth X.K C "__repr__" f) (hb : Binds X.K fd ps []) (hx : Passes CX X E) (hr : Room (n + 2) X.A) : CallR X (.builtin "repr") (rReprT X.K C sp E) := by
  intro pins s σ H xs us Q I r h
  obtain ⟨a, ys, rfl, ht, hz, q⟩ := h
  obtain ⟨u, rfl, r1⟩ := vals1 r
  cases (show u = Value.ref a from r1)
  have sb : Sub X (n + 2) X.A := ⟨hr, rfl⟩
  obtain ⟨its, rv, ⟨o, ho, hc, m, hd⟩, _⟩ := I.tuple ht
  refine call_repr_slot sb.in1.room.units0 ⟨o, ho, hc⟩ PySem.F.slot_tuple_repr ?_
  refine wpAny_mono (call_tupR F hm hb hx sb.in1 gd I ht hz q) (fun v s' h => ?_) fun _ _ h => h
  obtain ⟨z, t, H', rfl, _, I', q'⟩ := h
  exact ⟨z, t, rfl, .str z, H', I', ⟨t, rfl⟩, q'⟩
end
/-! ### == of tuples, item by item -/
section
open GQ
open AutoSeq1 (wpAny_loadPart')
variable {prog : Program} {w : World} {A : Around} {R : Result → Shared → Prop}
end
section
variable {X : Cx} {n : Nat} {D : Eqb}
end
/-! ### {x} of an own object, repr of one whose own def shows a tuple -/
section
variable {X : Cx} {n : Nat} {CX : CXT} {C f : Addr} {fd : FuncData} {ps : List Str} {sp : Sp} {E : XK}
end
end My
namespace My
open PySem PySem.Spec PyProof.Rows L2
/-! ### signs of texts; dicts beside own == -/
/-! ### own == within comprehensions: K by name -/
end My
/-! ### own errors whose __init__ calls super().__init__(..): over any built-in base -/
namespace My
open PySem PySem.Spec PyProof.Rows L2 NdefX Builtin Builtin.ObjectAttr
abbrev leTail : List Value := [.type "LookupError", .type "Exception", .type "BaseException", .type "object"]
/-- own classes, then T -/
def refsT (T : List Value) : List Value → Bool
  | .ref _ :: r => refsT T r
  | l => l == T
/-- what is asked of the built-in base -/
structure BaseX (B newId initId : String) (T : List Value) : Prop where
  F : ExcBaseFacts B newId initId T
  KF : PySem.W.KxsFacts B initId
  pass : ∀ self, refuseLoop self "__setattr__" T = pure ()
  ob : T.contains (.type "object") = true
  ne : T ≠ []
  nr : ∀ c r, T ≠ .ref c :: r
theorem refsT_cases {T : List Value} : ∀ l : List Value, refsT T l = true → (∃ c r, l = .ref c :: r ∧ refsT T r = true) ∨ l = T
  | [], e => .inr (beq_iff_eq.mp e)
  | .ref c :: r, e => .inl ⟨c, r, rfl, e⟩
  | .none :: _, e => .inr (beq_iff_eq.mp e)
  | .ellipsis :: _, e => .inr (beq_iff_eq.mp e)
  | .notImplemented :: _, e => .inr (beq_iff_eq.mp e)
  | .bool _ :: _, e => .inr (beq_iff_eq.mp e)
  | .int _ _ :: _, e => .inr (beq_iff_eq.mp e)
  | .float _ _ :: _, e => .inr (beq_iff_eq.mp e)
  | .str _ _ :: _, e => .inr (beq_iff_eq.mp e)
  | .bytes _ _ :: _, e => .inr (beq_iff_eq.mp e)
  | .type _ :: _, e => .inr (beq_iff_eq.mp e)
  | .builtin _ :: _, e => .inr (beq_iff_eq.mp e)
section
variable {B newId initId : String} {T : List Value} (bx : BaseX B newId initId T)
include bx
theorem BaseX.passes (self : Value) : ∀ l : List Value, refsT T l = true → refuseLoop self "__setattr__" l = pure () := by
  intro l
  induction l with
  | nil =>
    intro e
    exact absurd (beq_iff_eq.mp e).symm bx.ne
  | cons a r ih =>
    intro e
    rcases refsT_cases (a :: r) e with ⟨c, r', q, h⟩ | q
    · obtain ⟨rfl, rfl⟩ := List.cons.inj q
      rw [refuseLoop_ref]; exact ih h
    · rw [q]; exact bx.pass self
theorem BaseX.contains (X : String) : ∀ l : List Value, refsT T l = true → l.contains (.type X) = T.contains (.type X) := by
  intro l
  induction l with
  | nil => intro e; exact absurd (beq_iff_eq.mp e).symm bx.ne
  | cons a r ih =>
    intro e
    rcases refsT_cases (a :: r) e with ⟨c, r', q, h⟩ | q
    · obtain ⟨rfl, rfl⟩ := List.cons.inj q
      rw [List.contains_cons, ih h]; rfl
    · rw [q]
theorem BaseX.nempty {l : List Value} (e : refsT T l = true) : l.isEmpty = false := by
  cases l with
  | nil => exact absurd (beq_iff_eq.mp e).symm bx.ne
  | cons _ _ => rfl
end
/-- what the written part says of the class -/
structure OexG (newId : String) (T : List Value) (K : PySem.W.Frag) (C : Addr) : Prop where
  cls : ∃ nm q N bs bm sn sub ab col dd k0 k1 k2 k3 k5, K.lookup C = some (excClassObj nm q C N bs bm true sn sub ab col dd k0 k1 k2 k3 k5 newId) ∧ refsT T bm = true
  sa : PySem.W.findIn K (.ref C) "__setattr__" = some (some (.builtin "object.__setattr__"))
  exC : PySem.W.subIn K (.ref C) (.type "BaseException") = some true
  tyC : PySem.W.typeIn K (.ref C) = some (.type "type")
  kC : PySem.W.keepIn K (.ref C) = true
section
open PySem.HandSPX (store_in_new)
variable {prog : Program} {w : World} {A : Around} {E : Value → Shared → Prop} {R : Result → Shared → Prop} {hp : Heap} {g : Array GenState} {d : Drawn} {t : Nat} {os : OsState}
theorem exc_osaG {K : PySem.W.Frag} {name : Str} {tk : Tok} {v : Value} {x C : Addr} {fv : Array Value} {cd : ClassData}
    (X : K.In hp) (hx : hp.get? x = some { cls := .ref C, data := .fields fv }) (hcd : PySem.W.clsIn K C = some cd) (ne : cd.mro.isEmpty = false) (hob : cd.mro.contains (.type "object") = true) (hpass : refuseLoop (.ref x) "__setattr__" cd.mro = pure ()) (hh : cd.hasDict = true) (ha : PySem.W.findIn K (.ref C) name = some none)
    (hq : ∀ h' tk' dx, (∀ b o, b ≠ x → hp.get? b = some o → h'.get? b = some o) → hp.objs.size ≤ dx → dx ≠ x → h'.get? x = some { cls := .ref C, dict := some dx, data := .fields fv } →
      h'.Ns1 dx (fun y => if y = name then some v else none) → R (.ok (.ret .none)) ⟨h', g, d, tk', os⟩) :
    codeAny (model prog w) A (.call (.builtin "object.__setattr__") ⟨[.ref x, .str name tk, v], []⟩) R ⟨hp, g, d, t, os⟩ := by
  have I : PySem.W.InstAt hp x { cls := .ref C, data := .fields fv } C none := ⟨hx, rfl, rfl, trivial⟩
  have SF := F.store_object
  have hxs : x ≠ hp.objs.size := Nat.ne_of_lt (Heap.lt_size hx)
  have sub : PySem.W.Looks (model prog w) hp (isInstance (.ref x) (.type "object")) true := I.type.andThen (PySem.W.looks_mroIn X (by unfold PySem.W.mroIn; rw [hcd, Option.bind_some, if_neg (by rw [ne]; decide), hob]))
  refine codeAny_call_builtin SF.slot.plain SF.entry (@PySem.W.check_slot (model prog w) _ _ ⟨hp, g, d, t, os⟩ "object.__setattr__" "object" "__setattr__" (.ref x) [.str name tk, v] [] _ SF.kind SF.split sub (SF.args (.ref x) (.str name tk) v) ?_)
  have hmr : PySem.W.Looks (model prog w) hp (mroOf (.ref C)) cd.mro := (PySem.W.looks_clsIn X hcd).andThen .now
  have L3 : PySem.W.Looks (model prog w) hp (storeTaker? none) none := .now
  have hcls : PySem.W.Looks (model prog w) hp (classData C) cd := PySem.W.looks_clsIn X hcd
  rw [PySem.W.osa_eq, refuse_eq]
  refine wpAny_bind (wpAny_bind (I.type.at (wpAny_bind (hmr.at ?_))))
  rw [hpass]
  refine wpAny_pure (wpAny_bind (I.type.at (wpAny_bind ((PySem.W.looks_findIn X ha).at (wpAny_bind (L3.at ?_))))))
  show wpAny _ _ (storeInOwnDict (.ref x) (.ref C) (.str name tk) name v false) _ _ _
  obtain ⟨nm, bs, mro, ns, qn, hd, sn, sb, ab, col, del⟩ := cd
  dsimp only at hh
  subst hh
  unfold storeInOwnDict ownDictForStores
  repeat (first | with_reducible refine store_in_new ?_ ?_ | with_reducible refine wpAny_loadPart_at hx ?_ | with_reducible refine hcls.at ?_ | wp_step)
  · exact ⟨_, #[], _, (Heap.get?_update_ne _ _ _ _ hxs.symm).trans (Heap.get?_push_at rfl rfl), rfl, fun e he => absurd he (by simp), fun _ => rfl⟩
  · intro h' tk' hn' hs
    have hx₁ : (hp.push { cls := .type "dict", data := .dict #[] }).get? x = some { cls := .ref C, data := .fields fv } := Heap.get?_push_of_some _ hx
    refine hq h' tk' hp.objs.size (fun b o hb ho => ?_) (Nat.le_refl _) hxs.symm ?_ hn'
    · exact (hs.2 b (Nat.ne_of_lt (Heap.lt_size ho))).trans ((Heap.get?_update_ne _ _ _ _ hb).trans (Heap.get?_push_of_some _ ho))
    · exact (hs.2 x hxs).trans (Heap.get?_update_self _ hx₁ rfl)
theorem osa_oldG {K : PySem.W.Frag} {name : Str} {tk : Tok} {v : Value} {x C dx : Addr} {fv : Array Value} {cd : ClassData} {m0 : Str → Option Value} {nl : List Str}
    (X : K.In hp) (hx : hp.get? x = some { cls := .ref C, dict := some dx, data := .fields fv }) (hns : hp.Ns1 dx m0) (hw : Within m0 nl) (hz : nl.length ≤ 1000) (hcd : PySem.W.clsIn K C = some cd) (ne : cd.mro.isEmpty = false) (hob : cd.mro.contains (.type "object") = true) (hpass : refuseLoop (.ref x) "__setattr__" cd.mro = pure ()) (hh : cd.hasDict = true)
    (ha : PySem.W.findIn K (.ref C) name = some none)
    (hq : ∀ h' tk', (∀ b o, b ≠ dx → hp.get? b = some o → h'.get? b = some o) → h'.Ns1 dx (fun y => if y = name then some v else m0 y) → R (.ok (.ret .none)) ⟨h', g, d, tk', os⟩) :
    codeAny (model prog w) A (.call (.builtin "object.__setattr__") ⟨[.ref x, .str name tk, v], []⟩) R ⟨hp, g, d, t, os⟩ := by
  obtain ⟨oD, esD, epD, hoD, hdD, _⟩ := hns.count hw
  have I : PySem.W.InstAt hp x { cls := .ref C, dict := some dx, data := .fields fv } C (some oD) := ⟨hx, rfl, rfl, hoD⟩
  have SF := F.store_object
  have sub : PySem.W.Looks (model prog w) hp (isInstance (.ref x) (.type "object")) true := I.type.andThen (PySem.W.looks_mroIn X (by unfold PySem.W.mroIn; rw [hcd, Option.bind_some, if_neg (by rw [ne]; decide), hob]))
  refine codeAny_call_builtin SF.slot.plain SF.entry (@PySem.W.check_slot (model prog w) _ _ ⟨hp, g, d, t, os⟩ "object.__setattr__" "object" "__setattr__" (.ref x) [.str name tk, v] [] _ SF.kind SF.split sub (SF.args (.ref x) (.str name tk) v) ?_)
  have hmr : PySem.W.Looks (model prog w) hp (mroOf (.ref C)) cd.mro := (PySem.W.looks_clsIn X hcd).andThen .now
  have L3 : PySem.W.Looks (model prog w) hp (storeTaker? none) none := .now
  have hcls : PySem.W.Looks (model prog w) hp (classData C) cd := PySem.W.looks_clsIn X hcd
  rw [PySem.W.osa_eq, refuse_eq]
  refine wpAny_bind (wpAny_bind (I.type.at (wpAny_bind (hmr.at ?_))))
  rw [hpass]
  refine wpAny_pure (wpAny_bind (I.type.at (wpAny_bind ((PySem.W.looks_findIn X ha).at (wpAny_bind (L3.at ?_))))))
  show wpAny _ _ (storeInOwnDict (.ref x) (.ref C) (.str name tk) name v false) _ _ _
  obtain ⟨nm, bs, mro, ns, qn, hd, sn, sb, ab, col, del⟩ := cd
  dsimp only at hh
  subst hh
  unfold storeInOwnDict ownDictForStores
  repeat (first | with_reducible refine PySem.OEX.store_in_old hns hw hz ?_ | with_reducible refine wpAny_loadPart_at hx ?_ | with_reducible refine hcls.at ?_ | wp_step)
  intro h' tk' hn' hs
  exact hq h' tk' (fun b o hb ho => (hs.2 b hb).trans ho) hn'
end
section
variable {Bn newId initId : String} {T : List Value} (bx : BaseX Bn newId initId T) {X : Cx} {pins : List (Addr × Obj)} {σ : L2.St} {H : Hp} {s : Shared} {a C dx : Addr} {f : Str} {y : V} {u : Value} {fs : List (Str × V)} {Q : Unit → Shared → Prop} {E : Value → Shared → Prop} {A : Around}
include bx
/-- self.f = y, the first one -/
theorem ost_newG (T' : OexG newId T X.K C) (I : Inv X pins σ H s) (e : H a = some (exo a C none)) (hno : PySem.W.findIn X.K (.ref C) f = some none) (ry : RelV y u)
    (h : ∀ dx s', H dx = none → dx ≠ a → Inv X pins σ (upd (upd H dx (exd dx [(f, y)])) a (exo a C (some dx))) s' → Q () s') : wpAny (model X.prog X.w) A (setAttr (.ref a) f u) Q E s := by
  obtain ⟨nm, q, N, bs, bm, sn, sub, ab, col, dd, k0, k1, k2, k3, k5, hC, hbm⟩ := T'.cls
  have hcl : PySem.W.clsIn X.K C = some { name := nm, bases := bs, mro := .ref C :: bm, ns := N, qualname := q, hasDict := true, slotNames := sn, subclasses := sub, abstract := ab, collection := col, hasDel := false } := by unfold PySem.W.clsIn; rw [hC] <;> rfl
  have hm : refsT T (.ref C :: bm) = true := hbm
  obtain ⟨t1, ho⟩ := exo_at I.hok e
  obtain ⟨hp, g, d, t, os⟩ := s
  refine PySem.W.set_plain I.kIn (ox := { cls := .ref C, dict := none, data := .fields #[.ref t1, .none, .none, .none, .bool false, .none] }) (od := none) ⟨ho, rfl, rfl, trivial⟩ T'.sa ?_
  refine exc_osaG I.kIn ho hcl (bx.nempty hm) ((bx.contains "object" _ hm).trans bx.ob) (bx.passes _ _ hm) rfl hno (fun h' tk' dx k dn dne hx hn => ?_)
  have hnd : H dx = none := I.hok.fresh dn
  have nd : ∀ {b : Addr} {o : Obj}, hp.get? b = some o → b ≠ dx := fun {b o} q => Nat.ne_of_lt (Nat.lt_of_lt_of_le (Heap.lt_size q) dn)
  have na : ∀ {b : Addr}, H b = none → b ≠ a := fun {b} n z => by
    rw [z, e] at n
    cases n
  have Un1 : Un X.fs [] H (upd (upd H dx (exd dx [(f, y)])) a (exo a C (some dx))) hp h' := {
    keep := fun b o q n _ _ => k b o (na n) q
    slot := fun b o q n _ _ => ⟨o.slots, k b o (na n) q⟩
    free := fun b o q n _ => by rw [upd_ne (na n), upd_ne (nd q)]; exact n
    there := fun b o q _ => by
      by_cases hb : b = a
      · exact ⟨_, by rw [hb]; exact hx⟩
      · exact ⟨o, k b o hb q⟩
    tups := fun b xs q => by rw [upd_ne (at_ne e q exo_tup), upd_ne (ne_of_none q hnd)]; exact q
    frzs := fun b o v q => by rw [upd_ne (at_ne e q exo_frz), upd_ne (ne_of_none q hnd)]; exact q
    tbls := fun b ps q => ⟨#[], by rw [upd_ne (at_ne e q exo_tbl), upd_ne (ne_of_none q hnd), q]; simp⟩ }
  refine h dx _ hnd dne (I.un (t' := tk') Un1 fun b o q => ?_)
  by_cases hb : b = a
  · subst hb
    rw [upd_same] at q
    cases q
    exact exo_ok hx
  · rw [upd_ne hb] at q
    by_cases hd : b = dx
    · subst hd
      rw [upd_same] at q
      cases q
      exact exd_ok hn (relO_put (fs := []) ry fun g => True.intro)
    · rw [upd_ne hd] at q
      exact (I.hok b o q).stay (fun c v hc z => k c v (by
          rcases hc with hc | hc
          · rw [hc]
            exact hb
          · exact at_ne e hc exo_own) z)
        (fun c hc => by rw [upd_ne (at_ne e hc exo_own), upd_ne (ne_of_none hc hnd)]; exact hc) (fun c xs hc => by rw [upd_ne (at_ne e hc exo_tup), upd_ne (ne_of_none hc hnd)]; exact hc)
/-- self.f = y, a further one -/
theorem ost_oldG (T' : OexG newId T X.K C) (I : Inv X pins σ H s) (e : H a = some (exo a C (some dx))) (ed : H dx = some (exd dx fs)) (hl : fs.length ≤ 900) (hno : PySem.W.findIn X.K (.ref C) f = some none) (ry : RelV y u)
    (h : ∀ s', Inv X pins σ (upd H dx (exd dx ((f, y) :: fs))) s' → Q () s') : wpAny (model X.prog X.w) A (setAttr (.ref a) f u) Q E s := by
  obtain ⟨nm, q, N, bs, bm, sn, sub, ab, col, dd, k0, k1, k2, k3, k5, hC, hbm⟩ := T'.cls
  have hcl : PySem.W.clsIn X.K C = some { name := nm, bases := bs, mro := .ref C :: bm, ns := N, qualname := q, hasDict := true, slotNames := sn, subclasses := sub, abstract := ab, collection := col, hasDel := false } := by unfold PySem.W.clsIn; rw [hC] <;> rfl
  have hm : refsT T (.ref C :: bm) = true := hbm
  obtain ⟨t1, ho⟩ := exo_at I.hok e
  obtain ⟨mA, hns, rel⟩ := exd_at I.hok ed
  have hw := within_of rel
  obtain ⟨hp, g, d, t, os⟩ := s
  obtain ⟨oD, _, _, hoD, _, _⟩ := hns.count hw
  refine PySem.W.set_plain I.kIn (ox := { cls := .ref C, dict := some dx, data := .fields #[.ref t1, .none, .none, .none, .bool false, .none] }) (od := some oD) ⟨ho, rfl, rfl, hoD⟩ T'.sa ?_
  refine osa_oldG I.kIn ho hns hw (by rw [List.length_map]; omega) hcl (bx.nempty hm) ((bx.contains "object" _ hm).trans bx.ob) (bx.passes _ _ hm) rfl hno (fun h' tk' k hn => ?_)
  have hd : ∃ o, h'.get? dx = some o := by
    obtain ⟨o, _, _, e', _⟩ := hn
    exact ⟨o, e'⟩
  exact h _ (I.write (t' := tk') (x := dx) (e := dx) (o := exd dx ((f, y) :: fs)) (by rw [ed]; exact True.intro) (.inl rfl) k hd (exd_ok hn (relO_put ry rel)))
end
theorem baseLE : BaseX "LookupError" "LookupError.__new__" "LookupError.__init__" leTail :=
  ⟨PySem.F.excBase_LookupError, PySem.W.kxs_LookupError, fun self => by kernel_rfl, by decide +kernel, (fun e => nomatch e), fun c r e => nomatch e⟩
/-! ### super().__init__(..), then the fields -/
/-- an own __init__ as it stands behind the top: its closure one cell that holds its class; f its address, cc the cell, cda its code object, told by the file fl -/
structure SupD (K : PySem.W.Frag) (C : Addr) (name qual : Str) (params : Arguments) (body : List Stmt) (scope : Scope) (dvs : List V) (f cc cda : Addr) (fl : Str) (fd : FuncData) : Prop where
  ex : ∃ (oc : Value) (od : Option Addr) (dV kV doc pm : Value) (an : Option Addr) (ct : Value) (osl : Array (Option Value)),
    fd = PySem.W.fnX name qual params body scope [("__class__", cc)] dV kV doc pm an (.ref cda) ct ∧ K.lookup f = some ⟨oc, od, .func fd, osl⟩ ∧ DflV K dV dvs ∧ KwdV K kV []
  cell : ∃ (c0 : Value) (d0 : Option Addr) (s0 : Array (Option Value)), K.lookup cc = some ⟨c0, d0, .cell (some (.ref C)), s0⟩
  code : ∃ (c0 : Value) (d0 : Option Addr) (vs : Array Value) (s0 : Array (Option Value)) (tf : Tok), K.lookup cda = some ⟨c0, d0, .fields vs, s0⟩ ∧ vs[2]? = some (.str fl tf)
  cin : PySem.W.codeIn K (.ref cda) qual = true
  kp : PySem.W.keepIn K (.ref f) = true
/-- what is asked of the class beside it -/
structure SupC (Bn newId initId : String) (T : List Value) (K : PySem.W.Frag) (C : Addr) : Prop where
  ox : OexG newId T K C
  subB : PySem.W.subIn K (.ref C) (.type Bn) = some true
  sup : PySem.W.ks_superIn K C C "__init__" = some (some (.builtin initId))
  nop : PySem.W.nsIn K cStatics "thirdparty.any" = some none
  sub : PySem.W.mroIn K C (.ref C) = some true
theorem exo_inst {P : Program} {w : World} {H : Hp} {h : Heap} {e C : Addr} (hok : HOk P w H h) (he : H e = some (exo e C none)) : ∃ t1 : Addr, PySem.W.InstAt h e ({ cls := .ref C, dict := none, data := .fields #[.ref t1, .none, .none, .none, .bool false, .none] } : Obj) C none := by
  obtain ⟨t1, ho⟩ := exo_at hok he
  exact ⟨t1, ho, rfl, rfl, trivial⟩
section
variable {Bn newId initId : String} {T : List Value} (bx : BaseX Bn newId initId T) {X : Cx} {pins : List (Addr × Obj)} {σ : L2.St} {H : Hp} {s : Shared} {e C : Addr} {Q : Value → Shared → Prop}
include bx
/-- the built-in __init__ bound to e by u, called -/
theorem oinit_G {u : Addr} {us : List Value} (T' : OexG newId T X.K C) (I : Inv X pins σ H s) (he : H e = some (exo e C none)) (hu : s.heap.get? u = some (PySem.W.kxs_mw initId e)) (hl : us.length ≤ sizeLine) (h : ∀ s', Inv X pins σ H s' → Q .none s') :
    wpAny (model X.prog X.w) X.A (call (.ref u) us) Q X.xe s := by
  obtain ⟨nm, q, N, bs, bm, sn, sub, ab, col, dd, k0, k1, k2, k3, k5, hC, hbm⟩ := T'.cls
  obtain ⟨t1, ho⟩ := exo_at I.hok he
  have hC' := I.kIn _ _ hC
  obtain ⟨hp, g, d, tk, os⟩ := s
  have fin : ∀ h', (∀ b o, b ≠ e → hp.get? b = some o → h'.get? b = some o) → h'.get? e = some (PySem.W.excObj C hp.objs.size none .none) → h'.get? hp.objs.size = some (PySem.W.excTup us) → Q .none ⟨h', g, d, tk, os⟩ := fun h' k e' t' => by
    have J := I.write (t' := tk) (x := e) (e := e) (o := exo e C none) (by rw [he]; exact True.intro) (.inl rfl) k ⟨_, e'⟩ (exo_ok e')
    have eu : upd H e (exo e C none) = H := by
      funext b
      by_cases hb : b = e
      · rw [hb, upd_same, he]
      · rw [upd_ne hb]
    rw [eu] at J
    exact h _ J
  refine wpAny_call (codeAny_of_tree ?_)
  show wpAny _ X.A.in1 (callAny (.ref u) ⟨us, []⟩) _ _ _
  simp only [callAny]
  refine wpAny_bind (wpAny_load hu ?_)
  simp only [PySem.W.kxs_mw, show (Value.type "method-wrapper" == Value.type "method" || Value.type "method-wrapper" == Value.type "builtin_function_or_method" || Value.type "method-wrapper" == Value.type "method-wrapper") = true by decide, if_true]
  refine PySem.W.KFB.if_so (by decide) ?_
  refine wpAny_bind (PySem.W.check_bound_init bx.F.toExcCallFacts hC' ho rfl ?_)
  refine wpAny_bind (wpAny_pure (wpAny_pure ?_))
  refine ⟨plainId_quiet bx.F.init.plain _, codeAny_builtin bx.F.initEntry ?_⟩
  exact PySem.W.exc_init_tree (cls := .ref C) (t0 := t1) (dv := none) (c2 := .none) (c3 := .none) (b4 := .bool false) ho hl fin
end
/-- what is pinned besides -/
theorem pin_more {X : Cx} {pins : List (Addr × Obj)} {σ : L2.St} {H : Hp} {s : Shared} {u : Addr} {o : Obj} (I : Inv X pins σ H s) (hg : s.heap.get? u = some o) (hH : H u = none) (hl : u ≠ X.env.locals) (hf : u ∉ X.fs) (hc : ∀ v, o.data ≠ .cell v) : Inv X ((u, o) :: pins) σ H s := by
  refine ⟨I.ok, I.os, I.bare, I.base, I.loc, I.cell, I.free, I.freeC, fun p hp => ?_, I.hok, I.len⟩
  rcases List.mem_append.mp hp with h | h
  · exact I.pin p (List.mem_append_left _ h)
  · rcases List.mem_cons.mp h with rfl | h
    · exact ⟨hg, hH, hl, hf, hc⟩
    · exact I.pin p (List.mem_append_right _ h)
theorem unpin {X : Cx} {pins : List (Addr × Obj)} {σ : L2.St} {H : Hp} {s : Shared} {q : Addr × Obj} (I : Inv X (q :: pins) σ H s) : Inv X pins σ H s := by
  refine ⟨I.ok, I.os, I.bare, I.base, I.loc, I.cell, I.free, I.freeC, fun p hp => ?_, I.hok, I.len⟩
  rcases List.mem_append.mp hp with h | h
  · exact I.pin p (List.mem_append_left _ h)
  · exact I.pin p (List.mem_append_right _ (List.mem_cons_of_mem _ h))
section
variable {Bn newId initId : String} {T : List Value} (bx : BaseX Bn newId initId T) {X : Cx} {pins : List (Addr × Obj)} {σ : L2.St} {H : Hp} {s : Shared} {a C cc cda f : Addr}
include bx
/-- super().__init__(..) in an own __init__ -/
theorem sup_expr {body : List Stmt} {p0 p1 p2 p4 : Pos} {e1 : Expr} {es1 : List Expr} {oc ac0 c0 : Value} {od ad0 d0 : Option Addr} {fd : FuncData} {osl as0 s0 : Array (Option Value)} {ar : Arg} {avs : Array Value} {fl : Str} {tf : Tok} {i : Nat} {ta : TA} {Q : Hp → Prop}
    (CC : SupC Bn newId initId T X.K C) (I : Inv X pins σ H s) (hks : Gl X "super") (hkc : X.env.kindOf "__class__" = some .free) (hfu : X.env.func = some f) (hf : X.K.lookup f = some ⟨oc, od, .func fd, osl⟩) (hp : (fd.params.posonlyargs ++ fd.params.args).head? = some ar)
    (hco : X.env.code = .ref cda) (hcc : X.K.lookup cda = some ⟨ac0, ad0, .fields avs, as0⟩) (hvs : avs[2]? = some (.str fl tf)) (hfile : ((X.prog.main.file : Str) == fl) = true) (htop : (X.prog.main.scope.names.lookup ("super" : Str)).isSome = false) (hsu : X.mg "super" = none)
    (hi : X.N[i]? = some ar.arg) (hσ : σ[i]? = some (some (.ref a))) (hvis : X.env.kindOf ar.arg = some .local) (hcell : X.env.cells.lookup ("__class__" : Str) = some cc) (hck : X.K.lookup cc = some ⟨c0, d0, .cell (some (.ref C)), s0⟩) (ea : H a = some (exo a C none))
    (ha : PA X (e1 :: es1) ta) (q : ta σ H fun us H1 => us.length ≤ 1000 ∧ H1 a = some (exo a C none) ∧ Q H1)
    (he : starEach (e1 :: es1) X.env = (false, eval e1 X.env) :: starEach es1 X.env) (hpl : (backTo p4 (starEach es1 X.env)).any (·.1) = false) {pl : Sem Bool}
    (hmc : eval (.Call (.Attribute (.Call (.Name "super" p0) [] [] p1) "__init__" p2) (e1 :: es1) [] p4) X.env = (do
      let ov ← attributeBase (.Call (.Name "super" p0) [] [] p1) "__init__" X.env (eval (.Call (.Name "super" p0) [] [] p1) X.env)
      standAt p2.atName
      let (f, first) ← holding [ov] (getMethod ov "__init__" pl)
      callWith p4 f first (backTo p4 (starEach (e1 :: es1) X.env)) [])) :
    PySem.wpAt (model X.prog X.w) X.A (.func body X.env) (eval (.Call (.Attribute (.Call (.Name "super" p0) [] [] p1) "__init__" p2) (e1 :: es1) [] p4) X.env) (fun _ s' => ∃ H1, Inv X pins σ H1 s' ∧ Q H1) X.xe s := by
  have KI := I.kIn
  obtain ⟨nm, q0, N0, bs, bm, sn, sub, ab, col, dd, k0, k1, k2, k3, k5, hC, hbm⟩ := CC.ox.cls
  have hcl : PySem.W.clsIn X.K C = some { name := nm, bases := bs, mro := .ref C :: bm, ns := N0, qualname := q0, hasDict := true, slotNames := sn, subclasses := sub, abstract := ab, collection := col, hasDel := false } := by unfold PySem.W.clsIn; rw [hC] <;> rfl
  refine ks_wpAt_MethodCall ?_ hmc
  refine ks_wpAt_super_base hks hkc (by decide) hfu (KI _ _ hf) rfl hp hco (KI _ _ hcc) rfl hvs hfile htop ?_
  obtain ⟨mb, hb1, hb2⟩ := I.mod.blt
  refine PySem.W.ks_loadName_global I.ok.kind hks (Calls.loadGlobal_builtin (by rw [I.ok.glob]; exact I.mod.glob.keeps I.bk) hsu (by rw [I.ok.blt]; exact hb1.keeps I.bk) ((hb2 "super" (by decide)).trans (by first | rfl | kernel_rfl)) ⟨rfl, ?_⟩)
  refine wpAny_loadName_free I.ok.kind hkc hcell ⟨_, KI _ _ hck, rfl⟩ ?_
  obtain ⟨m, hn, hlk⟩ := I.loc
  obtain ⟨u, ru, lu⟩ := hlk i ar.arg _ hi hσ (.inl hvis)
  obtain rfl : u = Value.ref a := ru
  have hm : m ar.arg = some (.ref a) := by
    rcases lu with ⟨_, h⟩ | ⟨h, _⟩
    · exact h
    · rcases h with h | h <;> (rw [hvis] at h; cases h)
  refine wpAny_loadName_local I.ok.kind hvis hn hm ?_
  obtain ⟨t1, J0⟩ := exo_inst I.hok ea
  refine ks_wpAny_isType_cls (KI _ _ hC) rfl ⟨rfl, ?_⟩
  obtain ⟨hh, g, d, tk, os⟩ := s
  refine ks_wpAny_call_super (KI _ _ hC) rfl J0.at_ rfl (fun c e => nomatch e) (PySem.W.looks_mroIn KI CC.sub) (fun h' e k => ?_)
  have I1 : Inv X pins σ H ⟨h', g, d, tk, os⟩ := I.kept (t' := tk) k
  obtain ⟨t2, J1⟩ := exo_inst I1.hok ea
  have hB : PySem.W.Looks (model X.prog X.w) h' (isInstance (.ref a) (.type Bn)) true := J1.type.andThen (PySem.W.looks_subIn I1.kIn CC.subB)
  have hal : PySem.W.alongIn X.K "__init__" (((.ref C :: bm : List Value).dropWhile (· != .ref C)).drop 1) = some (some (.builtin initId)) := by
    have z := CC.sup
    unfold PySem.W.ks_superIn at z
    rw [hcl] at z
    exact z
  refine PySem.W.kxs_getMethod bx.KF e (PySem.W.looks_opaque I1.kIn CC.nop) (l₀ := .ref C :: bm) (fun A Q E s k q => wpAny_bind ((PySem.W.looks_clsIn I1.kIn hcl) A _ E s k (wpAny_pure q))) rfl I1.kIn hal hB (PySem.W.ks_ne I1.kIn J1 hcl) (by decide) ?_
  have hk2 : ∀ b o, h'.get? b = some o → (h'.push (PySem.W.kxs_mw initId a)).get? b = some o := fun b o e => Heap.get?_push_of_some _ e
  have I2 : Inv X pins σ H ⟨h'.push (PySem.W.kxs_mw initId a), g, d, tk + 1, os⟩ := I1.kept (t' := tk + 1) hk2
  have hu : (h'.push (PySem.W.kxs_mw initId a)).get? h'.objs.size = some (PySem.W.kxs_mw initId a) := Heap.get?_push_size _ rfl
  have I3 : Inv X ((h'.objs.size, PySem.W.kxs_mw initId a) :: pins) σ H ⟨h'.push (PySem.W.kxs_mw initId a), g, d, tk + 1, os⟩ :=
    pin_more I2 hu (I1.hok.fresh (Nat.le_refl _)) (Nat.ne_of_gt I1.lt) (I1.nofs (Nat.le_refl _)) (fun v e => nomatch e)
  rw [he]
  refine PySem.W.kxs_callWith (i := initId) (x := a) (by show (false || (backTo p4 (starEach es1 X.env)).any (·.1)) = false; rw [hpl]; rfl) ?_
  refine Calls.evalArgs_plain ?_
  have hrun := ha.run p4 _ _ σ H _ I3 q
  rw [he] at hrun
  refine wpAny_mono hrun (fun us s3 ⟨vs, H3, I4, r4, hz, e4, q4⟩ => ?_) fun _ _ z => z
  obtain ⟨hp4, _⟩ := I4.pin (h'.objs.size, PySem.W.kxs_mw initId a) (List.mem_append_right _ List.mem_cons_self)
  refine ⟨hp4, ?_⟩
  have hlen : us.length ≤ sizeLine := by
    rw [← Paired.length r4, sizeLine_eq]
    omega
  exact oinit_G bx CC.ox (unpin I4) e4 hp4 hlen fun s' J => ⟨H3, J, q4⟩
end
section
variable {Bn newId initId : String} {T : List Value} (bx : BaseX Bn newId initId T) {CX : CXT} {P : Program} {w : World} {K : PySem.W.Frag} {mg : Str → Option Value} {base : Heap} {k : Nat} {C : Addr}
include bx
/-- an own __init__ that first calls super().__init__(..) -/
theorem fn_sup {N ps : List Str} {name qual : Str} {params : Arguments} {body : List Stmt} {scope : Scope} {e1 : Expr} {es1 : List Expr} {rest : List Stmt} {dvs : List V} {f cc cda : Addr} {fl : Str} {fd : FuncData} {sp : Sp} {p0 p1 p2 p4 p5 : Pos} {ar : Arg}
    (D : SupD K C name qual params body scope dvs f cc cda fl fd) (CC : SupC Bn newId initId T K C) (hbd : body = .Expr (.Call (.Attribute (.Call (.Name "super" p0) [] [] p1) "__init__" p2) (e1 :: es1) [] p4) p5 :: rest)
    (hfile : (P.main.file == fl) = true) (htop : (P.main.scope.names.lookup ("super" : Str)).isSome = false) (hsu : mg "super" = none)
    (S : NdefX.NScope N ps ["__class__"] scope) (hks : scope.names.lookup ("super" : Str) = some .globalImplicit) (hp : (params.posonlyargs ++ params.args).head? = some ar) (hps : ps[0]? = some ar.arg)
    (len : ∀ vs H Q E, sp vs H Q E → vs.length = ps.length)
    (he : ∀ env, starEach (e1 :: es1) env = (false, eval e1 env) :: starEach es1 env) (hpl : ∀ env, (backTo p4 (starEach es1 env)).any (·.1) = false) {pl : Env → Sem Bool}
    (hmc : ∀ env, eval (.Call (.Attribute (.Call (.Name "super" p0) [] [] p1) "__init__" p2) (e1 :: es1) [] p4) env = (do
      let ov ← attributeBase (.Call (.Name "super" p0) [] [] p1) "__init__" env (eval (.Call (.Name "super" p0) [] [] p1) env)
      standAt p2.atName
      let (f, first) ← holding [ov] (getMethod ov "__init__" (pl env))
      callWith p4 f first (backTo p4 (starEach (e1 :: es1) env)) []))
    (hin : ∀ (L a c : Addr) (cl : List (Str × Addr)), interactive (PySem.W.envX qual scope L a (.ref c) cl) = false)
    (hbody : ∀ (A : Around) (outer : List Env) (s : Shared) (H : Hp) (vs : List V) (Q : VK) (E : XK), sp vs H Q E →
      ∃ (a : Addr) (ws : List V), vs = .ref a :: ws ∧ H a = some (exo a C none) ∧ ∃ ta t, PA (ncx CX P w K mg base N ⟨name, qual, params, body, scope, [("__class__", cc)], cda⟩ f A outer s H E) (e1 :: es1) ta ∧
        PSs (ncx CX P w K mg base N ⟨name, qual, params, body, scope, [("__class__", cc)], cda⟩ f A outer s H E) rest t ∧
        ta (startF N vs [some (.ref C)]) H fun us H1 => us.length ≤ 1000 ∧ H1 a = some (exo a C none) ∧ t { nx := fun _ H' => Q .non H', rt := Q } (startF N vs [some (.ref C)]) H1) : FnOk P w K mg base CX (k + 1) f fd ps sp := by
  refine ⟨len, fun A outer s H args us vs Q E hr e0 hb r hsp => ?_⟩
  obtain ⟨oc, od, dV, kV, doc, pm, an, ct, osl, rfl, lk, hd, hk⟩ := D.ex
  obtain ⟨cc0, cd0, cs0, ck⟩ := D.cell
  obtain ⟨ac0, ad0, avs, as0, tf, ak, av⟩ := D.code
  have hl := len _ _ _ _ hsp
  have KX : K.In s.heap := e0.mod.kin.keeps fun b o e => (e0.bs b o e).1
  have lim : s.heap.NoLimit := e0.mod.nolimit.keeps fun b o e => (e0.bs b o e).1
  have ckb := e0.mod.kin _ _ ck
  refine codeAny_call_function hr.depth (KX _ _ lk) rfl S.co S.gen rfl (PySem.W.codeRec_of KX D.cin) (hb _ _ _ _ ?_)
  refine wpAny_newFunctionEnv S.nocell (fun ⟨n, _⟩ hy => S.par n (List.of_mem_zip hy).1) (fun h₁ hns hsb => ⟨lim.fresh _ hsb, ?_⟩) S.kind
  have kp : ∀ b o, s.heap.get? b = some o → h₁.get? b = some o := fun b o e => hsb.extBut b o (Nat.ne_of_lt (Heap.lt_size e)) (Heap.get?_push_of_some _ e)
  obtain ⟨a, ws, rfl, ea, ta, t, hta, ht, hq⟩ := hbody A outer s H vs Q E hsp
  have Cl : CellsAt [("__class__", cc)] ["__class__"] [some (.ref C)] s.heap H := by
    refine ⟨rfl, fun y c e => ?_, fun x y c e1 e2 => ?_, fun i y e => ?_⟩
    · have e := PySem.mem_of_lookup e
      simp only [List.mem_singleton, Prod.mk.injEq] at e
      obtain ⟨rfl, rfl⟩ := e
      exact ⟨(e0.bs _ _ ckb).2, _, _, (e0.bs _ _ ckb).1, rfl⟩
    · have e1 := PySem.mem_of_lookup e1
      have e2 := PySem.mem_of_lookup e2
      simp only [List.mem_singleton, Prod.mk.injEq] at e1 e2
      rw [e1.1, e2.1]
    · cases i with
      | zero =>
        simp only [List.getElem?_cons_zero, Option.some.injEq] at e
        subst e
        exact ⟨cc, rfl, fun v hv => by
          simp only [List.getElem?_cons_zero, Option.some.injEq] at hv
          subst hv
          exact ⟨.ref C, rfl, _, (e0.bs _ _ ckb).1, rfl⟩⟩
      | succ i => simp at e
  have I : Inv (ncx CX P w K mg base N ⟨name, qual, params, body, scope, [("__class__", cc)], cda⟩ f A outer s H E) [] (startF N (.ref a :: ws) [some (.ref C)]) H { s with heap := h₁, toks := s.toks + (ps.zip us).length } := inv_startN S hr.hd e0 hl r Cl hns kp
  show codeAny _ _ (.func body (envF ⟨name, qual, params, body, scope, [("__class__", cc)], cda⟩ f s.heap.objs.size)) _ _
  refine ks_codeAny_funcAt ?_
  have go : PySem.wpAt (model P w) (A.deeper (envF ⟨name, qual, params, body, scope, [("__class__", cc)], cda⟩ f s.heap.objs.size)) (.func body (envF ⟨name, qual, params, body, scope, [("__class__", cc)], cda⟩ f s.heap.objs.size)) (execs body (envF ⟨name, qual, params, body, scope, [("__class__", cc)], cda⟩ f s.heap.objs.size))
      (SP (ncx CX P w K mg base N ⟨name, qual, params, body, scope, [("__class__", cc)], cda⟩ f A outer s H E) [] { nx := fun _ H' => Q .non H', rt := Q }) (ncx CX P w K mg base N ⟨name, qual, params, body, scope, [("__class__", cc)], cda⟩ f A outer s H E).xe { s with heap := h₁, toks := s.toks + (ps.zip us).length } := by
    have hX : ∃ B : List Stmt, B = body := ⟨_, rfl⟩
    obtain ⟨B, hB⟩ := hX
    rw [← hB] at hta ht I ⊢
    rw [show execs B (envF ⟨name, qual, params, B, scope, [("__class__", cc)], cda⟩ f s.heap.objs.size) = execs (.Expr (.Call (.Attribute (.Call (.Name "super" p0) [] [] p1) "__init__" p2) (e1 :: es1) [] p4) p5 :: rest) (envF ⟨name, qual, params, B, scope, [("__class__", cc)], cda⟩ f s.heap.objs.size) by rw [hB, hbd]]
    refine ks_wpAt_execs_cons (ks_wpAt_Expr_any ?_ (hin _ _ _ _) rfl)
    refine ks_wpAt_mono (sup_expr (X := ncx CX P w K mg base N ⟨name, qual, params, B, scope, [("__class__", cc)], cda⟩ f A outer s H E) (i := 0) bx CC I hks (S.frk _ List.mem_cons_self) rfl lk hp rfl ak av hfile htop hsu ?_ rfl ?_ rfl ck ea hta hq (he _) (hpl _) (hmc _)) (fun _ s' ⟨H1, J, q⟩ => ?_) fun _ _ z => z
    · have z := S.pre
      have hpl0 : 0 < ps.length := by
        cases ps with
        | nil => simp at hps
        | cons _ _ => simp
      have : (N.take (ps.length + 1))[0]? = some ar.arg := by
        rw [show ps.length + 1 = ps.length + (["__class__"] : List Str).length from rfl, z, List.getElem?_append_left hpl0]; exact hps
      rw [List.getElem?_take_of_lt (by omega)] at this
      exact this
    · exact S.par _ (List.mem_of_getElem? hps)
    · exact PySem.wpAt_of_wpAny (ht.run [] s' _ H1 _ J q)
  refine ks_wpAt_mono go (fun fl s' hs => ?_) fun e s' hs => hs
  have fin : ∀ {σ' : L2.St} {H' : Hp} {v : V} {u : Value}, Inv (ncx CX P w K mg base N ⟨name, qual, params, body, scope, [("__class__", cc)], cda⟩ f A outer s H E) [] σ' H' s' → L2.RelV v u → Q v H' → CE outer P w H s Q u s' :=
    fun {σ' H' v u} J rv q => ⟨v, H', J.os, J.bare, J.base, J.hok, rv, q⟩
  cases fl with
  | ret u =>
    obtain ⟨v, σ', H', J, rv, q⟩ := hs
    exact fin J rv q
  | next =>
    obtain ⟨σ', H', J, q⟩ := hs
    exact fin (v := V.non) (u := Value.none) J rfl q
  | brk =>
    obtain ⟨_, _, _, q⟩ := hs
    exact False.elim q
  | cont =>
    obtain ⟨_, _, _, q⟩ := hs
    exact False.elim q
end
end My
/-! ### errors with fields: made, caught, kept -/
namespace My
open PySem PySem.Spec PyProof.Rows L2 NdefX
/-! #### what the top has written of them -/
def oexB (x : Str) (newId : String) (T : List Value) : PySem.W.Frag → Bool := fun K =>
  (match K.lookup (He.ga K x) with
    | some ⟨.type "type", _, .cls cd, sl⟩ => (match cd.mro, sl.toList with
      | .ref C' :: bm, [_, _, _, _, some (.builtin n), _] => C' == He.ga K x && (n == newId && (!cd.hasDel && (cd.hasDict && refsT T bm)))
      | _, _ => false)
    | _ => false) && (He.eqO (PySem.W.findIn K (.ref (He.ga K x)) "__setattr__") (some (some (.builtin "object.__setattr__"))) && (decide (PySem.W.subIn K (.ref (He.ga K x)) (.type "BaseException") = some true) && (decide (PySem.W.typeIn K (.ref (He.ga K x)) = some (.type "type")) && PySem.W.keepIn K (.ref (He.ga K x)))))
theorem oex_ok {x : Str} {newId : String} {T : List Value} {K : PySem.W.Frag} (c : oexB x newId T K = true) : OexG newId T K (He.ga K x) := by
  obtain ⟨c1, c⟩ := He.ba c
  obtain ⟨c2, c⟩ := He.ba c
  obtain ⟨c3, c⟩ := He.ba c
  obtain ⟨c4, c5⟩ := He.ba c
  refine ⟨?_, He.eqO_ok c2, of_decide_eq_true c3, of_decide_eq_true c4, c5⟩
  split at c1
  · rename_i dd cd sl ho
    split at c1
    · rename_i C' bm k0 k1 k2 k3 n k5 hm hs
      simp only [Bool.and_eq_true, beq_iff_eq, Bool.not_eq_true'] at c1
      obtain ⟨rfl, rfl, hdel, hdict, ht⟩ := c1
      obtain ⟨nm, bs, mro, ns, qn, hd, sn, sub, ab, col, del⟩ := cd
      dsimp only at hm hdel hdict
      subst hm hdel hdict
      have hsl : sl = #[k0, k1, k2, k3, some (.builtin n), k5] := by
        obtain ⟨l⟩ := sl
        simp only at hs
        rw [hs]
      subst hsl
      exact ⟨nm, qn, ns, bs, bm, sn, sub, ab, col, dd, k0, k1, k2, k3, k5, ho, ht⟩
    · cases c1
  · cases c1
def supCB (x : Str) (Bn newId initId : String) (T : List Value) : PySem.W.Frag → Bool := fun K => oexB x newId T K && (decide (PySem.W.subIn K (.ref (He.ga K x)) (.type Bn) = some true) && (He.eqO (PySem.W.ks_superIn K (He.ga K x) (He.ga K x) "__init__") (some (some (.builtin initId))) && (He.eqO (PySem.W.nsIn K cStatics "thirdparty.any") (some none) && decide (PySem.W.mroIn K (He.ga K x) (.ref (He.ga K x)) = some true))))
theorem supC_ok {x : Str} {Bn newId initId : String} {T : List Value} {K : PySem.W.Frag} (c : supCB x Bn newId initId T K = true) : SupC Bn newId initId T K (He.ga K x) := by
  obtain ⟨c1, c⟩ := He.ba c
  obtain ⟨c2, c⟩ := He.ba c
  obtain ⟨c3, c⟩ := He.ba c
  obtain ⟨c4, c5⟩ := He.ba c
  exact ⟨oex_ok c1, of_decide_eq_true c2, He.eqO_ok c3, He.eqO_ok c4, of_decide_eq_true c5⟩
/-- where its __init__ stands -/
structure SupI (K : PySem.W.Frag) (C : Addr) : Prop where
  it : PySem.W.findIn K (.ref C) "__init__" = some (some (.ref (He.ma K C "__init__")))
  ty : PySem.W.typeIn K (.ref (He.ma K C "__init__")) = some (.type "function")
def supIB (x : Str) : PySem.W.Frag → Bool := fun K => He.eqO (PySem.W.findIn K (.ref (He.ga K x)) "__init__") (some (some (.ref (He.ma K (He.ga K x) "__init__")))) && decide (PySem.W.typeIn K (.ref (He.ma K (He.ga K x) "__init__")) = some (.type "function"))
theorem supI_ok {x : Str} {K : PySem.W.Frag} (c : supIB x K = true) : SupI K (He.ga K x) := by
  obtain ⟨c1, c2⟩ := He.ba c
  exact ⟨He.eqO_ok c1, of_decide_eq_true c2⟩
def xfNB (x f : Str) : PySem.W.Frag → Bool := fun K => xfB K (He.ga K x) && He.eqO (PySem.W.findIn K (.ref (He.ga K x)) f) (some none)
/-- a field of its own, which the class doesn't have -/
structure XfN (K : PySem.W.Frag) (C : Addr) (f : Str) : Prop where
  c : XfC K C
  no : PySem.W.findIn K (.ref C) f = some none
theorem xfN_ok {x f : Str} {K : PySem.W.Frag} (c : xfNB x f K = true) : XfN K (He.ga K x) f := by
  obtain ⟨c1, c2⟩ := He.ba c
  exact ⟨xfB_ok c1, He.eqO_ok c2⟩
abbrev SupW : Type := Option (Str × Str × Arguments × FuncBody × Scope × Addr × List Str × Addr)
def supW (K : PySem.W.Frag) (p : Str × Option Str) : SupW := match K.lookup (He.fAd K p) with
  | some ⟨_, _, .func fd, _⟩ => some (fd.name, fd.qualname, fd.params, fd.body, fd.scope, fd.globals, fd.closure.map (·.1), fd.builtins)
  | _ => none
def supVal (d : He.DefD) : SupW := some (d.name, d.qual, d.params, .stmts d.body, d.scope, mainGlobals, ["__class__"], builtinsNs)
def supDB (x : Str) (d : He.DefD) (file : Str) : PySem.W.Frag → Bool := fun K => PySem.W.keepIn K (.ref (He.fAd K d.at_)) && (match K.lookup (He.fAd K d.at_) with
  | some ⟨_, _, .func fd, _⟩ => PySem.W.codeIn K fd.code d.qual && (He.dflB K fd.defaults (d.dvs K) && (He.kwdB K fd.kwdefaults [] && ((match fd.closure with
    | [(_, cc)] => (match K.lookup cc with
      | some ⟨_, _, .cell (some (.ref C)), _⟩ => C == He.ga K x
      | _ => false)
    | _ => false) && (match fd.code with
    | .ref cda => (match K.lookup cda with
      | some ⟨_, _, .fields vs, _⟩ => (match (vs[2]? : Option Value) with
        | some (.str fl _) => fl == file
        | _ => false)
      | _ => false)
    | _ => false))))
  | _ => false)
theorem supD_ok {x : Str} {d : He.DefD} {file : Str} {K : PySem.W.Frag} (e : supW K d.at_ = supVal d) (c : supDB x d file K = true) : ∃ fd cc cda, SupD K (He.ga K x) d.name d.qual d.params d.body d.scope (d.dvs K) (He.fAd K d.at_) cc cda file fd := by
  obtain ⟨kp, c2⟩ := He.ba c
  unfold supW at e
  cases q : K.lookup (He.fAd K d.at_) with
  | none =>
    rw [q] at c2
    cases c2
  | some o =>
    obtain ⟨oc, od, dt, osl⟩ := o
    rw [q] at c2 e
    cases dt with
    | func fd =>
      obtain ⟨n1, n2, n3, n4, n5, n6, n7, n8, n9, n10, n11, n12, n13, n14, n15⟩ := fd
      have e2 : (some (n1, n2, n3, n4, n5, n6, n7.map (·.1), n15) : SupW) = (some (d.name, d.qual, d.params, FuncBody.stmts d.body, d.scope, mainGlobals, [("__class__" : Str)], builtinsNs) : SupW) := e
      simp only [Option.some.injEq, Prod.mk.injEq] at e2
      obtain ⟨h1, h2, h3, h4, h5, h6, h7, h8⟩ := e2
      subst h1 h2 h3 h4 h5 h6 h8
      obtain ⟨k1, c3⟩ := He.ba c2
      obtain ⟨k2, c4⟩ := He.ba c3
      obtain ⟨k3, c5⟩ := He.ba c4
      obtain ⟨k4, k5⟩ := He.ba c5
      clear c2 c3 c4 c5 e
      dsimp only at k1 k2 k3 k4 k5
      split at k4
      · rename_i n0 cc
        have e7 : n0 = ("__class__" : Str) := by simpa using h7
        subst e7
        split at k4
        · rename_i c0 d0 C s0 hcc
          have eC : C = He.ga K x := beq_iff_eq.mp k4
          subst eC
          split at k5
          · rename_i cda
            split at k5
            · rename_i a0 b0 vs s1 hcd
              split at k5
              · rename_i fl tf hvs
                have ef : fl = file := beq_iff_eq.mp k5
                subst ef
                exact ⟨_, cc, cda, ⟨oc, od, n8, n9, n10, n11, n12, n14, osl, rfl, q, He.dflB_ok k2, He.kwdB_ok k3⟩, ⟨_, _, _, hcc⟩, ⟨_, _, _, _, tf, hcd, hvs⟩, k1, kp⟩
              · cases k5
            · cases k5
          · cases k5
        · cases k4
      · cases k4
    | _ => cases c2
/-! #### the head with such __init__ -/
def obsS (n : Nat) (fa : List He.Fa) (fn : List He.DefD) (ex : List (PySem.W.Frag → Bool)) (sp : List He.DefD) (g : Addr → Option Obj) : (He.AlD × Bool) × List SupW :=
  let K := He.frG g (He.asD g n ++ [cStatics])
  ((He.obsD fa fn K, ex.all fun f => f K), sp.map fun d => supW K d.at_)
def hookS (n : Nat) (fa : List He.Fa) (fn : List He.DefD) (ex : List (PySem.W.Frag → Bool)) (sp : List He.DefD) : PySem.W.Hook where
  α := (He.AlD × Bool) × List SupW
  obs := fun s => obsS n fa fn ex sp s.heap.get?
  val := fun _ => ((He.valD fn, true), sp.map supVal)
  says := fun _ h => ∃ K : PySem.W.Frag, K.In h ∧ He.SaysD fa fn K ∧ (ex.all fun f => f K) = true ∧ sp.map (fun d => supW K d.at_) = sp.map supVal
  of := fun _ _ e => ⟨_, He.frG_in, congrArg (fun z : (He.AlD × Bool) × List SupW => z.1.1) e, congrArg (fun z : (He.AlD × Bool) × List SupW => z.1.2) e, congrArg (fun z : (He.AlD × Bool) × List SupW => z.2) e⟩
  keeps := fun _ _ _ ⟨K, hK, c⟩ k => ⟨K, PySem.W.Frag.In.keeps hK k, c⟩
theorem obsS_eq {n : Nat} {fa : List He.Fa} {fn : List He.DefD} {ex : List (PySem.W.Frag → Bool)} {sp : List He.DefD} {g : Addr → Option Obj} {s : Shared} (h : ∀ a, g a = s.heap.get? a) : obsS n fa fn ex sp g = (hookS n fa fn ex sp).obs s := by
  have e : g = s.heap.get? := funext h
  rw [e] <;> rfl
theorem sup_at {K : PySem.W.Frag} {sp : List He.DefD} (c : sp.map (fun d => supW K d.at_) = sp.map supVal) (i : Nat) {d : He.DefD} (h : sp[i]? = some d) : supW K d.at_ = supVal d := by
  have e2 : (sp.map fun d => supW K d.at_)[i]? = (sp.map supVal)[i]? := by rw [c]
  rw [List.getElem?_map, List.getElem?_map, h] at e2
  exact Option.some.inj e2
theorem SupD.bindsA {K : PySem.W.Frag} {C : Addr} {name qual : Str} {params : Arguments} {body : List Stmt} {scope : Scope} {f cc cda : Addr} {fl : Str} {fd : FuncData} {ps : List Str} (D : SupD K C name qual params body scope [] f cc cda fl fd)
    (h : ∀ (kV doc pm : Value) (an : Option Addr) (ct : Value) (us : List Value), us.length = ps.length → bindArgs (PySem.W.fnX name qual params body scope [("__class__", cc)] .none kV doc pm an (.ref cda) ct) ⟨us, []⟩ = pure (ps.zip us)) : Binds K fd ps [] := by
  obtain ⟨oc, od, dV, kV, doc, pm, an, ct, osl, rfl, lk, hD, hK⟩ := D.ex
  rcases hD with ⟨_, rfl⟩ | ⟨e, _⟩
  · exact .all (h kV doc pm an ct)
  · exact absurd rfl e
/-! #### self.f = e -/
def tOstG (newId : String) (T : List Value) (K : PySem.W.Frag) (f : Str) (to te : TE) : TS := fun D σ H => te σ H fun y H1 => to σ H1 fun x H2 => ∃ a C : Addr, x = .ref a ∧ OexG newId T K C ∧ PySem.W.findIn K (.ref C) f = some none ∧
  ((H2 a = some (exo a C none) ∧ ∀ dx, H2 dx = none → dx ≠ a → D.nx σ (upd (upd H2 dx (exd dx [(f, y)])) a (exo a C (some dx)))) ∨
    ∃ (dx : Addr) (fs : List (Str × V)), H2 a = some (exo a C (some dx)) ∧ H2 dx = some (exd dx fs) ∧ fs.length ≤ 900 ∧ D.nx σ (upd H2 dx (exd dx ((f, y) :: fs))))
theorem ps_ostG {Bn newId initId : String} {T : List Value} (bx : BaseX Bn newId initId T) {X : Cx} {o e : Expr} {to te : TE} {f : Str} {p' pos : Pos} (ho : PE X o to) (he : PE X e te) (hs : swapsWith e (some (.Attribute o f p')) pos.line X.env = pure false := by rfl) : PS X (.Assign [.Attribute o f p'] e pos) (tOstG newId T X.K f to te) := by
  refine ⟨fun pins s σ H D I h => ?_⟩
  refine plainObj_wpAny_Assign_Attribute (thn (he.run pins s σ H _ I h) fun v s1 ⟨y, H1, I1, r1, q1⟩ => thn (ho.run pins s1 σ H1 _ I1 q1) fun u s2 ⟨x, H2, I2, r2, a, C, ex, T', hno, q⟩ => ?_) hs
  subst ex
  obtain rfl : u = Value.ref a := r2
  rcases q with ⟨ea, q⟩ | ⟨dx, fs, ea, ed, hl, q⟩
  · exact ost_newG bx T' I2 ea hno r1 fun dx s' n ne J => ⟨σ, _, J, q dx n ne⟩
  · exact ost_oldG bx T' I2 ea ed hl hno r1 fun s' J => ⟨σ, _, J, q⟩
/-! #### C(e, ..) -/
theorem pmk_oexG {Bn newId initId : String} {T : List Value} (bx : BaseX Bn newId initId T) {X : Cx} {e : Expr} {es : List Expr} {ta : TA} {p pos : Pos} {CX : CXT} {x : Str} {C fI : Addr} {k : Nat} {fd : FuncData} {ps : List Str} {sp : Sp} {ds : List Value} {dvs : List V} (T' : OexG newId T X.K C) (iC : PySem.W.findIn X.K (.ref C) "__init__" = some (some (.ref fI))) (tI : PySem.W.typeIn X.K (.ref fI) = some (.type "function"))
    (F1 : FnOk X.prog X.w X.K X.mg X.base CX k fI fd ps sp) (hr : Room (k + 1) X.A) (hb : Binds X.K fd ps ds) (hd : Vals dvs ds) (hx : Passes CX X (fun _ _ _ => False)) (hg : Gl X x) (hm : X.mg x = some (.ref C)) (ha : PA X (e :: es) ta)
    {tq : List V → Hp → XK → Prop} (himp : ∀ vs H1 Q, tq vs H1 Q → vs.length ≤ 1000 ∧ ∀ a, H1 a = none → sp (.ref a :: (vs ++ dvs)) (upd H1 a (exo a C none))
      (fun v H2 => v = .non ∧ ∃ (d : Addr) (fs : List (Str × V)), H2 a = some (exo a C (some d)) ∧ H2 d = some (exd d fs) ∧ H1 d = none ∧ Q (.ref C) (some d) (upd (del H2 a) d (.xd fs))) (fun _ _ _ => False))
    (hdb : (x == ("__debug__" : Str)) = false := by decide) (he : starEach (e :: es) X.env = (false, eval e X.env) :: starEach es X.env := by rfl) (hpl : (backTo pos (starEach es X.env)).any (·.1) = false := by rfl) :
    PMk X (.Call (.Name x p) (e :: es) [] pos) (fun σ H Q => ta σ H fun vs H1 => tq vs H1 Q) := by
  intro pins s σ H Q I h
  obtain ⟨nm, q, N, bs, bm, sn, sub, ab, col, dd, k0, k1, k2, k3, k5, hC, hbm⟩ := T'.cls
  refine wpAny_Call_Name_kw (ld_glob I hg hm ?_ hdb)
  refine PySem.W.callWith_K (h₀ := X.base) I.ok.mod.kin T'.kC (thn (ha.run pos pins s σ H _ I h) fun us s1 ⟨vs, H1, I1, r1, q0⟩ => ⟨I1.kIn, ?_⟩) he hpl
  show wpAny _ _ (call (.ref C) us) _ _ _
  obtain ⟨hp, g, dr, tk, os⟩ := s1
  obtain ⟨hz, q1⟩ := himp _ _ _ q0
  have hsz : hp.objs.size ≤ hp.objs.size + 1 := Nat.le_succ _
  have hn : H1 (hp.objs.size + 1) = none := I1.hok.fresh hsz
  have hq := q1 (hp.objs.size + 1) hn
  have kk : ∀ b o, hp.get? b = some o → ((hp.push (PySem.W.kdv_tup us)).push (PySem.HandSPX.excO C hp.objs.size)).get? b = some o := fun b o e => Heap.get?_push_of_some _ (Heap.get?_push_of_some _ e)
  have hget : ((hp.push (PySem.W.kdv_tup us)).push (PySem.HandSPX.excO C hp.objs.size)).get? (hp.objs.size + 1) = some (PySem.HandSPX.excO C hp.objs.size) := by heap_get
  have I2 : Inv X pins σ (upd H1 (hp.objs.size + 1) (exo (hp.objs.size + 1) C none)) ⟨(hp.push (PySem.W.kdv_tup us)).push (PySem.HandSPX.excO C hp.objs.size), g, dr, tk, os⟩ :=
    I1.laid (t' := tk) (a := hp.objs.size + 1) (o := exo (hp.objs.size + 1) C none) (h' := (hp.push (PySem.W.kdv_tup us)).push (PySem.HandSPX.excO C hp.objs.size)) kk hsz (exo_ok hget)
  have r2 : Vals (V.ref (hp.objs.size + 1) :: (vs ++ dvs)) (Value.ref (hp.objs.size + 1) :: (us ++ ds)) := .cons rfl (r1.append hd)
  have hl : (Value.ref (hp.objs.size + 1) :: us ++ ds).length = ps.length := by
    have e := r2.length
    rw [F1.len _ _ _ _ hq] at e
    exact e.symm
  have hus : us.length ≤ sizeLine := by
    rw [← Paired.length r1, sizeLine_eq]
    omega
  refine wpAny_call (PySem.HandSPX.call_own bx.F (fun Y => bx.contains Y bm hbm) (I1.kIn _ _ hC) (PySem.W.looks_findIn I1.kIn iC) (fun self => PySem.W.bind_fn I1.kIn self tI) hus
    (codeAny_mono (F1.run _ X.stack _ _ ⟨Value.ref (hp.objs.size + 1) :: us, []⟩ (Value.ref (hp.objs.size + 1) :: (us ++ ds)) _ _ (fun _ _ _ => False) (hr.make C us []) (I2.env0.make C us []) (hb _ (Value.ref (hp.objs.size + 1) :: us) I2.kIn hl) r2 hq) fun r s' hq' => ?_))
  cases r with
  | error er => exact hx pins σ _ _ er s' I2 hq'
  | ok fl =>
    cases fl with
    | ret u =>
      obtain ⟨v, H2, os2, bare2, un2, hok2, rv, ev, d, fs, ea, ed, hd1, q2⟩ := hq'
      subst ev
      obtain ⟨h2, g2, d2, t2, os'⟩ := s'
      exact ⟨rv, mk_end (raises_own T'.exC T'.tyC) I1 hsz kk un2 hok2 os2 bare2 ea ed hd1 q2⟩
    | next => exact False.elim hq'
    | brk => exact False.elim hq'
    | cont => exact False.elim hq'
/-- the promise of an __init__ that sets one field -/
def sp_err1 (C : Addr) (f : Str) : Sp := fun vs H Q _ => ∃ (a : Addr) (y : V), vs = [.ref a, y] ∧ H a = some (exo a C none) ∧ ∀ dx, H dx = none → dx ≠ a → Q .non (upd (upd H dx (exd dx [(f, y)])) a (exo a C (some dx)))
def tErr1 (C : Addr) (f : Str) (ta : TA) : L2.St → Hp → XK → Prop := fun σ H Q => ta σ H fun vs H1 => ∃ y, vs = [y] ∧ ∀ dx, H1 dx = none → Q (.ref C) (some dx) (upd H1 dx (.xd [(f, y)]))
theorem upd_err {H : Hp} {a dx C : Addr} {fs : List (Str × V)} {o : HO} (ha : H a = none) (hd : upd H a o dx = none) (hne : dx ≠ a) : H dx = none ∧ upd (del (upd (upd (upd H a o) dx (exd dx fs)) a (exo a C (some dx))) a) dx (.xd fs) = upd H dx (.xd fs) := by
  rw [upd_ne hne] at hd
  refine ⟨hd, funext fun b => ?_⟩
  by_cases h1 : b = dx
  · rw [h1, upd_same, upd_same]
  · rw [upd_ne h1, upd_ne h1]
    by_cases h2 : b = a
    · rw [h2, del_same, ha]
    · rw [del_ne h2, upd_ne h2, upd_ne h1, upd_ne h2]
section
variable {Bn newId initId : String} {T : List Value} {X : Cx} {e : Expr} {es : List Expr} {ta : TA} {p pos : Pos} {CX : CXT} {x : Str} {C fI : Addr} {k : Nat} {fd : FuncData} {ps : List Str} {ds : List Value} {dvs : List V} {f g : Str}
theorem pmk_err1 (bx : BaseX Bn newId initId T) (T' : OexG newId T X.K C) (iC : PySem.W.findIn X.K (.ref C) "__init__" = some (some (.ref fI))) (tI : PySem.W.typeIn X.K (.ref fI) = some (.type "function"))
    (F1 : FnOk X.prog X.w X.K X.mg X.base CX0 k fI fd ps (sp_err1 C f)) (hr : Room (k + 1) X.A) (hb : Binds X.K fd ps []) (hg : Gl X x) (hm : X.mg x = some (.ref C)) (ha : PA X (e :: es) ta)
    (hdb : (x == ("__debug__" : Str)) = false := by decide) (he : starEach (e :: es) X.env = (false, eval e X.env) :: starEach es X.env := by rfl) (hpl : (backTo pos (starEach es X.env)).any (·.1) = false := by rfl) :
    PMk X (.Call (.Name x p) (e :: es) [] pos) (tErr1 C f ta) := by
  refine pmk_oexG bx T' iC tI F1 hr hb .nil pass0 hg hm ha (fun vs H1 Q ⟨y, ev, q⟩ => ?_) hdb he hpl
  subst ev
  refine ⟨Nat.le_of_ble_eq_true rfl, fun a na => ⟨a, y, rfl, upd_same, fun dx hdx hne => ⟨rfl, dx, _, upd_same, (upd_ne hne).trans upd_same, (upd_err (C := C) (fs := [(f, y)]) na hdx hne).1, ?_⟩⟩⟩
  rw [(upd_err (C := C) (fs := [(f, y)]) na hdx hne).2]
  exact q dx (upd_err (C := C) (fs := [(f, y)]) na hdx hne).1
end
/-! #### an error that was caught and is kept -/
/-- at a: an error of the class cls, its dict d -/
def errO (cls : Value) (d : Option Addr) (a : Addr) : HO := .ext fun h => ∃ (oe : Obj) (vs : Array Value), h.get? a = some oe ∧ Zc cls d oe ∧ oe.data = .fields vs
theorem errO_ok {P : Program} {w : World} {H : Hp} {h : Heap} {a : Addr} {cls : Value} {d : Option Addr} {oe : Obj} {vs : Array Value} (e : h.get? a = some oe) (z : Zc cls d oe) (hd : oe.data = .fields vs) : ObjOk P w H h a (errO cls d a) :=
  ⟨⟨oe, vs, e, z, hd⟩, ⟨oe, e⟩, fun _ _ ⟨o, v, q, r⟩ k => ⟨o, v, k o q, r⟩⟩
theorem Inv.err {X : Cx} {pins : List (Addr × Obj)} {σ τ : L2.St} {H G : Hp} {s sJ : Shared} {q : Addr} {cls : Value} {d : Option Addr} {oe : Obj} {vs : Array Value} (I : Inv X pins σ H s) (J : Inv X pins τ G sJ) (hx : X.ex = []) (nq : G q = none) (nJ : sJ.heap.get? q = none)
    (hq : s.heap.get? q = some oe) (z : Zc cls d oe) (hd : oe.data = .fields vs) (nH : H q = none) : Inv X pins σ (upd H q (errO cls d q)) s := by
  have neJ : ∀ {b : Addr} {o : Obj}, sJ.heap.get? b = some o → b ≠ q := fun {b o} e z => by
    rw [z, nJ] at e; cases e
  have neG : ∀ {b : Addr} {o : HO}, G b = some o → b ≠ q := fun {b o} e z => by
    rw [z, nq] at e; cases e
  refine ⟨I.ok, I.os, I.bare, ⟨I.base.keep, I.base.slot, fun b o e n hb => ?_, I.base.there, fun b xs e => ?_, fun b o u e => ?_, fun b ps e => ?_⟩, I.loc, I.cell, ?_, fun y c e => ?_, fun p hp => ?_, ?_, I.len⟩
  · obtain ⟨o', e'⟩ := J.base.there b o e (by rw [hx]; exact fun z => nomatch z)
    rw [upd_ne (neJ e')]
    exact I.base.free b o e n hb
  · rw [upd_ne (neG (J.base.tups b xs e))]
    exact I.base.tups b xs e
  · rw [upd_ne (neG (J.base.frzs b o u e))]
    exact I.base.frzs b o u e
  · obtain ⟨m, e'⟩ := J.base.tbls b ps e
    obtain ⟨m2, e2⟩ := I.base.tbls b ps e
    exact ⟨m2, by rw [upd_ne (neG e')]; exact e2⟩
  · obtain ⟨m, ⟨o, es, ep, ho, _⟩, _⟩ := J.loc
    rw [upd_ne (neJ ho)]
    exact I.free
  · obtain ⟨v, o, ho, _⟩ := J.cell y c e
    rw [upd_ne (neJ ho)]
    exact I.freeC y c e
  · obtain ⟨e, n, r⟩ := I.pin p hp
    exact ⟨e, by rw [upd_ne (neJ (J.pin p hp).1)]; exact n, r⟩
  · exact I.hok.laidN (fun _ _ e => e) nH (errO_ok hq z hd)
/-- behind a suite: the name is gone, the error is known -/
def endsK (i : Nat) (q : Addr) (cls : Value) (d : Option Addr) (D : Ends) : Ends where
  nx := fun τ G => G q = none → D.nx (τ.set i none) (upd G q (errO cls d q))
  rt := fun v G => G q = none → D.rt v (upd G q (errO cls d q))
  bk := fun τ G => G q = none → D.bk (τ.set i none) (upd G q (errO cls d q))
  ct := fun τ G => G q = none → D.ct (τ.set i none) (upd G q (errO cls d q))
def wK (K : PySem.W.Frag) (i : Nat) (D : Ends) : List (Bool × Value × (Addr → Value → Option Addr → TS)) → WX
  | [] => fun _ _ _ _ => False
  | (true, c, ts) :: r => fun cls d τ G => ∃ b, PySem.W.exmOne K cls c = some b ∧ (b = true → ∀ q, G q = none → ts q cls d (endsK i q cls d D) (τ.set i (some (.ref q))) G) ∧ (b = false → wK K i D r cls d τ G)
  | (false, c, ts) :: r => fun cls d τ G => ∃ b, PySem.W.exmOne K cls c = some b ∧ (b = true → ∀ q, G q = none → ts q cls d D τ G) ∧ (b = false → wK K i D r cls d τ G)
/-- clauses, with the error's name or without -/
inductive KClauses (X : Cx) (n : Str) : List ExceptHandler → List (Bool × Value × (Addr → Value → Option Addr → TS)) → Prop
  | none : KClauses X n [] []
  | named {x : Str} {c : Value} {ts : Addr → Value → Option Addr → TS} {b : Stmt} {bs : List Stmt} {px ph : Pos} {hs : List ExceptHandler} {l : List (Bool × Value × (Addr → Value → Option Addr → TS))} (nm : Names X x c)
      (su : ∀ (q : Addr) (oq : Obj) (cls : Value) (d : Option Addr) (pn : List (Addr × Obj)), Zc cls d oq → (∃ vs, oq.data = .fields vs) → PSs (X.suite q ((q, oq) :: pn)) (b :: bs) (ts q cls d)) (r : KClauses X n hs l) :
      KClauses X n (.ExceptHandler (some (.Name x px)) (some n) (b :: bs) ph :: hs) ((true, c, ts) :: l)
  | bare {x : Str} {c : Value} {ts : Addr → Value → Option Addr → TS} {b : Stmt} {bs : List Stmt} {px ph : Pos} {hs : List ExceptHandler} {l : List (Bool × Value × (Addr → Value → Option Addr → TS))} (nm : Names X x c)
      (su : ∀ (q : Addr) (oq : Obj) (cls : Value) (d : Option Addr) (pn : List (Addr × Obj)), Zc cls d oq → (∃ vs, oq.data = .fields vs) → PSs (X.suite q ((q, oq) :: pn)) (b :: bs) (ts q cls d)) (r : KClauses X n hs l) :
      KClauses X n (.ExceptHandler (some (.Name x px)) Option.none (b :: bs) ph :: hs) ((false, c, ts) :: l)
theorem ps_tryK {X : Cx} {n : Str} {i : Nat} {body : List Stmt} {h0 : ExceptHandler} {hs : List ExceptHandler} {l : List (Bool × Value × (Addr → Value → Option Addr → TS))} {pos : Pos} {tb : WX → TS}
    (stk : X.stack = X.env :: X.outer) (frm : X.env.frame = some X.env.locals) (nd : X.N.Nodup) (at_ : X.N[i]? = some n) (loc : X.env.kindOf n = some .local) (hex : X.ex = [])
    (bd : ∀ (W : WX) (pn : List (Addr × Obj)) (xe : Value → Shared → Prop), Takes (X.tr pn xe) W → PassesOwn (model X.prog X.w) X.A X.env xe → PSs (X.tr pn xe) body (tb W)) (cl : KClauses X n (h0 :: hs) l) :
    PS X (.Try body (h0 :: hs) [] [] pos) (fun D σ H => tb (wK X.K i D l) D σ H) := by
  refine ⟨fun pz s σ H D I hw => ?_⟩
  have okX := I.ok
  have frs_ : X.A.frames = some (X.env :: X.outer) := by rw [okX.frames, stk]
  have lc : Loc X.env.scope n := .inl loc
  refine wpAny_Try_except (wpAny_mono ((bd (wK X.K i D l) (X.pn ++ pz) (fun e z => wpAny (model X.prog X.w) X.A (noteFrame e X.env) (fun _ z2 => wpAny (model X.prog X.w) X.A (setFlight e none)
    (fun _ z3 => wpAny (model X.prog X.w) X.A (handleBy e X.env (h0 :: hs)) (SP X pz D) X.xe z3) X.xe z2) X.xe z) (fun u z xx => ?_) PassesOwn.looking).run [] s σ H D (I.toTry _) hw) (fun fl z q => ?_) fun _ _ z => z)
  · obtain ⟨q, G0, sJ, pz', τ, G, cls, d, rfl, J', nb, up, sky, nq, os, ag, w⟩ := xx
    have J : Inv X pz τ G sJ := J'.ofTry okX
    have sk2 : Sky G0 (X.env :: X.outer) q (Zc cls d) X.env.locals z.heap := stk ▸ sky
    refine Sky.land Zc.steady frs_ frm sk2 fun g3 f3 u3 => ?_
    have J3 : Inv X pz τ G { z with heap := g3 } := J.landed nb f3.1 (up.trans u3) os ag
    obtain ⟨o3, v3, e3, z3, d3⟩ := f3.there
    have out : q ∉ frs (X.env :: X.outer) := fun hm => by
      obtain ⟨_, o', e', no⟩ := f3.2.2.1.mem hm
      rw [e3] at e'; cases e'; exact no _ d3
    have nJ : sJ.heap.get? q = none := by
      cases e : sJ.heap.get? q with
      | none => rfl
      | some o =>
        have y := nb q o e (by rw [stk]; exact out)
        rw [f3.2.1] at y
        cases y
    have nL : q ≠ X.env.locals := fun e => out (List.mem_filterMap.mpr ⟨X.env, List.mem_cons_self, by rw [frm, e]⟩)
    have nF : q ∉ X.fs := fun hm => by
      obtain ⟨e, he, e2⟩ := List.mem_filterMap.mp hm; exact out (List.mem_filterMap.mpr ⟨e, List.mem_cons_of_mem _ he, e2⟩)
    have S3 := J3.suite e3 d3 nq nL nF
    have LT : PySem.W.Looks (model X.prog X.w) g3 (typeOf (.ref q)) cls := fun _ _ _ _ k r => wpAny_typeOf_ref (k _ _ e3) (by rw [z3.1]; exact r)
    have go : ∀ {hs2 : List ExceptHandler} {l2 : List (Bool × Value × (Addr → Value → Option Addr → TS))}, KClauses X n hs2 l2 → wK X.K i D l2 cls d τ G → wpAny (model X.prog X.w) X.A (handleBy (.ref q) X.env hs2) (SP X pz D) X.xe { z with heap := g3 } := by
      intro hs2 l2 ck
      induction ck with
      | none => exact fun w => w.elim
      | @named x c ts b bs px ph hs3 l3 nm su r ih =>
        rintro ⟨ans, ea, yes, no⟩
        refine wpAny_handleBy_cons (codeAny_handlers_test ?_) (fun k => nomatch k)
        have LM := PySem.W.exm_one (M := model X.prog X.w) J3.kIn LT ea
        have nameIs : ∀ {R F : Value → Shared → Prop}, R c { z with heap := g3 } → wpAny (model X.prog X.w) (X.A.mark (some (.ref q))) (eval (.Name x px) X.env) R F { z with heap := g3 } := fun {R F} k => by
          obtain ⟨gl, db, m1 | ⟨m1, m2, m3⟩⟩ := nm
          · exact ld_glob (X := X.suite q ((q, o3) :: (X.pn ++ pz))) S3 gl m1 k db
          · exact ld_blt (X := X.suite q ((q, o3) :: (X.pn ++ pz))) S3 gl m1 m2 k m3 db
        refine nameIs (LM.here ?_)
        cases ans with
        | false => exact ih (no rfl)
        | true =>
          refine codeAny_handlers_suite_as (HandSPX.lands_againZ f3 fun g4 f4 u4 => ?_)
          have J4 : Inv X pz τ G { z with heap := g4 } := J.landed nb f4.1 ((up.trans u3).trans u4) os ag
          obtain ⟨o4, v4, e4, z4, d4⟩ := f4.there
          refine store_ok (X := X.suite q ((q, o4) :: (X.pn ++ pz))) (v := .ref q) (J4.suite e4 d4 nq nL nF) nd at_ lc rfl (fun s5 S5 => ?_) (.inr loc)
          refine wpAny_mono ((su q o4 cls d (X.pn ++ pz) z4 ⟨_, d4⟩).run [] s5 _ G _ S5 (yes rfl q nq)) (fun fl s6 k => ?_) fun _ _ k => k.elim
          have bye : ∀ {τ6 : L2.St} {G6 : Hp} {R : Shared → Prop}, Inv (X.suite q ((q, o4) :: (X.pn ++ pz))) [] τ6 G6 s6 → (G6 q = none → ∀ s7, Inv X pz (τ6.set i none) (upd G6 q (errO cls d q)) s7 → R s7) →
              wpAny (model X.prog X.w) X.A (do bindName X.env n .none; unbindBehindTheSuite X.env n ph) (fun _ s7 => R s7) X.xe s6 := fun {τ6 G6 R} S6 k => by
            obtain ⟨y1, y2, y3, y4, y5⟩ := S6.pin (q, o4) (List.mem_append_left _ List.mem_cons_self)
            refine gone_ok (pin_more (S6.unsuite okX) y1 y2 y3 y4 y5) nd at_ loc fun s7 J7 => k y2 s7 ?_
            obtain ⟨w1, w2, _⟩ := J7.pin (q, o4) (List.mem_append_right _ List.mem_cons_self)
            exact Inv.err (unpin J7) J hex nq nJ w1 z4 d4 w2
          cases fl with
          | next => obtain ⟨_, _, S6, k⟩ := k; exact bye S6 fun y s7 J7 => ⟨_, _, J7, k y⟩
          | brk => obtain ⟨_, _, S6, k⟩ := k; exact bye S6 fun y s7 J7 => ⟨_, _, J7, k y⟩
          | cont => obtain ⟨_, _, S6, k⟩ := k; exact bye S6 fun y s7 J7 => ⟨_, _, J7, k y⟩
          | ret u => obtain ⟨_, _, _, S6, r6, k⟩ := k; exact bye S6 fun y s7 J7 => ⟨_, _, _, J7, r6, k y⟩
      | @bare x c ts b bs px ph hs3 l3 nm su r ih =>
        rintro ⟨ans, ea, yes, no⟩
        refine wpAny_handleBy_cons (codeAny_handlers_test ?_) (fun k => nomatch k)
        have LM := PySem.W.exm_one (M := model X.prog X.w) J3.kIn LT ea
        have nameIs : ∀ {R F : Value → Shared → Prop}, R c { z with heap := g3 } → wpAny (model X.prog X.w) (X.A.mark (some (.ref q))) (eval (.Name x px) X.env) R F { z with heap := g3 } := fun {R F} k => by
          obtain ⟨gl, db, m1 | ⟨m1, m2, m3⟩⟩ := nm
          · exact ld_glob (X := X.suite q ((q, o3) :: (X.pn ++ pz))) S3 gl m1 k db
          · exact ld_blt (X := X.suite q ((q, o3) :: (X.pn ++ pz))) S3 gl m1 m2 k m3 db
        refine nameIs (LM.here ?_)
        cases ans with
        | false => exact ih (no rfl)
        | true =>
          refine codeAny_handlers_suite ?_
          refine HandSPX.lands_againZ f3 fun g4 f4 u4 => ?_
          have J4 : Inv X pz τ G { z with heap := g4 } := J.landed nb f4.1 ((up.trans u3).trans u4) os ag
          obtain ⟨o4, v4, e4, z4, d4⟩ := f4.there
          refine wpAny_mono ((su q o4 cls d (X.pn ++ pz) z4 ⟨_, d4⟩).run [] _ _ G _ (J4.suite e4 d4 nq nL nF) (yes rfl q nq)) (fun fl s6 k => ?_) fun _ _ k => k.elim
          cases fl with
          | next => obtain ⟨_, _, S6, k⟩ := k; exact ⟨_, _, S6.unsuite okX, k⟩
          | brk => obtain ⟨_, _, S6, k⟩ := k; exact ⟨_, _, S6.unsuite okX, k⟩
          | cont => obtain ⟨_, _, S6, k⟩ := k; exact ⟨_, _, S6.unsuite okX, k⟩
          | ret u => obtain ⟨_, _, _, S6, r6, k⟩ := k; exact ⟨_, _, _, S6.unsuite okX, r6, k⟩
    exact go cl w
  · cases fl with
    | next => obtain ⟨_, _, J', k⟩ := q; exact wpAny_execs_nil ⟨_, _, J'.ofTry okX, k⟩
    | brk => obtain ⟨_, _, J', k⟩ := q; exact ⟨_, _, J'.ofTry okX, k⟩
    | cont => obtain ⟨_, _, J', k⟩ := q; exact ⟨_, _, J'.ofTry okX, k⟩
    | ret u => obtain ⟨_, _, _, J', r, k⟩ := q; exact ⟨_, _, _, J'.ofTry okX, r, k⟩
/-! #### what is asked of a kept error -/
end My
namespace PySem.W
open PySem PySem.Spec PySem.Calls PyProof.Rows
section
variable {prog : Program} {w : World} {A : Around} {E : Value → Shared → Prop} {s : Shared} {K : Frag} {x D : Addr} {ox : Obj} {od : Option Obj}
theorem findObj_dataG {C : Addr} {name : Str} {a g : Value} (hc : (clsIn K C).isSome = true) (ha : findIn K (.ref C) name = some (some a)) (hg : specialIn K a "__get__" = some (some g)) (ht : takesIn K a = some true) : findObj K C od name = some (.bind g a) := by
  obtain ⟨cd, hc⟩ := Option.isSome_iff_exists.mp hc
  unfold findObj
  rw [hc, Option.bind_some, ha, Option.bind_some]
  simp [hg, ht]
theorem kin_classG {Q : Option Value → Shared → Prop} (hga : findIn K (.ref D) "__getattribute__" = some (some (.builtin "BaseException.__getattribute__"))) (hgt : findIn K (.ref D) "__getattr__" = some none) (hsub : subIn K (.ref D) (.type "BaseException") = some true)
    (hdct : hasDictIn K D = true) (ha : findIn K (.ref D) "__class__" = some (some (.builtin "object.__class__")))
    (hn : specialIn K (.builtin "object.__class__") "__get__" = some (some (.builtin "getset_descriptor.__get__"))) (htk : takesIn K (.builtin "object.__class__") = some true) (hm : mroIn K D (.type "object") = some true)
    (X : K.In s.heap) (I : InstAt s.heap x ox D od) (h : Q (some (.ref D)) { s with toks := s.toks + 1 }) : wpAny (model prog w) A (getAttr? (.ref x) "__class__") Q E s := by
  have hf : findObj K D od "__class__" = some (.bind (.builtin "getset_descriptor.__get__") (.builtin "object.__class__")) := findObj_dataG (by obtain ⟨cd, hc, _⟩ := any_some hdct; rw [hc]; rfl) ha hn htk
  obtain ⟨hp, g, d, t, os⟩ := s
  have L0 := I.type (M := model prog w)
  have L1 := looks_findIn (M := model prog w) X hga
  have L2 := looks_findIn (M := model prog w) X hgt
  have L3 := looks_find (M := model prog w) X I hf
  have sub : Looks (model prog w) hp (isInstance (.ref x) (.type "BaseException")) true := L0.andThen (looks_subIn X hsub)
  have hx0 : (false && onTheHeap (Value.builtin "BaseException.__getattribute__")) = false := rfl
  have hx2 : (Value.builtin "BaseException.__getattribute__" == Value.builtin "object.__getattribute__") = false := by decide +kernel
  have hx1 : (onTheHeap (Value.ref D) && Value.builtin "BaseException.__getattribute__" == Value.builtin "object.__getattribute__") = false := by rw [hx2]; rfl
  unfold getAttr? getAttrBy? getAttrBy
  refine wpAny_bind (wpAny_mkText (wpAny_bind (wpAny_attempt (wpAny_holding (wpAny_bind (L0.at (wpAny_bind (L1.at ?_))))))))
  show wpAny _ _ (if (onTheHeap (Value.ref D) && Value.builtin "BaseException.__getattribute__" == Value.builtin "object.__getattribute__") = true then _ else _) _ _ _
  rw [hx1, if_neg Bool.false_ne_true]
  unfold getAttrByItsOwn hookBefore
  refine wpAny_bind ?_
  rw [if_pos (show onTheHeap (Value.ref D) = true from rfl)]
  refine L2.at ?_
  refine wpAny_bind (wpAny_attempt (wpAny_holding ?_))
  unfold callGetattribute
  rw [hx0, if_neg Bool.false_ne_true]
  unfold boundAndCalled
  rw [PySem.F.excAttr_ValueError.ga.bind (.ref x)]
  refine wpAny_bind (wpAny_pure ?_)
  show wpAny _ _ (call (.builtin "BaseException.__getattribute__") [.ref x, .str "__class__" t]) _ _ _
  refine wpAny_call (codeAny_call_builtin PySem.F.excAttr_ValueError.ga.plain PySem.F.entry_bexc_ga ?_)
  refine @check_slot (model prog w) _ _ ⟨hp, g, d, t + 1, os⟩ "BaseException.__getattribute__" "BaseException" "__getattribute__" (.ref x) [.str "__class__" t] [] _ (by decide +kernel) (by decide +kernel) sub (PySem.F.args_bexc_ga (.ref x) (.str "__class__" t)) ?_
  unfold Builtin.«object.__getattribute__»
  refine wpAny_bind (wpAny_of_eq (a := ((Value.ref x : Value), [Value.str "__class__" t])) (by first | rfl | (simp only [slotArgs]; rfl)) ?_)
  refine wpAny_bind (wpAny_pure (wpAny_bind (L0.at (wpAny_bind (L3.at ?_)))))
  show wpAny _ _ (holding [Value.builtin "object.__class__"] (call (.builtin "getset_descriptor.__get__") [.builtin "object.__class__", .ref x, .ref D]) >>= ret) _ _ _
  refine wpAny_bind (wpAny_holding (wpAny_call (class_get (s := ⟨hp, g, d, t + 1, os⟩) (ox := ox) (od := od) X I hm ?_)))
  refine wpAny_pure ?_
  show wpAny _ _ (handedOut (.ref D)) _ _ _
  rw [handedOut_of (v := .ref D) rfl]
  first
    | exact wpAny_pure (wpAny_pure h)
    | exact wpAny_pure h
    | exact wpAny_pure (wpAny_bind (wpAny_pure (wpAny_pure h)))
theorem kitx_err (hga : findIn K (.ref D) "__getattribute__" = some (some (.builtin "BaseException.__getattribute__"))) (hgt : findIn K (.ref D) "__getattr__" = some none) (hsub : subIn K (.ref D) (.type "BaseException") = some true) (hdct : hasDictIn K D = true) (ha : findIn K (.ref D) "__class__" = some (some (.builtin "object.__class__")))
    (hn : specialIn K (.builtin "object.__class__") "__get__" = some (some (.builtin "getset_descriptor.__get__"))) (htk : takesIn K (.builtin "object.__class__") = some true) (hm : mroIn K D (.type "object") = some true) :
    KitX K (.ref x) (.ref D) (fun h => InstAt h x ox D od) where
  ty := fun _ _ _ I => I.type
  it := fun _ _ X _ => by
    obtain ⟨cdD, hcD, _⟩ := any_some hdct
    unfold clsIn at hcD
    split at hcD
    · rename_i c' d' cd' sl' ho
      intro A' Q' E' s' k q
      unfold isType loadHead
      exact wpAny_bind (wpAny_loadPart (k _ _ (X _ _ ho)) (wpAny_pure q))
    · cases hcD
  ne := fun h tp dd its n sl X htp => by
    obtain ⟨cdD, hcD, _⟩ := any_some hdct
    refine Bool.eq_false_iff.mpr fun q => ?_
    have e : D = tp := Value.ref.inj (beq_iff_eq.mp q)
    subst e
    unfold clsIn at hcD
    split at hcD
    · rename_i c' d' cd' sl' ho
      have z := (X _ _ ho).symm.trans htp
      cases z
    · cases hcD
  ca := fun X I k => kin_classG hga hgt hsub hdct ha hn htk hm X I k
end
end PySem.W
namespace My
open PySem PySem.Spec PyProof.Rows L2 NdefX
end My
namespace K26
open PySem PySem.Spec PyProof.Rows L2 My
/-! ### the text by places -/
def topS (i : Nat) : Stmt := PySem.Challenge.pw_sizeladders_k26_led_by_own_ends.main.body.getD i (.Pass ⟨0, 0, 0, 0⟩)
abbrev s_is_whole : Stmt := (topS 2)
abbrev s_is_tuple_of : Stmt := (topS 3)
abbrev s_are_wholes : Stmt := (topS 4)
abbrev s_common_part : Stmt := (topS 17)
abbrev s_Measure_init : Stmt := (inClass (topS 19) 0)
abbrev s_Measure_eq : Stmt := (inClass (topS 19) 1)
abbrev s_Measure_repr : Stmt := (inClass (topS 19) 3)
abbrev s_Measure_plus : Stmt := (inClass (topS 19) 4)
abbrev s_Measure_minus : Stmt := (inClass (topS 19) 5)
abbrev s_Measure_parted : Stmt := (inClass (topS 19) 7)
abbrev s_Measure_is_below : Stmt := (inClass (topS 19) 8)
abbrev s_is_measure_or_none : Stmt := (topS 20)
abbrev s_slip_of : Stmt := (topS 22)
abbrev s_is_empty : Stmt := (topS 24)
abbrev s_cut_low : Stmt := (topS 26)
abbrev s_cut_high : Stmt := (topS 27)
abbrev s_some_measure : Stmt := (topS 28)
abbrev s_Stretch_init : Stmt := (inClass (topS 29) 0)
abbrev s_Stretch_shared : Stmt := (inClass (topS 29) 6)
abbrev s_Stretch_cut : Stmt := (inClass (topS 29) 7)
abbrev s_are_marks : Stmt := (topS 33)
abbrev s_is_rule : Stmt := (topS 34)
abbrev s_is_span : Stmt := (topS 35)
abbrev s_midsts_of : Stmt := (topS 36)
abbrev s_size_by_rule : Stmt := (topS 37)
abbrev s_end_at : Stmt := (topS 38)
abbrev s_stretch_by_rule : Stmt := (topS 39)
abbrev s_has_size : Stmt := (topS 40)
abbrev s_Ladder_init : Stmt := (inClass (topS 42) 0)
abbrev s_Ladder_len : Stmt := (inClass (topS 42) 4)
abbrev s_Ladder_size : Stmt := (inClass (topS 42) 5)
abbrev s_Ladder_stretch : Stmt := (inClass (topS 42) 6)
abbrev s_shared_by : Stmt := (topS 44)
abbrev s_common_measures : Stmt := (topS 45)
abbrev s_led : Stmt := (topS 46)
abbrev s_led_paper : Stmt := (topS 47)
abbrev s_comes_to : Stmt := (topS 48)
abbrev s_is_paper : Stmt := (topS 49)
abbrev s_shows_led : Stmt := (topS 50)
abbrev s_l_begin : Stmt := (topS 52)
abbrev s_l_pick : Stmt := (topS 53)
abbrev s_l_of : Stmt := (topS 54)
abbrev s_l_parts : Stmt := (topS 55)
abbrev s_l_less : Stmt := (topS 56)
abbrev s_l_plus : Stmt := (topS 57)
abbrev s_l_mid : Stmt := (topS 58)
abbrev s_l_drawn : Stmt := (topS 59)
abbrev s_l_made : Stmt := (topS 60)
abbrev s_l_cut : Stmt := (topS 61)
abbrev s_l_part : Stmt := (topS 62)
abbrev s_l_met : Stmt := (topS 63)
abbrev s_l_scaled : Stmt := (topS 64)
abbrev s_l_ladders : Stmt := (topS 65)
abbrev s_l_asked : Stmt := (topS 66)
abbrev s_l_caught : Stmt := (topS 67)
abbrev s_l_right : Stmt := (topS 68)
abbrev s_law : Stmt := (topS 69)
abbrev N_is_whole : List Str := ["thing"]
abbrev p_is_whole : List Str := ["thing"]
theorem sc_is_whole : FnScope N_is_whole p_is_whole (defScope s_is_whole) := ⟨rfl, rfl, rfl, by decide +kernel, rfl, by decide +kernel, by decide +kernel⟩
abbrev N_is_tuple_of : List Str := ["thing", "many"]
abbrev p_is_tuple_of : List Str := ["thing", "many"]
theorem sc_is_tuple_of : FnScope N_is_tuple_of p_is_tuple_of (defScope s_is_tuple_of) := ⟨rfl, rfl, rfl, by decide +kernel, rfl, by decide +kernel, by decide +kernel⟩
abbrev N_are_wholes : List Str := ["thing", "part"]
abbrev p_are_wholes : List Str := ["thing"]
theorem sc_are_wholes : FnScope N_are_wholes p_are_wholes (defScope s_are_wholes) := ⟨rfl, rfl, rfl, by decide +kernel, rfl, by decide +kernel, by decide +kernel⟩
abbrev N_common_part : List Str := ["one", "other", "great", "small"]
abbrev p_common_part : List Str := ["one", "other"]
theorem sc_common_part : FnScope N_common_part p_common_part (defScope s_common_part) := ⟨rfl, rfl, rfl, by decide +kernel, rfl, by decide +kernel, by decide +kernel⟩
abbrev N_Measure_init : List Str := ["self", "top", "bottom", "common"]
abbrev p_Measure_init : List Str := ["self", "top", "bottom"]
theorem sc_Measure_init : FnScope N_Measure_init p_Measure_init (defScope s_Measure_init) := ⟨rfl, rfl, rfl, by decide +kernel, rfl, by decide +kernel, by decide +kernel⟩
abbrev N_Measure_eq : List Str := ["self", "other"]
abbrev p_Measure_eq : List Str := ["self", "other"]
theorem sc_Measure_eq : FnScope N_Measure_eq p_Measure_eq (defScope s_Measure_eq) := ⟨rfl, rfl, rfl, by decide +kernel, rfl, by decide +kernel, by decide +kernel⟩
abbrev N_Measure_repr : List Str := ["self"]
abbrev p_Measure_repr : List Str := ["self"]
theorem sc_Measure_repr : FnScope N_Measure_repr p_Measure_repr (defScope s_Measure_repr) := ⟨rfl, rfl, rfl, by decide +kernel, rfl, by decide +kernel, by decide +kernel⟩
abbrev N_Measure_plus : List Str := ["self", "other"]
abbrev p_Measure_plus : List Str := ["self", "other"]
theorem sc_Measure_plus : FnScope N_Measure_plus p_Measure_plus (defScope s_Measure_plus) := ⟨rfl, rfl, rfl, by decide +kernel, rfl, by decide +kernel, by decide +kernel⟩
abbrev N_Measure_minus : List Str := ["self", "other"]
abbrev p_Measure_minus : List Str := ["self", "other"]
theorem sc_Measure_minus : FnScope N_Measure_minus p_Measure_minus (defScope s_Measure_minus) := ⟨rfl, rfl, rfl, by decide +kernel, rfl, by decide +kernel, by decide +kernel⟩
abbrev N_Measure_parted : List Str := ["self", "many"]
abbrev p_Measure_parted : List Str := ["self", "many"]
theorem sc_Measure_parted : FnScope N_Measure_parted p_Measure_parted (defScope s_Measure_parted) := ⟨rfl, rfl, rfl, by decide +kernel, rfl, by decide +kernel, by decide +kernel⟩
abbrev N_Measure_is_below : List Str := ["self", "other", "alike", "here", "there"]
abbrev p_Measure_is_below : List Str := ["self", "other", "alike"]
theorem sc_Measure_is_below : FnScope N_Measure_is_below p_Measure_is_below (defScope s_Measure_is_below) := ⟨rfl, rfl, rfl, by decide +kernel, rfl, by decide +kernel, by decide +kernel⟩
abbrev N_is_measure_or_none : List Str := ["thing"]
abbrev p_is_measure_or_none : List Str := ["thing"]
theorem sc_is_measure_or_none : FnScope N_is_measure_or_none p_is_measure_or_none (defScope s_is_measure_or_none) := ⟨rfl, rfl, rfl, by decide +kernel, rfl, by decide +kernel, by decide +kernel⟩
abbrev N_slip_of : List Str := ["rows", "number"]
abbrev p_slip_of : List Str := ["rows"]
theorem sc_slip_of : FnScope N_slip_of p_slip_of (defScope s_slip_of) := ⟨rfl, rfl, rfl, by decide +kernel, rfl, by decide +kernel, by decide +kernel⟩
abbrev N_is_empty : List Str := ["low", "high", "low_in", "high_in"]
abbrev p_is_empty : List Str := ["low", "high", "low_in", "high_in"]
theorem sc_is_empty : FnScope N_is_empty p_is_empty (defScope s_is_empty) := ⟨rfl, rfl, rfl, by decide +kernel, rfl, by decide +kernel, by decide +kernel⟩
abbrev N_cut_low : List Str := ["one", "other"]
abbrev p_cut_low : List Str := ["one", "other"]
theorem sc_cut_low : FnScope N_cut_low p_cut_low (defScope s_cut_low) := ⟨rfl, rfl, rfl, by decide +kernel, rfl, by decide +kernel, by decide +kernel⟩
abbrev N_cut_high : List Str := ["one", "other"]
abbrev p_cut_high : List Str := ["one", "other"]
theorem sc_cut_high : FnScope N_cut_high p_cut_high (defScope s_cut_high) := ⟨rfl, rfl, rfl, by decide +kernel, rfl, by decide +kernel, by decide +kernel⟩
abbrev N_some_measure : List Str := ["stretch"]
abbrev p_some_measure : List Str := ["stretch"]
theorem sc_some_measure : FnScope N_some_measure p_some_measure (defScope s_some_measure) := ⟨rfl, rfl, rfl, by decide +kernel, rfl, by decide +kernel, by decide +kernel⟩
abbrev N_Stretch_init : List Str := ["self", "low", "high", "low_in", "high_in"]
abbrev p_Stretch_init : List Str := ["self", "low", "high", "low_in", "high_in"]
theorem sc_Stretch_init : FnScope N_Stretch_init p_Stretch_init (defScope s_Stretch_init) := ⟨rfl, rfl, rfl, by decide +kernel, rfl, by decide +kernel, by decide +kernel⟩
abbrev N_Stretch_shared : List Str := ["self", "other", "both"]
abbrev p_Stretch_shared : List Str := ["self", "other"]
theorem sc_Stretch_shared : FnScope N_Stretch_shared p_Stretch_shared (defScope s_Stretch_shared) := ⟨rfl, rfl, rfl, by decide +kernel, rfl, by decide +kernel, by decide +kernel⟩
abbrev N_Stretch_cut : List Str := ["self", "other", "low", "low_in", "high", "high_in"]
abbrev p_Stretch_cut : List Str := ["self", "other"]
theorem sc_Stretch_cut : FnScope N_Stretch_cut p_Stretch_cut (defScope s_Stretch_cut) := ⟨rfl, rfl, rfl, by decide +kernel, rfl, by decide +kernel, by decide +kernel⟩
abbrev N_are_marks : List Str := ["thing", "mark"]
abbrev p_are_marks : List Str := ["thing"]
theorem sc_are_marks : FnScope N_are_marks p_are_marks (defScope s_are_marks) := ⟨rfl, rfl, rfl, by decide +kernel, rfl, by decide +kernel, by decide +kernel⟩
abbrev N_is_rule : List Str := ["thing"]
abbrev p_is_rule : List Str := ["thing"]
theorem sc_is_rule : FnScope N_is_rule p_is_rule (defScope s_is_rule) := ⟨rfl, rfl, rfl, by decide +kernel, rfl, by decide +kernel, by decide +kernel⟩
abbrev N_is_span : List Str := ["least", "most"]
abbrev p_is_span : List Str := ["least", "most"]
theorem sc_is_span : FnScope N_is_span p_is_span (defScope s_is_span) := ⟨rfl, rfl, rfl, by decide +kernel, rfl, by decide +kernel, by decide +kernel⟩
abbrev N_midsts_of : List Str := ["marks", "at"]
abbrev p_midsts_of : List Str := ["marks"]
theorem sc_midsts_of : FnScope N_midsts_of p_midsts_of (defScope s_midsts_of) := ⟨rfl, rfl, rfl, by decide +kernel, rfl, by decide +kernel, by decide +kernel⟩
abbrev N_size_by_rule : List Str := ["marks", "rule", "measure", "mark", "midst"]
abbrev p_size_by_rule : List Str := ["marks", "rule", "measure"]
theorem sc_size_by_rule : FnScope N_size_by_rule p_size_by_rule (defScope s_size_by_rule) := ⟨rfl, rfl, rfl, by decide +kernel, rfl, by decide +kernel, by decide +kernel⟩
abbrev N_end_at : List Str := ["ends", "at"]
abbrev p_end_at : List Str := ["ends", "at"]
theorem sc_end_at : FnScope N_end_at p_end_at (defScope s_end_at) := ⟨rfl, rfl, rfl, by decide +kernel, rfl, by decide +kernel, by decide +kernel⟩
abbrev N_stretch_by_rule : List Str := ["marks", "rule", "number", "midsts"]
abbrev p_stretch_by_rule : List Str := ["marks", "rule", "number"]
theorem sc_stretch_by_rule : FnScope N_stretch_by_rule p_stretch_by_rule (defScope s_stretch_by_rule) := ⟨rfl, rfl, rfl, by decide +kernel, rfl, by decide +kernel, by decide +kernel⟩
abbrev N_has_size : List Str := ["ladder", "thing"]
abbrev p_has_size : List Str := ["ladder", "thing"]
theorem sc_has_size : FnScope N_has_size p_has_size (defScope s_has_size) := ⟨rfl, rfl, rfl, by decide +kernel, rfl, by decide +kernel, by decide +kernel⟩
abbrev N_Ladder_init : List Str := ["self", "marks", "rule", "least", "most", "slip"]
abbrev p_Ladder_init : List Str := ["self", "marks", "rule", "least", "most"]
theorem sc_Ladder_init : FnScope N_Ladder_init p_Ladder_init (defScope s_Ladder_init) := ⟨rfl, rfl, rfl, by decide +kernel, rfl, by decide +kernel, by decide +kernel⟩
abbrev N_Ladder_len : List Str := ["self"]
abbrev p_Ladder_len : List Str := ["self"]
theorem sc_Ladder_len : FnScope N_Ladder_len p_Ladder_len (defScope s_Ladder_len) := ⟨rfl, rfl, rfl, by decide +kernel, rfl, by decide +kernel, by decide +kernel⟩
abbrev N_Ladder_size : List Str := ["self", "measure", "number"]
abbrev p_Ladder_size : List Str := ["self", "measure"]
theorem sc_Ladder_size : FnScope N_Ladder_size p_Ladder_size (defScope s_Ladder_size) := ⟨rfl, rfl, rfl, by decide +kernel, rfl, by decide +kernel, by decide +kernel⟩
abbrev N_Ladder_stretch : List Str := ["self", "number", "bounds"]
abbrev p_Ladder_stretch : List Str := ["self", "number"]
theorem sc_Ladder_stretch : FnScope N_Ladder_stretch p_Ladder_stretch (defScope s_Ladder_stretch) := ⟨rfl, rfl, rfl, by decide +kernel, rfl, by decide +kernel, by decide +kernel⟩
abbrev N_shared_by : List Str := ["here", "there"]
abbrev p_shared_by : List Str := ["here", "there"]
theorem sc_shared_by : FnScope N_shared_by p_shared_by (defScope s_shared_by) := ⟨rfl, rfl, rfl, by decide +kernel, rfl, by decide +kernel, by decide +kernel⟩
abbrev N_common_measures : List Str := ["one", "number", "other", "here", "size"]
abbrev p_common_measures : List Str := ["one", "number", "other"]
theorem sc_common_measures : FnScope N_common_measures p_common_measures (defScope s_common_measures) := ⟨rfl, rfl, rfl, by decide +kernel, rfl, by decide +kernel, by decide +kernel⟩
abbrev N_led : List Str := ["one", "number", "other", "measures", "met", "size", "measure"]
abbrev p_led : List Str := ["one", "number", "other"]
theorem sc_led : FnScope N_led p_led (defScope s_led) := ⟨rfl, rfl, rfl, by decide +kernel, rfl, by decide +kernel, by decide +kernel⟩
abbrev N_led_paper : List Str := ["one", "number", "other", "measure"]
abbrev p_led_paper : List Str := ["one", "number", "other"]
theorem sc_led_paper : FnScope N_led_paper p_led_paper (defScope s_led_paper) := ⟨rfl, rfl, rfl, by decide +kernel, rfl, by decide +kernel, by decide +kernel⟩
abbrev N_comes_to : List Str := ["ladder", "thing", "number"]
abbrev p_comes_to : List Str := ["ladder", "thing", "number"]
theorem sc_comes_to : FnScope N_comes_to p_comes_to (defScope s_comes_to) := ⟨rfl, rfl, rfl, by decide +kernel, rfl, by decide +kernel, by decide +kernel⟩
abbrev N_is_paper : List Str := ["one", "number", "other", "run", "thing", "first", "last", "at", "measure"]
abbrev p_is_paper : List Str := ["one", "number", "other", "run", "thing"]
theorem sc_is_paper : FnScope N_is_paper p_is_paper (defScope s_is_paper) := ⟨rfl, rfl, rfl, by decide +kernel, rfl, by decide +kernel, by decide +kernel⟩
abbrev N_shows_led : List Str := ["one", "number", "other", "run", "paper", "meant"]
abbrev p_shows_led : List Str := ["one", "number", "other", "run", "paper"]
theorem sc_shows_led : FnScope N_shows_led p_shows_led (defScope s_shows_led) := ⟨rfl, rfl, rfl, by decide +kernel, rfl, by decide +kernel, by decide +kernel⟩
abbrev N_l_begin : List Str := ["_law_script", "_law_seed", "_law_great", "_law_k", "_law_cell"]
abbrev p_l_begin : List Str := ["_law_script"]
theorem sc_l_begin : FnScope N_l_begin p_l_begin (defScope s_l_begin) := ⟨rfl, rfl, rfl, by decide +kernel, rfl, by decide +kernel, by decide +kernel⟩
abbrev N_l_pick : List Str := ["_law_pot", "_law_many", "_law_digit", "_law_turn", "_law_once"]
abbrev p_l_pick : List Str := ["_law_pot", "_law_many"]
theorem sc_l_pick : FnScope N_l_pick p_l_pick (defScope s_l_pick) := ⟨rfl, rfl, rfl, by decide +kernel, rfl, by decide +kernel, by decide +kernel⟩
abbrev N_l_of : List Str := ["_law_pot", "_law_some"]
abbrev p_l_of : List Str := ["_law_pot", "_law_some"]
theorem sc_l_of : FnScope N_l_of p_l_of (defScope s_l_of) := ⟨rfl, rfl, rfl, by decide +kernel, rfl, by decide +kernel, by decide +kernel⟩
abbrev N_l_parts : List Str := ["_law_top", "_law_bottom", "_law_here", "_law_there"]
abbrev p_l_parts : List Str := ["_law_top", "_law_bottom"]
theorem sc_l_parts : FnScope N_l_parts p_l_parts (defScope s_l_parts) := ⟨rfl, rfl, rfl, by decide +kernel, rfl, by decide +kernel, by decide +kernel⟩
abbrev N_l_less : List Str := ["_law_here", "_law_there"]
abbrev p_l_less : List Str := ["_law_here", "_law_there"]
theorem sc_l_less : FnScope N_l_less p_l_less (defScope s_l_less) := ⟨rfl, rfl, rfl, by decide +kernel, rfl, by decide +kernel, by decide +kernel⟩
abbrev N_l_plus : List Str := ["_law_here", "_law_there"]
abbrev p_l_plus : List Str := ["_law_here", "_law_there"]
theorem sc_l_plus : FnScope N_l_plus p_l_plus (defScope s_l_plus) := ⟨rfl, rfl, rfl, by decide +kernel, rfl, by decide +kernel, by decide +kernel⟩
abbrev N_l_mid : List Str := ["_law_here", "_law_there", "_law_both"]
abbrev p_l_mid : List Str := ["_law_here", "_law_there"]
theorem sc_l_mid : FnScope N_l_mid p_l_mid (defScope s_l_mid) := ⟨rfl, rfl, rfl, by decide +kernel, rfl, by decide +kernel, by decide +kernel⟩
abbrev N_l_drawn : List Str := ["_law_pot", "_law_most", "_law_rule", "_law_many", "_law_pool", "_law_step", "_law_marks", "_law_k", "_law_ends", "_law_way", "_law_at", "_law_beside"]
abbrev p_l_drawn : List Str := ["_law_pot", "_law_most"]
theorem sc_l_drawn : FnScope N_l_drawn p_l_drawn (defScope s_l_drawn) := ⟨rfl, rfl, rfl, by decide +kernel, rfl, by decide +kernel, by decide +kernel⟩
abbrev N_l_made : List Str := ["_law_ladder", "_law_marks", "_law_rule", "_law_least", "_law_most", "_law_ends", "_law_end", "_law_top", "_law_bottom"]
abbrev p_l_made : List Str := ["_law_ladder"]
theorem sc_l_made : FnScope N_l_made p_l_made (defScope s_l_made) := ⟨rfl, rfl, rfl, by decide +kernel, rfl, by decide +kernel, by decide +kernel⟩
abbrev N_l_cut : List Str := ["_law_here", "_law_there", "_law_low", "_law_low_in", "_law_high", "_law_high_in"]
abbrev p_l_cut : List Str := ["_law_here", "_law_there"]
theorem sc_l_cut : FnScope N_l_cut p_l_cut (defScope s_l_cut) := ⟨rfl, rfl, rfl, by decide +kernel, rfl, by decide +kernel, by decide +kernel⟩
abbrev N_l_part : List Str := ["_law_ladder", "_law_k", "_law_marks", "_law_rule", "_law_least", "_law_most", "_law_part_here", "_law_low"]
abbrev p_l_part : List Str := ["_law_ladder", "_law_k"]
theorem sc_l_part : FnScope N_l_part p_l_part (defScope s_l_part) := ⟨rfl, rfl, rfl, by decide +kernel, rfl, by decide +kernel, by decide +kernel⟩
abbrev N_l_met : List Str := ["_law_part_here", "_law_ladder", "_law_found", "_law_k", "_law_its"]
abbrev p_l_met : List Str := ["_law_part_here", "_law_ladder"]
theorem sc_l_met : FnScope N_l_met p_l_met (defScope s_l_met) := ⟨rfl, rfl, rfl, by decide +kernel, rfl, by decide +kernel, by decide +kernel⟩
abbrev N_l_scaled : List Str := ["_law_ladder", "_law_scale", "_law_marks", "_law_rule", "_law_least", "_law_most", "_law_found", "_law_ends", "_law_top", "_law_bottom", "_law_end"]
abbrev p_l_scaled : List Str := ["_law_ladder", "_law_scale"]
theorem sc_l_scaled : FnScope N_l_scaled p_l_scaled (defScope s_l_scaled) := ⟨rfl, rfl, rfl, by decide +kernel, rfl, by decide +kernel, by decide +kernel⟩
abbrev N_l_ladders : List Str := ["_law_pot", "_law_many", "_law_most", "_law_scale", "_law_k"]
abbrev p_l_ladders : List Str := ["_law_pot", "_law_many", "_law_most"]
theorem sc_l_ladders : FnScope N_l_ladders p_l_ladders (defScope s_l_ladders) := ⟨rfl, rfl, rfl, by decide +kernel, rfl, by decide +kernel, by decide +kernel⟩
abbrev N_l_asked : List Str := ["_law_papers", "_law_here", "_law_which", "_law_there"]
abbrev p_l_asked : List Str := ["_law_papers", "_law_here", "_law_which", "_law_there"]
theorem sc_l_asked : FnScope N_l_asked p_l_asked (defScope s_l_asked) := ⟨rfl, rfl, rfl, by decide +kernel, rfl, by decide +kernel, by decide +kernel⟩
abbrev N_l_caught : List Str := ["_law_papers", "_law_here", "_law_which", "_law_there", "_law_found", "_law_told", "e"]
abbrev p_l_caught : List Str := ["_law_papers", "_law_here", "_law_which", "_law_there"]
theorem sc_l_caught : FnScope N_l_caught p_l_caught (defScope s_l_caught) := ⟨rfl, rfl, rfl, by decide +kernel, rfl, by decide +kernel, by decide +kernel⟩
abbrev N_l_right : List Str := ["_law_pot", "_law_here", "_law_there", "_law_made_here", "_law_its", "_law_many", "_law_which", "_law_due", "_law_told", "_law_measures", "_law_odd", "_law_k", "_law_thing"]
abbrev p_l_right : List Str := ["_law_pot", "_law_here", "_law_there"]
theorem sc_l_right : FnScope N_l_right p_l_right (defScope s_l_right) := ⟨rfl, rfl, rfl, by decide +kernel, rfl, by decide +kernel, by decide +kernel⟩
abbrev N_law : List Str := ["_law_script", "_law_pot", "_law_turn", "_law_here", "_law_there"]
abbrev p_law : List Str := ["_law_script"]
theorem sc_law : FnScope N_law p_law (defScope s_law) := ⟨rfl, rfl, rfl, by decide +kernel, rfl, by decide +kernel, by decide +kernel⟩
abbrev s_NoSize_init : Stmt := (inClass (topS 12) 0)
abbrev N_NoSize_init : List Str := ["self", "number", "__class__"]
abbrev p_NoSize_init : List Str := ["self", "number"]
theorem scS_NoSize_init : NdefX.NScope N_NoSize_init p_NoSize_init ["__class__"] (defScope s_NoSize_init) := NdefX.nscope_by (by decide +kernel)
def h_NoSize_init : He.DefD := ⟨("NoSize", some "__init__"), "__init__", "NoSize.__init__", defArgs s_NoSize_init, defBody s_NoSize_init, defScope s_NoSize_init, [], []⟩
/-! ### what the top has written -/
structure Fds where
  is_whole : FuncData
  is_tuple_of : FuncData
  are_wholes : FuncData
  common_part : FuncData
  Measure_init : FuncData
  Measure_eq : FuncData
  Measure_repr : FuncData
  Measure_plus : FuncData
  Measure_minus : FuncData
  Measure_parted : FuncData
  Measure_is_below : FuncData
  is_measure_or_none : FuncData
  slip_of : FuncData
  is_empty : FuncData
  cut_low : FuncData
  cut_high : FuncData
  some_measure : FuncData
  Stretch_init : FuncData
  Stretch_shared : FuncData
  Stretch_cut : FuncData
  are_marks : FuncData
  is_rule : FuncData
  is_span : FuncData
  midsts_of : FuncData
  size_by_rule : FuncData
  end_at : FuncData
  stretch_by_rule : FuncData
  has_size : FuncData
  Ladder_init : FuncData
  Ladder_len : FuncData
  Ladder_size : FuncData
  Ladder_stretch : FuncData
  shared_by : FuncData
  common_measures : FuncData
  led : FuncData
  led_paper : FuncData
  comes_to : FuncData
  is_paper : FuncData
  shows_led : FuncData
  l_begin : FuncData
  l_pick : FuncData
  l_of : FuncData
  l_parts : FuncData
  l_less : FuncData
  l_plus : FuncData
  l_mid : FuncData
  l_drawn : FuncData
  l_made : FuncData
  l_cut : FuncData
  l_part : FuncData
  l_met : FuncData
  l_scaled : FuncData
  l_ladders : FuncData
  l_asked : FuncData
  l_caught : FuncData
  l_right : FuncData
  law : FuncData
  NoSize_init : FuncData
  NoSize_init_cc : Addr
  NoSize_init_cda : Addr
structure Txt (P : Program) (K : PySem.W.Frag) (mg : Str → Option Value) (φ : Fds) : Prop where
  pfile : (P.main.file == ("/claim/cut.py" : Str)) = true
  ptop : (P.main.scope.names.lookup ("super" : Str)).isSome = false
  g_is_whole : mg "is_whole" = some (.ref (He.ga K "is_whole"))
  g_is_tuple_of : mg "is_tuple_of" = some (.ref (He.ga K "is_tuple_of"))
  g_are_wholes : mg "are_wholes" = some (.ref (He.ga K "are_wholes"))
  g_common_part : mg "common_part" = some (.ref (He.ga K "common_part"))
  g_is_measure_or_none : mg "is_measure_or_none" = some (.ref (He.ga K "is_measure_or_none"))
  g_slip_of : mg "slip_of" = some (.ref (He.ga K "slip_of"))
  g_is_empty : mg "is_empty" = some (.ref (He.ga K "is_empty"))
  g_cut_low : mg "cut_low" = some (.ref (He.ga K "cut_low"))
  g_cut_high : mg "cut_high" = some (.ref (He.ga K "cut_high"))
  g_some_measure : mg "some_measure" = some (.ref (He.ga K "some_measure"))
  g_are_marks : mg "are_marks" = some (.ref (He.ga K "are_marks"))
  g_is_rule : mg "is_rule" = some (.ref (He.ga K "is_rule"))
  g_is_span : mg "is_span" = some (.ref (He.ga K "is_span"))
  g_midsts_of : mg "midsts_of" = some (.ref (He.ga K "midsts_of"))
  g_size_by_rule : mg "size_by_rule" = some (.ref (He.ga K "size_by_rule"))
  g_end_at : mg "end_at" = some (.ref (He.ga K "end_at"))
  g_stretch_by_rule : mg "stretch_by_rule" = some (.ref (He.ga K "stretch_by_rule"))
  g_has_size : mg "has_size" = some (.ref (He.ga K "has_size"))
  g_shared_by : mg "shared_by" = some (.ref (He.ga K "shared_by"))
  g_common_measures : mg "common_measures" = some (.ref (He.ga K "common_measures"))
  g_led : mg "led" = some (.ref (He.ga K "led"))
  g_led_paper : mg "led_paper" = some (.ref (He.ga K "led_paper"))
  g_comes_to : mg "comes_to" = some (.ref (He.ga K "comes_to"))
  g_is_paper : mg "is_paper" = some (.ref (He.ga K "is_paper"))
  g_shows_led : mg "shows_led" = some (.ref (He.ga K "shows_led"))
  g_l_begin : mg "_law_begin" = some (.ref (He.ga K "_law_begin"))
  g_l_pick : mg "_law_pick" = some (.ref (He.ga K "_law_pick"))
  g_l_of : mg "_law_of" = some (.ref (He.ga K "_law_of"))
  g_l_parts : mg "_law_parts" = some (.ref (He.ga K "_law_parts"))
  g_l_less : mg "_law_less" = some (.ref (He.ga K "_law_less"))
  g_l_plus : mg "_law_plus" = some (.ref (He.ga K "_law_plus"))
  g_l_mid : mg "_law_mid" = some (.ref (He.ga K "_law_mid"))
  g_l_drawn : mg "_law_drawn" = some (.ref (He.ga K "_law_drawn"))
  g_l_made : mg "_law_made" = some (.ref (He.ga K "_law_made"))
  g_l_cut : mg "_law_cut" = some (.ref (He.ga K "_law_cut"))
  g_l_part : mg "_law_part" = some (.ref (He.ga K "_law_part"))
  g_l_met : mg "_law_met" = some (.ref (He.ga K "_law_met"))
  g_l_scaled : mg "_law_scaled" = some (.ref (He.ga K "_law_scaled"))
  g_l_ladders : mg "_law_ladders" = some (.ref (He.ga K "_law_ladders"))
  g_l_asked : mg "_law_asked" = some (.ref (He.ga K "_law_asked"))
  g_l_caught : mg "_law_caught" = some (.ref (He.ga K "_law_caught"))
  g_l_right : mg "_law_right" = some (.ref (He.ga K "_law_right"))
  g_law : mg "law" = some (.ref (He.ga K "law"))
  g_Measure : mg "Measure" = some (.ref (He.ga K "Measure"))
  g_Stretch : mg "Stretch" = some (.ref (He.ga K "Stretch"))
  g_Ladder : mg "Ladder" = some (.ref (He.ga K "Ladder"))
  g_NoSize : mg "NoSize" = some (.ref (He.ga K "NoSize"))
  z_super : mg "super" = none
  g_RULES : mg "RULES" = some (.ref (He.ga K "RULES"))
  g_LandError : mg "LandError" = some (.ref (He.ga K "LandError"))
  g_LadderError : mg "LadderError" = some (.ref (He.ga K "LadderError"))
  g_NoLand : mg "NoLand" = some (.ref (He.ga K "NoLand"))
  g_LandTwice : mg "LandTwice" = some (.ref (He.ga K "LandTwice"))
  v_MOST_MARKS : ∃ t, mg "MOST_MARKS" = some (.int 24 t)
  z_LookupError : mg "LookupError" = none
  z_abs : mg "abs" = none
  z_all : mg "all" = none
  z_bool : mg "bool" = none
  z_enumerate : mg "enumerate" = none
  z_int : mg "int" = none
  z_isinstance : mg "isinstance" = none
  z_len : mg "len" = none
  z_list : mg "list" = none
  z_max : mg "max" = none
  z_min : mg "min" = none
  z_range : mg "range" = none
  z_repr : mg "repr" = none
  z_str : mg "str" = none
  z_tuple : mg "tuple" = none
  cl_Measure : Cls K (He.ga K "Measure")
  na_Measure_top : NoAttr K (He.ga K "Measure") "top"
  na_Measure_bottom : NoAttr K (He.ga K "Measure") "bottom"
  me_Measure_eq : Meth K (He.ga K "Measure") "__eq__" (He.ma K (He.ga K "Measure") "__eq__")
  me_Measure_repr : Meth K (He.ga K "Measure") "__repr__" (He.ma K (He.ga K "Measure") "__repr__")
  me_Measure_plus : Meth K (He.ga K "Measure") "plus" (He.ma K (He.ga K "Measure") "plus")
  me_Measure_minus : Meth K (He.ga K "Measure") "minus" (He.ma K (He.ga K "Measure") "minus")
  me_Measure_parted : Meth K (He.ga K "Measure") "parted" (He.ma K (He.ga K "Measure") "parted")
  me_Measure_is_below : Meth K (He.ga K "Measure") "is_below" (He.ma K (He.ga K "Measure") "is_below")
  mk_Measure : Mk K (He.ga K "Measure") (He.ma K (He.ga K "Measure") "__init__")
  cl_Stretch : Cls K (He.ga K "Stretch")
  na_Stretch_low : NoAttr K (He.ga K "Stretch") "low"
  na_Stretch_high : NoAttr K (He.ga K "Stretch") "high"
  na_Stretch_low_in : NoAttr K (He.ga K "Stretch") "low_in"
  na_Stretch_high_in : NoAttr K (He.ga K "Stretch") "high_in"
  me_Stretch_shared : Meth K (He.ga K "Stretch") "shared" (He.ma K (He.ga K "Stretch") "shared")
  me_Stretch_cut : Meth K (He.ga K "Stretch") "cut" (He.ma K (He.ga K "Stretch") "cut")
  mk_Stretch : Mk K (He.ga K "Stretch") (He.ma K (He.ga K "Stretch") "__init__")
  cl_Ladder : Cls K (He.ga K "Ladder")
  na_Ladder_marks : NoAttr K (He.ga K "Ladder") "marks"
  na_Ladder_rule : NoAttr K (He.ga K "Ladder") "rule"
  na_Ladder_least : NoAttr K (He.ga K "Ladder") "least"
  na_Ladder_most : NoAttr K (He.ga K "Ladder") "most"
  me_Ladder_len : Meth K (He.ga K "Ladder") "__len__" (He.ma K (He.ga K "Ladder") "__len__")
  me_Ladder_size : Meth K (He.ga K "Ladder") "size" (He.ma K (He.ga K "Ladder") "size")
  me_Ladder_stretch : Meth K (He.ga K "Ladder") "stretch" (He.ma K (He.ga K "Ladder") "stretch")
  mk_Ladder : Mk K (He.ga K "Ladder") (He.ma K (He.ga K "Ladder") "__init__")
  sc_NoSize : SupC "LookupError" "LookupError.__new__" "LookupError.__init__" leTail K (He.ga K "NoSize")
  si_NoSize : SupI K (He.ga K "NoSize")
  xn_NoSize_number : XfN K (He.ga K "NoSize") "number"
  ii_Measure : IsC K (He.ga K "Measure")
  ii_Stretch : IsC K (He.ga K "Stretch")
  ii_Ladder : IsC K (He.ga K "Ladder")
  ec_Measure : EqC K (He.ga K "Measure")
  xc_NoSize : ExcC K (He.ga K "NoSize")
  xm_NoSize_LandError : PySem.W.exmOne K (.ref (He.ga K "NoSize")) (.ref (He.ga K "LandError")) = some true
  xm_NoSize_NoSize : PySem.W.exmOne K (.ref (He.ga K "NoSize")) (.ref (He.ga K "NoSize")) = some true
  tp_RULES : ∀ H, SqT K H (He.ga K "RULES") ((["up", "down", "near"] : List Str).map V.str)
  k_Measure_Measure : PySem.W.kitOne K (.ref (He.ga K "Measure")) (.ref (He.ga K "Measure")) = some true
  k_Stretch_Stretch : PySem.W.kitOne K (.ref (He.ga K "Stretch")) (.ref (He.ga K "Stretch")) = some true
  k_Measure_Stretch : PySem.W.kitOne K (.ref (He.ga K "Measure")) (.ref (He.ga K "Stretch")) = some false
  k_Stretch_Measure : PySem.W.kitOne K (.ref (He.ga K "Stretch")) (.ref (He.ga K "Measure")) = some false
  k_Ladder_Ladder : PySem.W.kitOne K (.ref (He.ga K "Ladder")) (.ref (He.ga K "Ladder")) = some true
  k_int_Measure : PySem.W.kitOne K (.type "int") (.ref (He.ga K "Measure")) = some false
  k_str_Measure : PySem.W.kitOne K (.type "str") (.ref (He.ga K "Measure")) = some false
  k_NoneType_Measure : PySem.W.kitOne K (.type "NoneType") (.ref (He.ga K "Measure")) = some false
  k_tuple_Measure : PySem.W.kitOne K (.type "tuple") (.ref (He.ga K "Measure")) = some false
  k_Measure_tuple : PySem.W.kitOne K (.ref (He.ga K "Measure")) (.type "tuple") = some false
  k_NoSize_NoSize : PySem.W.kitOne K (.ref (He.ga K "NoSize")) (.ref (He.ga K "NoSize")) = some true
  k_NoSize_NoLand : PySem.W.kitOne K (.ref (He.ga K "NoSize")) (.ref (He.ga K "NoLand")) = some false
  k_NoSize_LandTwice : PySem.W.kitOne K (.ref (He.ga K "NoSize")) (.ref (He.ga K "LandTwice")) = some false
  k_NoSize_LookupError : PySem.W.kitOne K (.ref (He.ga K "NoSize")) (.type "LookupError") = some true
  su_NoSize_init : SupD K (He.ga K "NoSize") "__init__" "NoSize.__init__" (defArgs s_NoSize_init) (defBody s_NoSize_init) (defScope s_NoSize_init) [] (He.fAd K ("NoSize", some "__init__")) φ.NoSize_init_cc φ.NoSize_init_cda "/claim/cut.py" φ.NoSize_init
  f_is_whole : FunD K "is_whole" "is_whole" (defArgs s_is_whole) (defBody s_is_whole) (defScope s_is_whole) [] [] (He.fAd K ("is_whole", none)) φ.is_whole
  f_is_tuple_of : FunD K "is_tuple_of" "is_tuple_of" (defArgs s_is_tuple_of) (defBody s_is_tuple_of) (defScope s_is_tuple_of) [] [] (He.fAd K ("is_tuple_of", none)) φ.is_tuple_of
  f_are_wholes : FunD K "are_wholes" "are_wholes" (defArgs s_are_wholes) (defBody s_are_wholes) (defScope s_are_wholes) [] [] (He.fAd K ("are_wholes", none)) φ.are_wholes
  f_common_part : FunD K "common_part" "common_part" (defArgs s_common_part) (defBody s_common_part) (defScope s_common_part) [] [] (He.fAd K ("common_part", none)) φ.common_part
  f_Measure_init : FunD K "__init__" "Measure.__init__" (defArgs s_Measure_init) (defBody s_Measure_init) (defScope s_Measure_init) [V.int 1] [] (He.fAd K ("Measure", some "__init__")) φ.Measure_init
  f_Measure_eq : FunD K "__eq__" "Measure.__eq__" (defArgs s_Measure_eq) (defBody s_Measure_eq) (defScope s_Measure_eq) [] [] (He.fAd K ("Measure", some "__eq__")) φ.Measure_eq
  f_Measure_repr : FunD K "__repr__" "Measure.__repr__" (defArgs s_Measure_repr) (defBody s_Measure_repr) (defScope s_Measure_repr) [] [] (He.fAd K ("Measure", some "__repr__")) φ.Measure_repr
  f_Measure_plus : FunD K "plus" "Measure.plus" (defArgs s_Measure_plus) (defBody s_Measure_plus) (defScope s_Measure_plus) [] [] (He.fAd K ("Measure", some "plus")) φ.Measure_plus
  f_Measure_minus : FunD K "minus" "Measure.minus" (defArgs s_Measure_minus) (defBody s_Measure_minus) (defScope s_Measure_minus) [] [] (He.fAd K ("Measure", some "minus")) φ.Measure_minus
  f_Measure_parted : FunD K "parted" "Measure.parted" (defArgs s_Measure_parted) (defBody s_Measure_parted) (defScope s_Measure_parted) [V.int 2] [] (He.fAd K ("Measure", some "parted")) φ.Measure_parted
  f_Measure_is_below : FunD K "is_below" "Measure.is_below" (defArgs s_Measure_is_below) (defBody s_Measure_is_below) (defScope s_Measure_is_below) [V.bl false] [] (He.fAd K ("Measure", some "is_below")) φ.Measure_is_below
  f_is_measure_or_none : FunD K "is_measure_or_none" "is_measure_or_none" (defArgs s_is_measure_or_none) (defBody s_is_measure_or_none) (defScope s_is_measure_or_none) [] [] (He.fAd K ("is_measure_or_none", none)) φ.is_measure_or_none
  f_slip_of : FunD K "slip_of" "slip_of" (defArgs s_slip_of) (defBody s_slip_of) (defScope s_slip_of) [] [] (He.fAd K ("slip_of", none)) φ.slip_of
  f_is_empty : FunD K "is_empty" "is_empty" (defArgs s_is_empty) (defBody s_is_empty) (defScope s_is_empty) [] [] (He.fAd K ("is_empty", none)) φ.is_empty
  f_cut_low : FunD K "cut_low" "cut_low" (defArgs s_cut_low) (defBody s_cut_low) (defScope s_cut_low) [] [] (He.fAd K ("cut_low", none)) φ.cut_low
  f_cut_high : FunD K "cut_high" "cut_high" (defArgs s_cut_high) (defBody s_cut_high) (defScope s_cut_high) [] [] (He.fAd K ("cut_high", none)) φ.cut_high
  f_some_measure : FunD K "some_measure" "some_measure" (defArgs s_some_measure) (defBody s_some_measure) (defScope s_some_measure) [] [] (He.fAd K ("some_measure", none)) φ.some_measure
  f_Stretch_init : FunD K "__init__" "Stretch.__init__" (defArgs s_Stretch_init) (defBody s_Stretch_init) (defScope s_Stretch_init) [V.bl false, V.bl true] [] (He.fAd K ("Stretch", some "__init__")) φ.Stretch_init
  f_Stretch_shared : FunD K "shared" "Stretch.shared" (defArgs s_Stretch_shared) (defBody s_Stretch_shared) (defScope s_Stretch_shared) [] [] (He.fAd K ("Stretch", some "shared")) φ.Stretch_shared
  f_Stretch_cut : FunD K "cut" "Stretch.cut" (defArgs s_Stretch_cut) (defBody s_Stretch_cut) (defScope s_Stretch_cut) [] [] (He.fAd K ("Stretch", some "cut")) φ.Stretch_cut
  f_are_marks : FunD K "are_marks" "are_marks" (defArgs s_are_marks) (defBody s_are_marks) (defScope s_are_marks) [] [] (He.fAd K ("are_marks", none)) φ.are_marks
  f_is_rule : FunD K "is_rule" "is_rule" (defArgs s_is_rule) (defBody s_is_rule) (defScope s_is_rule) [] [] (He.fAd K ("is_rule", none)) φ.is_rule
  f_is_span : FunD K "is_span" "is_span" (defArgs s_is_span) (defBody s_is_span) (defScope s_is_span) [] [] (He.fAd K ("is_span", none)) φ.is_span
  f_midsts_of : FunD K "midsts_of" "midsts_of" (defArgs s_midsts_of) (defBody s_midsts_of) (defScope s_midsts_of) [] [] (He.fAd K ("midsts_of", none)) φ.midsts_of
  f_size_by_rule : FunD K "size_by_rule" "size_by_rule" (defArgs s_size_by_rule) (defBody s_size_by_rule) (defScope s_size_by_rule) [] [] (He.fAd K ("size_by_rule", none)) φ.size_by_rule
  f_end_at : FunD K "end_at" "end_at" (defArgs s_end_at) (defBody s_end_at) (defScope s_end_at) [] [] (He.fAd K ("end_at", none)) φ.end_at
  f_stretch_by_rule : FunD K "stretch_by_rule" "stretch_by_rule" (defArgs s_stretch_by_rule) (defBody s_stretch_by_rule) (defScope s_stretch_by_rule) [] [] (He.fAd K ("stretch_by_rule", none)) φ.stretch_by_rule
  f_has_size : FunD K "has_size" "has_size" (defArgs s_has_size) (defBody s_has_size) (defScope s_has_size) [] [] (He.fAd K ("has_size", none)) φ.has_size
  f_Ladder_init : FunD K "__init__" "Ladder.__init__" (defArgs s_Ladder_init) (defBody s_Ladder_init) (defScope s_Ladder_init) [V.str "up", V.non, V.non] [] (He.fAd K ("Ladder", some "__init__")) φ.Ladder_init
  f_Ladder_len : FunD K "__len__" "Ladder.__len__" (defArgs s_Ladder_len) (defBody s_Ladder_len) (defScope s_Ladder_len) [] [] (He.fAd K ("Ladder", some "__len__")) φ.Ladder_len
  f_Ladder_size : FunD K "size" "Ladder.size" (defArgs s_Ladder_size) (defBody s_Ladder_size) (defScope s_Ladder_size) [] [] (He.fAd K ("Ladder", some "size")) φ.Ladder_size
  f_Ladder_stretch : FunD K "stretch" "Ladder.stretch" (defArgs s_Ladder_stretch) (defBody s_Ladder_stretch) (defScope s_Ladder_stretch) [] [] (He.fAd K ("Ladder", some "stretch")) φ.Ladder_stretch
  f_shared_by : FunD K "shared_by" "shared_by" (defArgs s_shared_by) (defBody s_shared_by) (defScope s_shared_by) [] [] (He.fAd K ("shared_by", none)) φ.shared_by
  f_common_measures : FunD K "common_measures" "common_measures" (defArgs s_common_measures) (defBody s_common_measures) (defScope s_common_measures) [] [] (He.fAd K ("common_measures", none)) φ.common_measures
  f_led : FunD K "led" "led" (defArgs s_led) (defBody s_led) (defScope s_led) [] [] (He.fAd K ("led", none)) φ.led
  f_led_paper : FunD K "led_paper" "led_paper" (defArgs s_led_paper) (defBody s_led_paper) (defScope s_led_paper) [] [] (He.fAd K ("led_paper", none)) φ.led_paper
  f_comes_to : FunD K "comes_to" "comes_to" (defArgs s_comes_to) (defBody s_comes_to) (defScope s_comes_to) [] [] (He.fAd K ("comes_to", none)) φ.comes_to
  f_is_paper : FunD K "is_paper" "is_paper" (defArgs s_is_paper) (defBody s_is_paper) (defScope s_is_paper) [] [] (He.fAd K ("is_paper", none)) φ.is_paper
  f_shows_led : FunD K "shows_led" "shows_led" (defArgs s_shows_led) (defBody s_shows_led) (defScope s_shows_led) [] [] (He.fAd K ("shows_led", none)) φ.shows_led
  f_l_begin : FunD K "_law_begin" "_law_begin" (defArgs s_l_begin) (defBody s_l_begin) (defScope s_l_begin) [] [] (He.fAd K ("_law_begin", none)) φ.l_begin
  f_l_pick : FunD K "_law_pick" "_law_pick" (defArgs s_l_pick) (defBody s_l_pick) (defScope s_l_pick) [] [] (He.fAd K ("_law_pick", none)) φ.l_pick
  f_l_of : FunD K "_law_of" "_law_of" (defArgs s_l_of) (defBody s_l_of) (defScope s_l_of) [] [] (He.fAd K ("_law_of", none)) φ.l_of
  f_l_parts : FunD K "_law_parts" "_law_parts" (defArgs s_l_parts) (defBody s_l_parts) (defScope s_l_parts) [] [] (He.fAd K ("_law_parts", none)) φ.l_parts
  f_l_less : FunD K "_law_less" "_law_less" (defArgs s_l_less) (defBody s_l_less) (defScope s_l_less) [] [] (He.fAd K ("_law_less", none)) φ.l_less
  f_l_plus : FunD K "_law_plus" "_law_plus" (defArgs s_l_plus) (defBody s_l_plus) (defScope s_l_plus) [] [] (He.fAd K ("_law_plus", none)) φ.l_plus
  f_l_mid : FunD K "_law_mid" "_law_mid" (defArgs s_l_mid) (defBody s_l_mid) (defScope s_l_mid) [] [] (He.fAd K ("_law_mid", none)) φ.l_mid
  f_l_drawn : FunD K "_law_drawn" "_law_drawn" (defArgs s_l_drawn) (defBody s_l_drawn) (defScope s_l_drawn) [] [] (He.fAd K ("_law_drawn", none)) φ.l_drawn
  f_l_made : FunD K "_law_made" "_law_made" (defArgs s_l_made) (defBody s_l_made) (defScope s_l_made) [] [] (He.fAd K ("_law_made", none)) φ.l_made
  f_l_cut : FunD K "_law_cut" "_law_cut" (defArgs s_l_cut) (defBody s_l_cut) (defScope s_l_cut) [] [] (He.fAd K ("_law_cut", none)) φ.l_cut
  f_l_part : FunD K "_law_part" "_law_part" (defArgs s_l_part) (defBody s_l_part) (defScope s_l_part) [] [] (He.fAd K ("_law_part", none)) φ.l_part
  f_l_met : FunD K "_law_met" "_law_met" (defArgs s_l_met) (defBody s_l_met) (defScope s_l_met) [] [] (He.fAd K ("_law_met", none)) φ.l_met
  f_l_scaled : FunD K "_law_scaled" "_law_scaled" (defArgs s_l_scaled) (defBody s_l_scaled) (defScope s_l_scaled) [] [] (He.fAd K ("_law_scaled", none)) φ.l_scaled
  f_l_ladders : FunD K "_law_ladders" "_law_ladders" (defArgs s_l_ladders) (defBody s_l_ladders) (defScope s_l_ladders) [] [] (He.fAd K ("_law_ladders", none)) φ.l_ladders
  f_l_asked : FunD K "_law_asked" "_law_asked" (defArgs s_l_asked) (defBody s_l_asked) (defScope s_l_asked) [] [] (He.fAd K ("_law_asked", none)) φ.l_asked
  f_l_caught : FunD K "_law_caught" "_law_caught" (defArgs s_l_caught) (defBody s_l_caught) (defScope s_l_caught) [] [] (He.fAd K ("_law_caught", none)) φ.l_caught
  f_l_right : FunD K "_law_right" "_law_right" (defArgs s_l_right) (defBody s_l_right) (defScope s_l_right) [] [] (He.fAd K ("_law_right", none)) φ.l_right
  f_law : FunD K "law" "law" (defArgs s_law) (defBody s_law) (defScope s_law) [] [] (He.fAd K ("law", none)) φ.law
/-! ### the head -/
def h_is_whole : He.DefD := ⟨("is_whole", none), "is_whole", "is_whole", defArgs s_is_whole, defBody s_is_whole, defScope s_is_whole, [], []⟩
def h_is_tuple_of : He.DefD := ⟨("is_tuple_of", none), "is_tuple_of", "is_tuple_of", defArgs s_is_tuple_of, defBody s_is_tuple_of, defScope s_is_tuple_of, [], []⟩
def h_are_wholes : He.DefD := ⟨("are_wholes", none), "are_wholes", "are_wholes", defArgs s_are_wholes, defBody s_are_wholes, defScope s_are_wholes, [], []⟩
def h_common_part : He.DefD := ⟨("common_part", none), "common_part", "common_part", defArgs s_common_part, defBody s_common_part, defScope s_common_part, [], []⟩
def h_Measure_init : He.DefD := ⟨("Measure", some "__init__"), "__init__", "Measure.__init__", defArgs s_Measure_init, defBody s_Measure_init, defScope s_Measure_init, [.int 1], []⟩
def h_Measure_eq : He.DefD := ⟨("Measure", some "__eq__"), "__eq__", "Measure.__eq__", defArgs s_Measure_eq, defBody s_Measure_eq, defScope s_Measure_eq, [], []⟩
def h_Measure_repr : He.DefD := ⟨("Measure", some "__repr__"), "__repr__", "Measure.__repr__", defArgs s_Measure_repr, defBody s_Measure_repr, defScope s_Measure_repr, [], []⟩
def h_Measure_plus : He.DefD := ⟨("Measure", some "plus"), "plus", "Measure.plus", defArgs s_Measure_plus, defBody s_Measure_plus, defScope s_Measure_plus, [], []⟩
def h_Measure_minus : He.DefD := ⟨("Measure", some "minus"), "minus", "Measure.minus", defArgs s_Measure_minus, defBody s_Measure_minus, defScope s_Measure_minus, [], []⟩
def h_Measure_parted : He.DefD := ⟨("Measure", some "parted"), "parted", "Measure.parted", defArgs s_Measure_parted, defBody s_Measure_parted, defScope s_Measure_parted, [.int 2], []⟩
def h_Measure_is_below : He.DefD := ⟨("Measure", some "is_below"), "is_below", "Measure.is_below", defArgs s_Measure_is_below, defBody s_Measure_is_below, defScope s_Measure_is_below, [.bl false], []⟩
def h_is_measure_or_none : He.DefD := ⟨("is_measure_or_none", none), "is_measure_or_none", "is_measure_or_none", defArgs s_is_measure_or_none, defBody s_is_measure_or_none, defScope s_is_measure_or_none, [], []⟩
def h_slip_of : He.DefD := ⟨("slip_of", none), "slip_of", "slip_of", defArgs s_slip_of, defBody s_slip_of, defScope s_slip_of, [], []⟩
def h_is_empty : He.DefD := ⟨("is_empty", none), "is_empty", "is_empty", defArgs s_is_empty, defBody s_is_empty, defScope s_is_empty, [], []⟩
def h_cut_low : He.DefD := ⟨("cut_low", none), "cut_low", "cut_low", defArgs s_cut_low, defBody s_cut_low, defScope s_cut_low, [], []⟩
def h_cut_high : He.DefD := ⟨("cut_high", none), "cut_high", "cut_high", defArgs s_cut_high, defBody s_cut_high, defScope s_cut_high, [], []⟩
def h_some_measure : He.DefD := ⟨("some_measure", none), "some_measure", "some_measure", defArgs s_some_measure, defBody s_some_measure, defScope s_some_measure, [], []⟩
def h_Stretch_init : He.DefD := ⟨("Stretch", some "__init__"), "__init__", "Stretch.__init__", defArgs s_Stretch_init, defBody s_Stretch_init, defScope s_Stretch_init, [.bl false, .bl true], []⟩
def h_Stretch_shared : He.DefD := ⟨("Stretch", some "shared"), "shared", "Stretch.shared", defArgs s_Stretch_shared, defBody s_Stretch_shared, defScope s_Stretch_shared, [], []⟩
def h_Stretch_cut : He.DefD := ⟨("Stretch", some "cut"), "cut", "Stretch.cut", defArgs s_Stretch_cut, defBody s_Stretch_cut, defScope s_Stretch_cut, [], []⟩
def h_are_marks : He.DefD := ⟨("are_marks", none), "are_marks", "are_marks", defArgs s_are_marks, defBody s_are_marks, defScope s_are_marks, [], []⟩
def h_is_rule : He.DefD := ⟨("is_rule", none), "is_rule", "is_rule", defArgs s_is_rule, defBody s_is_rule, defScope s_is_rule, [], []⟩
def h_is_span : He.DefD := ⟨("is_span", none), "is_span", "is_span", defArgs s_is_span, defBody s_is_span, defScope s_is_span, [], []⟩
def h_midsts_of : He.DefD := ⟨("midsts_of", none), "midsts_of", "midsts_of", defArgs s_midsts_of, defBody s_midsts_of, defScope s_midsts_of, [], []⟩
def h_size_by_rule : He.DefD := ⟨("size_by_rule", none), "size_by_rule", "size_by_rule", defArgs s_size_by_rule, defBody s_size_by_rule, defScope s_size_by_rule, [], []⟩
def h_end_at : He.DefD := ⟨("end_at", none), "end_at", "end_at", defArgs s_end_at, defBody s_end_at, defScope s_end_at, [], []⟩
def h_stretch_by_rule : He.DefD := ⟨("stretch_by_rule", none), "stretch_by_rule", "stretch_by_rule", defArgs s_stretch_by_rule, defBody s_stretch_by_rule, defScope s_stretch_by_rule, [], []⟩
def h_has_size : He.DefD := ⟨("has_size", none), "has_size", "has_size", defArgs s_has_size, defBody s_has_size, defScope s_has_size, [], []⟩
def h_Ladder_init : He.DefD := ⟨("Ladder", some "__init__"), "__init__", "Ladder.__init__", defArgs s_Ladder_init, defBody s_Ladder_init, defScope s_Ladder_init, [.str "up", .non, .non], []⟩
def h_Ladder_len : He.DefD := ⟨("Ladder", some "__len__"), "__len__", "Ladder.__len__", defArgs s_Ladder_len, defBody s_Ladder_len, defScope s_Ladder_len, [], []⟩
def h_Ladder_size : He.DefD := ⟨("Ladder", some "size"), "size", "Ladder.size", defArgs s_Ladder_size, defBody s_Ladder_size, defScope s_Ladder_size, [], []⟩
def h_Ladder_stretch : He.DefD := ⟨("Ladder", some "stretch"), "stretch", "Ladder.stretch", defArgs s_Ladder_stretch, defBody s_Ladder_stretch, defScope s_Ladder_stretch, [], []⟩
def h_shared_by : He.DefD := ⟨("shared_by", none), "shared_by", "shared_by", defArgs s_shared_by, defBody s_shared_by, defScope s_shared_by, [], []⟩
def h_common_measures : He.DefD := ⟨("common_measures", none), "common_measures", "common_measures", defArgs s_common_measures, defBody s_common_measures, defScope s_common_measures, [], []⟩
def h_led : He.DefD := ⟨("led", none), "led", "led", defArgs s_led, defBody s_led, defScope s_led, [], []⟩
def h_led_paper : He.DefD := ⟨("led_paper", none), "led_paper", "led_paper", defArgs s_led_paper, defBody s_led_paper, defScope s_led_paper, [], []⟩
def h_comes_to : He.DefD := ⟨("comes_to", none), "comes_to", "comes_to", defArgs s_comes_to, defBody s_comes_to, defScope s_comes_to, [], []⟩
def h_is_paper : He.DefD := ⟨("is_paper", none), "is_paper", "is_paper", defArgs s_is_paper, defBody s_is_paper, defScope s_is_paper, [], []⟩
def h_shows_led : He.DefD := ⟨("shows_led", none), "shows_led", "shows_led", defArgs s_shows_led, defBody s_shows_led, defScope s_shows_led, [], []⟩
def h_l_begin : He.DefD := ⟨("_law_begin", none), "_law_begin", "_law_begin", defArgs s_l_begin, defBody s_l_begin, defScope s_l_begin, [], []⟩
def h_l_pick : He.DefD := ⟨("_law_pick", none), "_law_pick", "_law_pick", defArgs s_l_pick, defBody s_l_pick, defScope s_l_pick, [], []⟩
def h_l_of : He.DefD := ⟨("_law_of", none), "_law_of", "_law_of", defArgs s_l_of, defBody s_l_of, defScope s_l_of, [], []⟩
def h_l_parts : He.DefD := ⟨("_law_parts", none), "_law_parts", "_law_parts", defArgs s_l_parts, defBody s_l_parts, defScope s_l_parts, [], []⟩
def h_l_less : He.DefD := ⟨("_law_less", none), "_law_less", "_law_less", defArgs s_l_less, defBody s_l_less, defScope s_l_less, [], []⟩
def h_l_plus : He.DefD := ⟨("_law_plus", none), "_law_plus", "_law_plus", defArgs s_l_plus, defBody s_l_plus, defScope s_l_plus, [], []⟩
def h_l_mid : He.DefD := ⟨("_law_mid", none), "_law_mid", "_law_mid", defArgs s_l_mid, defBody s_l_mid, defScope s_l_mid, [], []⟩
def h_l_drawn : He.DefD := ⟨("_law_drawn", none), "_law_drawn", "_law_drawn", defArgs s_l_drawn, defBody s_l_drawn, defScope s_l_drawn, [], []⟩
def h_l_made : He.DefD := ⟨("_law_made", none), "_law_made", "_law_made", defArgs s_l_made, defBody s_l_made, defScope s_l_made, [], []⟩
def h_l_cut : He.DefD := ⟨("_law_cut", none), "_law_cut", "_law_cut", defArgs s_l_cut, defBody s_l_cut, defScope s_l_cut, [], []⟩
def h_l_part : He.DefD := ⟨("_law_part", none), "_law_part", "_law_part", defArgs s_l_part, defBody s_l_part, defScope s_l_part, [], []⟩
def h_l_met : He.DefD := ⟨("_law_met", none), "_law_met", "_law_met", defArgs s_l_met, defBody s_l_met, defScope s_l_met, [], []⟩
def h_l_scaled : He.DefD := ⟨("_law_scaled", none), "_law_scaled", "_law_scaled", defArgs s_l_scaled, defBody s_l_scaled, defScope s_l_scaled, [], []⟩
def h_l_ladders : He.DefD := ⟨("_law_ladders", none), "_law_ladders", "_law_ladders", defArgs s_l_ladders, defBody s_l_ladders, defScope s_l_ladders, [], []⟩
def h_l_asked : He.DefD := ⟨("_law_asked", none), "_law_asked", "_law_asked", defArgs s_l_asked, defBody s_l_asked, defScope s_l_asked, [], []⟩
def h_l_caught : He.DefD := ⟨("_law_caught", none), "_law_caught", "_law_caught", defArgs s_l_caught, defBody s_l_caught, defScope s_l_caught, [], []⟩
def h_l_right : He.DefD := ⟨("_law_right", none), "_law_right", "_law_right", defArgs s_l_right, defBody s_l_right, defScope s_l_right, [], []⟩
def h_law : He.DefD := ⟨("law", none), "law", "law", defArgs s_law, defBody s_law, defScope s_law, [], []⟩
def fn : List He.DefD := [h_is_whole, h_is_tuple_of, h_are_wholes, h_common_part, h_Measure_init, h_Measure_eq, h_Measure_repr, h_Measure_plus, h_Measure_minus, h_Measure_parted, h_Measure_is_below, h_is_measure_or_none, h_slip_of, h_is_empty, h_cut_low, h_cut_high, h_some_measure, h_Stretch_init, h_Stretch_shared, h_Stretch_cut, h_are_marks, h_is_rule, h_is_span, h_midsts_of, h_size_by_rule, h_end_at, h_stretch_by_rule, h_has_size, h_Ladder_init, h_Ladder_len, h_Ladder_size, h_Ladder_stretch, h_shared_by, h_common_measures, h_led, h_led_paper, h_comes_to, h_is_paper, h_shows_led, h_l_begin, h_l_pick, h_l_of, h_l_parts, h_l_less, h_l_plus, h_l_mid, h_l_drawn, h_l_made, h_l_cut, h_l_part, h_l_met, h_l_scaled, h_l_ladders, h_l_asked, h_l_caught, h_l_right, h_law]
def fa : List He.Fa := [.glo "is_whole", .glo "is_tuple_of", .glo "are_wholes", .glo "common_part", .glo "is_measure_or_none", .glo "slip_of", .glo "is_empty", .glo "cut_low", .glo "cut_high", .glo "some_measure", .glo "are_marks", .glo "is_rule", .glo "is_span", .glo "midsts_of", .glo "size_by_rule", .glo "end_at", .glo "stretch_by_rule", .glo "has_size", .glo "shared_by", .glo "common_measures", .glo "led", .glo "led_paper", .glo "comes_to", .glo "is_paper", .glo "shows_led", .glo "_law_begin", .glo "_law_pick", .glo "_law_of", .glo "_law_parts", .glo "_law_less", .glo "_law_plus", .glo "_law_mid", .glo "_law_drawn", .glo "_law_made", .glo "_law_cut", .glo "_law_part", .glo "_law_met", .glo "_law_scaled", .glo "_law_ladders", .glo "_law_asked", .glo "_law_caught", .glo "_law_right", .glo "law", .glo "Measure", .glo "Stretch", .glo "Ladder", .glo "NoSize", .free "super", .glo "RULES", .glo "LandError", .glo "LadderError", .glo "NoLand", .glo "LandTwice", .int "MOST_MARKS" 24, .free "LookupError", .free "abs", .free "all", .free "bool", .free "enumerate", .free "int", .free "isinstance", .free "len", .free "list", .free "max", .free "min", .free "range", .free "repr", .free "str", .free "tuple", .cls "Measure", .noat "Measure" "top", .noat "Measure" "bottom", .meth "Measure" "__eq__", .meth "Measure" "__repr__", .meth "Measure" "plus", .meth "Measure" "minus", .meth "Measure" "parted", .meth "Measure" "is_below", .mkr "Measure", .cls "Stretch", .noat "Stretch" "low", .noat "Stretch" "high", .noat "Stretch" "low_in", .noat "Stretch" "high_in", .meth "Stretch" "shared", .meth "Stretch" "cut", .mkr "Stretch", .cls "Ladder", .noat "Ladder" "marks", .noat "Ladder" "rule", .noat "Ladder" "least", .noat "Ladder" "most", .meth "Ladder" "__len__", .meth "Ladder" "size", .meth "Ladder" "stretch", .mkr "Ladder"]
abbrev R : PySem.W.OpenRow := PySem.W.OpenLaw.row PySem.Challenge.rw_sizeladders_k26_led_by_own_ends
def ex : List (PySem.W.Frag → Bool) := [supCB "NoSize" "LookupError" "LookupError.__new__" "LookupError.__init__" leTail, supIB "NoSize", xfNB "NoSize" "number", isCB "Measure", isCB "Stretch", isCB "Ladder", eqCB "Measure", excCB "NoSize", exmB "NoSize" "LandError" true, exmB "NoSize" "NoSize" true, tupB "RULES" ["up", "down", "near"], kitF (.inl "Measure") (.inl "Measure") true, kitF (.inl "Stretch") (.inl "Stretch") true, kitF (.inl "Measure") (.inl "Stretch") false, kitF (.inl "Stretch") (.inl "Measure") false, kitF (.inl "Ladder") (.inl "Ladder") true, kitF (.inr "int") (.inl "Measure") false, kitF (.inr "str") (.inl "Measure") false, kitF (.inr "NoneType") (.inl "Measure") false, kitF (.inr "tuple") (.inl "Measure") false, kitF (.inl "Measure") (.inr "tuple") false, kitF (.inl "NoSize") (.inl "NoSize") true, kitF (.inl "NoSize") (.inl "NoLand") false, kitF (.inl "NoSize") (.inl "LandTwice") false, kitF (.inl "NoSize") (.inr "LookupError") true, supDB "NoSize" h_NoSize_init "/claim/cut.py"]
def sps : List He.DefD := [h_NoSize_init]
abbrev hk : PySem.W.Hook := hookS 5 fa fn ex sps
def ob (s : PySem.W.SharedT) : (He.AlD × Bool) × List SupW := obsS 5 fa fn ex sps (HandSHeadRun.getT s)
theorem ob_eq (s : PySem.W.SharedT) : ob s = hk.obs s.abs := obsS_eq (HandSHeadRun.getT_eq s)
theorem run (w : World) : HandSHeadRun.RunEq R (PySem.W.view R.prog [69]) hk ob 20000 [("_wall" : PySem.Str), ("is_whole" : PySem.Str), ("is_tuple_of" : PySem.Str), ("are_wholes" : PySem.Str), ("LadderError" : PySem.Str), ("NoMeasure" : PySem.Str), ("NoStretch" : PySem.Str), ("NoLadder" : PySem.Str), ("Slip" : PySem.Str), ("LandError" : PySem.Str), ("NoSize" : PySem.Str), ("NoLand" : PySem.Str), ("LandTwice" : PySem.Str), ("NoBottom" : PySem.Str), ("common_part" : PySem.Str), ("written" : PySem.Str), ("Measure" : PySem.Str), ("is_measure_or_none" : PySem.Str), ("slip_of" : PySem.Str), ("is_empty" : PySem.Str), ("end_text" : PySem.Str), ("cut_low" : PySem.Str), ("cut_high" : PySem.Str), ("some_measure" : PySem.Str), ("Stretch" : PySem.Str), ("MOST_MARKS" : PySem.Str), ("RULES" : PySem.Str), ("are_marks" : PySem.Str), ("is_rule" : PySem.Str), ("is_span" : PySem.Str), ("midsts_of" : PySem.Str), ("size_by_rule" : PySem.Str), ("end_at" : PySem.Str), ("stretch_by_rule" : PySem.Str), ("has_size" : PySem.Str), ("bound_text" : PySem.Str), ("Ladder" : PySem.Str), ("shared_by" : PySem.Str), ("common_measures" : PySem.Str), ("led" : PySem.Str), ("led_paper" : PySem.Str), ("comes_to" : PySem.Str), ("is_paper" : PySem.Str), ("shows_led" : PySem.Str), ("_law_begin" : PySem.Str), ("_law_pick" : PySem.Str), ("_law_of" : PySem.Str), ("_law_parts" : PySem.Str), ("_law_less" : PySem.Str), ("_law_plus" : PySem.Str), ("_law_mid" : PySem.Str), ("_law_drawn" : PySem.Str), ("_law_made" : PySem.Str), ("_law_cut" : PySem.Str), ("_law_part" : PySem.Str), ("_law_met" : PySem.Str), ("_law_scaled" : PySem.Str), ("_law_ladders" : PySem.Str), ("_law_asked" : PySem.Str), ("_law_caught" : PySem.Str), ("_law_right" : PySem.Str)] w := by
  intro os
  kernel_rfl

end K26
namespace K26
open PySem PySem.Spec PyProof.Rows L2 My
theorem facts {K : PySem.W.Frag} {h : Heap} {mg : Str → Option Value} (X : K.In h) (G : h.Ns mainGlobals mg) (c : He.SaysD fa fn K) (cx : (ex.all fun f => f K) = true) (csp : sps.map (fun d => supW K d.at_) = sps.map supVal) : ∃ φ : Fds, Txt R.prog K mg φ := by
  obtain ⟨d0, F0⟩ := c.def_ 0 (d := h_is_whole) rfl
  obtain ⟨d1, F1⟩ := c.def_ 1 (d := h_is_tuple_of) rfl
  obtain ⟨d2, F2⟩ := c.def_ 2 (d := h_are_wholes) rfl
  obtain ⟨d3, F3⟩ := c.def_ 3 (d := h_common_part) rfl
  obtain ⟨d4, F4⟩ := c.def_ 4 (d := h_Measure_init) rfl
  obtain ⟨d5, F5⟩ := c.def_ 5 (d := h_Measure_eq) rfl
  obtain ⟨d6, F6⟩ := c.def_ 6 (d := h_Measure_repr) rfl
  obtain ⟨d7, F7⟩ := c.def_ 7 (d := h_Measure_plus) rfl
  obtain ⟨d8, F8⟩ := c.def_ 8 (d := h_Measure_minus) rfl
  obtain ⟨d9, F9⟩ := c.def_ 9 (d := h_Measure_parted) rfl
  obtain ⟨d10, F10⟩ := c.def_ 10 (d := h_Measure_is_below) rfl
  obtain ⟨d11, F11⟩ := c.def_ 11 (d := h_is_measure_or_none) rfl
  obtain ⟨d12, F12⟩ := c.def_ 12 (d := h_slip_of) rfl
  obtain ⟨d13, F13⟩ := c.def_ 13 (d := h_is_empty) rfl
  obtain ⟨d14, F14⟩ := c.def_ 14 (d := h_cut_low) rfl
  obtain ⟨d15, F15⟩ := c.def_ 15 (d := h_cut_high) rfl
  obtain ⟨d16, F16⟩ := c.def_ 16 (d := h_some_measure) rfl
  obtain ⟨d17, F17⟩ := c.def_ 17 (d := h_Stretch_init) rfl
  obtain ⟨d18, F18⟩ := c.def_ 18 (d := h_Stretch_shared) rfl
  obtain ⟨d19, F19⟩ := c.def_ 19 (d := h_Stretch_cut) rfl
  obtain ⟨d20, F20⟩ := c.def_ 20 (d := h_are_marks) rfl
  obtain ⟨d21, F21⟩ := c.def_ 21 (d := h_is_rule) rfl
  obtain ⟨d22, F22⟩ := c.def_ 22 (d := h_is_span) rfl
  obtain ⟨d23, F23⟩ := c.def_ 23 (d := h_midsts_of) rfl
  obtain ⟨d24, F24⟩ := c.def_ 24 (d := h_size_by_rule) rfl
  obtain ⟨d25, F25⟩ := c.def_ 25 (d := h_end_at) rfl
  obtain ⟨d26, F26⟩ := c.def_ 26 (d := h_stretch_by_rule) rfl
  obtain ⟨d27, F27⟩ := c.def_ 27 (d := h_has_size) rfl
  obtain ⟨d28, F28⟩ := c.def_ 28 (d := h_Ladder_init) rfl
  obtain ⟨d29, F29⟩ := c.def_ 29 (d := h_Ladder_len) rfl
  obtain ⟨d30, F30⟩ := c.def_ 30 (d := h_Ladder_size) rfl
  obtain ⟨d31, F31⟩ := c.def_ 31 (d := h_Ladder_stretch) rfl
  obtain ⟨d32, F32⟩ := c.def_ 32 (d := h_shared_by) rfl
  obtain ⟨d33, F33⟩ := c.def_ 33 (d := h_common_measures) rfl
  obtain ⟨d34, F34⟩ := c.def_ 34 (d := h_led) rfl
  obtain ⟨d35, F35⟩ := c.def_ 35 (d := h_led_paper) rfl
  obtain ⟨d36, F36⟩ := c.def_ 36 (d := h_comes_to) rfl
  obtain ⟨d37, F37⟩ := c.def_ 37 (d := h_is_paper) rfl
  obtain ⟨d38, F38⟩ := c.def_ 38 (d := h_shows_led) rfl
  obtain ⟨d39, F39⟩ := c.def_ 39 (d := h_l_begin) rfl
  obtain ⟨d40, F40⟩ := c.def_ 40 (d := h_l_pick) rfl
  obtain ⟨d41, F41⟩ := c.def_ 41 (d := h_l_of) rfl
  obtain ⟨d42, F42⟩ := c.def_ 42 (d := h_l_parts) rfl
  obtain ⟨d43, F43⟩ := c.def_ 43 (d := h_l_less) rfl
  obtain ⟨d44, F44⟩ := c.def_ 44 (d := h_l_plus) rfl
  obtain ⟨d45, F45⟩ := c.def_ 45 (d := h_l_mid) rfl
  obtain ⟨d46, F46⟩ := c.def_ 46 (d := h_l_drawn) rfl
  obtain ⟨d47, F47⟩ := c.def_ 47 (d := h_l_made) rfl
  obtain ⟨d48, F48⟩ := c.def_ 48 (d := h_l_cut) rfl
  obtain ⟨d49, F49⟩ := c.def_ 49 (d := h_l_part) rfl
  obtain ⟨d50, F50⟩ := c.def_ 50 (d := h_l_met) rfl
  obtain ⟨d51, F51⟩ := c.def_ 51 (d := h_l_scaled) rfl
  obtain ⟨d52, F52⟩ := c.def_ 52 (d := h_l_ladders) rfl
  obtain ⟨d53, F53⟩ := c.def_ 53 (d := h_l_asked) rfl
  obtain ⟨d54, F54⟩ := c.def_ 54 (d := h_l_caught) rfl
  obtain ⟨d55, F55⟩ := c.def_ 55 (d := h_l_right) rfl
  obtain ⟨d56, F56⟩ := c.def_ 56 (d := h_law) rfl
  obtain ⟨e0, e0c, e0a, G0⟩ := supD_ok (sup_at csp 0 (d := h_NoSize_init) rfl) (ex_at cx 25 (f := supDB "NoSize" h_NoSize_init "/claim/cut.py") rfl)
  refine ⟨⟨d0, d1, d2, d3, d4, d5, d6, d7, d8, d9, d10, d11, d12, d13, d14, d15, d16, d17, d18, d19, d20, d21, d22, d23, d24, d25, d26, d27, d28, d29, d30, d31, d32, d33, d34, d35, d36, d37, d38, d39, d40, d41, d42, d43, d44, d45, d46, d47, d48, d49, d50, d51, d52, d53, d54, d55, d56, e0, e0c, e0a⟩, ?_⟩
  exact {
    g_is_whole := He.glo_ok X G (c.fact 0 (f := .glo "is_whole") rfl),
    g_is_tuple_of := He.glo_ok X G (c.fact 1 (f := .glo "is_tuple_of") rfl),
    g_are_wholes := He.glo_ok X G (c.fact 2 (f := .glo "are_wholes") rfl),
    g_common_part := He.glo_ok X G (c.fact 3 (f := .glo "common_part") rfl),
    g_is_measure_or_none := He.glo_ok X G (c.fact 4 (f := .glo "is_measure_or_none") rfl),
    g_slip_of := He.glo_ok X G (c.fact 5 (f := .glo "slip_of") rfl),
    g_is_empty := He.glo_ok X G (c.fact 6 (f := .glo "is_empty") rfl),
    g_cut_low := He.glo_ok X G (c.fact 7 (f := .glo "cut_low") rfl),
    g_cut_high := He.glo_ok X G (c.fact 8 (f := .glo "cut_high") rfl),
    g_some_measure := He.glo_ok X G (c.fact 9 (f := .glo "some_measure") rfl),
    g_are_marks := He.glo_ok X G (c.fact 10 (f := .glo "are_marks") rfl),
    g_is_rule := He.glo_ok X G (c.fact 11 (f := .glo "is_rule") rfl),
    g_is_span := He.glo_ok X G (c.fact 12 (f := .glo "is_span") rfl),
    g_midsts_of := He.glo_ok X G (c.fact 13 (f := .glo "midsts_of") rfl),
    g_size_by_rule := He.glo_ok X G (c.fact 14 (f := .glo "size_by_rule") rfl),
    g_end_at := He.glo_ok X G (c.fact 15 (f := .glo "end_at") rfl),
    g_stretch_by_rule := He.glo_ok X G (c.fact 16 (f := .glo "stretch_by_rule") rfl),
    g_has_size := He.glo_ok X G (c.fact 17 (f := .glo "has_size") rfl),
    g_shared_by := He.glo_ok X G (c.fact 18 (f := .glo "shared_by") rfl),
    g_common_measures := He.glo_ok X G (c.fact 19 (f := .glo "common_measures") rfl),
    g_led := He.glo_ok X G (c.fact 20 (f := .glo "led") rfl),
    g_led_paper := He.glo_ok X G (c.fact 21 (f := .glo "led_paper") rfl),
    g_comes_to := He.glo_ok X G (c.fact 22 (f := .glo "comes_to") rfl),
    g_is_paper := He.glo_ok X G (c.fact 23 (f := .glo "is_paper") rfl),
    g_shows_led := He.glo_ok X G (c.fact 24 (f := .glo "shows_led") rfl),
    g_l_begin := He.glo_ok X G (c.fact 25 (f := .glo "_law_begin") rfl),
    g_l_pick := He.glo_ok X G (c.fact 26 (f := .glo "_law_pick") rfl),
    g_l_of := He.glo_ok X G (c.fact 27 (f := .glo "_law_of") rfl),
    g_l_parts := He.glo_ok X G (c.fact 28 (f := .glo "_law_parts") rfl),
    g_l_less := He.glo_ok X G (c.fact 29 (f := .glo "_law_less") rfl),
    g_l_plus := He.glo_ok X G (c.fact 30 (f := .glo "_law_plus") rfl),
    g_l_mid := He.glo_ok X G (c.fact 31 (f := .glo "_law_mid") rfl),
    g_l_drawn := He.glo_ok X G (c.fact 32 (f := .glo "_law_drawn") rfl),
    g_l_made := He.glo_ok X G (c.fact 33 (f := .glo "_law_made") rfl),
    g_l_cut := He.glo_ok X G (c.fact 34 (f := .glo "_law_cut") rfl),
    g_l_part := He.glo_ok X G (c.fact 35 (f := .glo "_law_part") rfl),
    g_l_met := He.glo_ok X G (c.fact 36 (f := .glo "_law_met") rfl),
    g_l_scaled := He.glo_ok X G (c.fact 37 (f := .glo "_law_scaled") rfl),
    g_l_ladders := He.glo_ok X G (c.fact 38 (f := .glo "_law_ladders") rfl),
    g_l_asked := He.glo_ok X G (c.fact 39 (f := .glo "_law_asked") rfl),
    g_l_caught := He.glo_ok X G (c.fact 40 (f := .glo "_law_caught") rfl),
    g_l_right := He.glo_ok X G (c.fact 41 (f := .glo "_law_right") rfl),
    g_law := He.glo_ok X G (c.fact 42 (f := .glo "law") rfl),
    g_Measure := He.glo_ok X G (c.fact 43 (f := .glo "Measure") rfl),
    g_Stretch := He.glo_ok X G (c.fact 44 (f := .glo "Stretch") rfl),
    g_Ladder := He.glo_ok X G (c.fact 45 (f := .glo "Ladder") rfl),
    g_NoSize := He.glo_ok X G (c.fact 46 (f := .glo "NoSize") rfl),
    z_super := He.free_ok X G (c.fact 47 (f := .free "super") rfl),
    g_RULES := He.glo_ok X G (c.fact 48 (f := .glo "RULES") rfl),
    g_LandError := He.glo_ok X G (c.fact 49 (f := .glo "LandError") rfl),
    g_LadderError := He.glo_ok X G (c.fact 50 (f := .glo "LadderError") rfl),
    g_NoLand := He.glo_ok X G (c.fact 51 (f := .glo "NoLand") rfl),
    g_LandTwice := He.glo_ok X G (c.fact 52 (f := .glo "LandTwice") rfl),
    v_MOST_MARKS := He.int_ok X G (c.fact 53 (f := .int "MOST_MARKS" 24) rfl),
    z_LookupError := He.free_ok X G (c.fact 54 (f := .free "LookupError") rfl),
    z_abs := He.free_ok X G (c.fact 55 (f := .free "abs") rfl),
    z_all := He.free_ok X G (c.fact 56 (f := .free "all") rfl),
    z_bool := He.free_ok X G (c.fact 57 (f := .free "bool") rfl),
    z_enumerate := He.free_ok X G (c.fact 58 (f := .free "enumerate") rfl),
    z_int := He.free_ok X G (c.fact 59 (f := .free "int") rfl),
    z_isinstance := He.free_ok X G (c.fact 60 (f := .free "isinstance") rfl),
    z_len := He.free_ok X G (c.fact 61 (f := .free "len") rfl),
    z_list := He.free_ok X G (c.fact 62 (f := .free "list") rfl),
    z_max := He.free_ok X G (c.fact 63 (f := .free "max") rfl),
    z_min := He.free_ok X G (c.fact 64 (f := .free "min") rfl),
    z_range := He.free_ok X G (c.fact 65 (f := .free "range") rfl),
    z_repr := He.free_ok X G (c.fact 66 (f := .free "repr") rfl),
    z_str := He.free_ok X G (c.fact 67 (f := .free "str") rfl),
    z_tuple := He.free_ok X G (c.fact 68 (f := .free "tuple") rfl),
    cl_Measure := He.cls_ok (c.fact 69 (f := .cls "Measure") rfl),
    na_Measure_top := He.noat_ok (c.fact 70 (f := .noat "Measure" "top") rfl),
    na_Measure_bottom := He.noat_ok (c.fact 71 (f := .noat "Measure" "bottom") rfl),
    me_Measure_eq := He.meth_ok (c.fact 72 (f := .meth "Measure" "__eq__") rfl),
    me_Measure_repr := He.meth_ok (c.fact 73 (f := .meth "Measure" "__repr__") rfl),
    me_Measure_plus := He.meth_ok (c.fact 74 (f := .meth "Measure" "plus") rfl),
    me_Measure_minus := He.meth_ok (c.fact 75 (f := .meth "Measure" "minus") rfl),
    me_Measure_parted := He.meth_ok (c.fact 76 (f := .meth "Measure" "parted") rfl),
    me_Measure_is_below := He.meth_ok (c.fact 77 (f := .meth "Measure" "is_below") rfl),
    mk_Measure := He.mkr_ok (c.fact 78 (f := .mkr "Measure") rfl),
    cl_Stretch := He.cls_ok (c.fact 79 (f := .cls "Stretch") rfl),
    na_Stretch_low := He.noat_ok (c.fact 80 (f := .noat "Stretch" "low") rfl),
    na_Stretch_high := He.noat_ok (c.fact 81 (f := .noat "Stretch" "high") rfl),
    na_Stretch_low_in := He.noat_ok (c.fact 82 (f := .noat "Stretch" "low_in") rfl),
    na_Stretch_high_in := He.noat_ok (c.fact 83 (f := .noat "Stretch" "high_in") rfl),
    me_Stretch_shared := He.meth_ok (c.fact 84 (f := .meth "Stretch" "shared") rfl),
    me_Stretch_cut := He.meth_ok (c.fact 85 (f := .meth "Stretch" "cut") rfl),
    mk_Stretch := He.mkr_ok (c.fact 86 (f := .mkr "Stretch") rfl),
    cl_Ladder := He.cls_ok (c.fact 87 (f := .cls "Ladder") rfl),
    na_Ladder_marks := He.noat_ok (c.fact 88 (f := .noat "Ladder" "marks") rfl),
    na_Ladder_rule := He.noat_ok (c.fact 89 (f := .noat "Ladder" "rule") rfl),
    na_Ladder_least := He.noat_ok (c.fact 90 (f := .noat "Ladder" "least") rfl),
    na_Ladder_most := He.noat_ok (c.fact 91 (f := .noat "Ladder" "most") rfl),
    me_Ladder_len := He.meth_ok (c.fact 92 (f := .meth "Ladder" "__len__") rfl),
    me_Ladder_size := He.meth_ok (c.fact 93 (f := .meth "Ladder" "size") rfl),
    me_Ladder_stretch := He.meth_ok (c.fact 94 (f := .meth "Ladder" "stretch") rfl),
    mk_Ladder := He.mkr_ok (c.fact 95 (f := .mkr "Ladder") rfl),
    sc_NoSize := supC_ok (ex_at cx 0 (f := supCB "NoSize" "LookupError" "LookupError.__new__" "LookupError.__init__" leTail) rfl),
    si_NoSize := supI_ok (ex_at cx 1 (f := supIB "NoSize") rfl),
    xn_NoSize_number := xfN_ok (ex_at cx 2 (f := xfNB "NoSize" "number") rfl),
    ii_Measure := isC_ok (ex_at cx 3 (f := isCB "Measure") rfl),
    ii_Stretch := isC_ok (ex_at cx 4 (f := isCB "Stretch") rfl),
    ii_Ladder := isC_ok (ex_at cx 5 (f := isCB "Ladder") rfl),
    ec_Measure := eqC_ok (ex_at cx 6 (f := eqCB "Measure") rfl),
    xc_NoSize := excC_ok (ex_at cx 7 (f := excCB "NoSize") rfl),
    xm_NoSize_LandError := My.exm_ok (ex_at cx 8 (f := exmB "NoSize" "LandError" true) rfl),
    xm_NoSize_NoSize := My.exm_ok (ex_at cx 9 (f := exmB "NoSize" "NoSize" true) rfl),
    tp_RULES := tup_ok (ex_at cx 10 (f := tupB "RULES" ["up", "down", "near"]) rfl),
    k_Measure_Measure := kitF_ok (ex_at cx 11 (f := kitF (.inl "Measure") (.inl "Measure") true) rfl),
    k_Stretch_Stretch := kitF_ok (ex_at cx 12 (f := kitF (.inl "Stretch") (.inl "Stretch") true) rfl),
    k_Measure_Stretch := kitF_ok (ex_at cx 13 (f := kitF (.inl "Measure") (.inl "Stretch") false) rfl),
    k_Stretch_Measure := kitF_ok (ex_at cx 14 (f := kitF (.inl "Stretch") (.inl "Measure") false) rfl),
    k_Ladder_Ladder := kitF_ok (ex_at cx 15 (f := kitF (.inl "Ladder") (.inl "Ladder") true) rfl),
    k_int_Measure := kitF_ok (ex_at cx 16 (f := kitF (.inr "int") (.inl "Measure") false) rfl),
    k_str_Measure := kitF_ok (ex_at cx 17 (f := kitF (.inr "str") (.inl "Measure") false) rfl),
    k_NoneType_Measure := kitF_ok (ex_at cx 18 (f := kitF (.inr "NoneType") (.inl "Measure") false) rfl),
    k_tuple_Measure := kitF_ok (ex_at cx 19 (f := kitF (.inr "tuple") (.inl "Measure") false) rfl),
    k_Measure_tuple := kitF_ok (ex_at cx 20 (f := kitF (.inl "Measure") (.inr "tuple") false) rfl),
    k_NoSize_NoSize := kitF_ok (ex_at cx 21 (f := kitF (.inl "NoSize") (.inl "NoSize") true) rfl),
    k_NoSize_NoLand := kitF_ok (ex_at cx 22 (f := kitF (.inl "NoSize") (.inl "NoLand") false) rfl),
    k_NoSize_LandTwice := kitF_ok (ex_at cx 23 (f := kitF (.inl "NoSize") (.inl "LandTwice") false) rfl),
    k_NoSize_LookupError := kitF_ok (ex_at cx 24 (f := kitF (.inl "NoSize") (.inr "LookupError") true) rfl),
    f_is_whole := F0,
    f_is_tuple_of := F1,
    f_are_wholes := F2,
    f_common_part := F3,
    f_Measure_init := F4,
    f_Measure_eq := F5,
    f_Measure_repr := F6,
    f_Measure_plus := F7,
    f_Measure_minus := F8,
    f_Measure_parted := F9,
    f_Measure_is_below := F10,
    f_is_measure_or_none := F11,
    f_slip_of := F12,
    f_is_empty := F13,
    f_cut_low := F14,
    f_cut_high := F15,
    f_some_measure := F16,
    f_Stretch_init := F17,
    f_Stretch_shared := F18,
    f_Stretch_cut := F19,
    f_are_marks := F20,
    f_is_rule := F21,
    f_is_span := F22,
    f_midsts_of := F23,
    f_size_by_rule := F24,
    f_end_at := F25,
    f_stretch_by_rule := F26,
    f_has_size := F27,
    f_Ladder_init := F28,
    f_Ladder_len := F29,
    f_Ladder_size := F30,
    f_Ladder_stretch := F31,
    f_shared_by := F32,
    f_common_measures := F33,
    f_led := F34,
    f_led_paper := F35,
    f_comes_to := F36,
    f_is_paper := F37,
    f_shows_led := F38,
    f_l_begin := F39,
    f_l_pick := F40,
    f_l_of := F41,
    f_l_parts := F42,
    f_l_less := F43,
    f_l_plus := F44,
    f_l_mid := F45,
    f_l_drawn := F46,
    f_l_made := F47,
    f_l_cut := F48,
    f_l_part := F49,
    f_l_met := F50,
    f_l_scaled := F51,
    f_l_ladders := F52,
    f_l_asked := F53,
    f_l_caught := F54,
    f_l_right := F55,
    f_law := F56,
    su_NoSize_init := G0,
    pfile := by kernel_rfl,
    ptop := by kernel_rfl }
def sp_law (K : PySem.W.Frag) : Sp := fun vs H Q _ => ∃ (a : Addr) (ns : List Int), vs = [.ref a] ∧ SqL K H a (ns.map V.int) ∧ ns.length ≤ 63 ∧ ∀ H', Q (.bl true) H'

end K26
open PySem PySem.W PySem.Calls PyProof.Rows in
set_option maxRecDepth 100000 in
set_option maxHeartbeats 0 in
theorem K26.pre (hl : ∀ {P : Program} {w : World} {K : PySem.W.Frag} {mg : Str → Option Value} {base : Heap} {φ : K26.Fds} (T : K26.Txt P K mg φ), My.FnG P w K mg base L2.CX0 13 (He.fAd K ("law", none)) φ.law K26.p_law (K26.sp_law K)) : PySem.Challenge.rw_sizeladders_k26_led_by_own_ends.Holds := by
  w_on; o_law
  refine HandSHeadRun.head_any (r := OpenLaw.row PySem.Challenge.rw_sizeladders_k26_led_by_own_ends) (q := view (OpenLaw.row PySem.Challenge.rw_sizeladders_k26_led_by_own_ends).prog [69]) (H := K26.hk) (ob := K26.ob) (M := 20000) (loose := [("_wall" : PySem.Str), ("is_whole" : PySem.Str), ("is_tuple_of" : PySem.Str), ("are_wholes" : PySem.Str), ("LadderError" : PySem.Str), ("NoMeasure" : PySem.Str), ("NoStretch" : PySem.Str), ("NoLadder" : PySem.Str), ("Slip" : PySem.Str), ("LandError" : PySem.Str), ("NoSize" : PySem.Str), ("NoLand" : PySem.Str), ("LandTwice" : PySem.Str), ("NoBottom" : PySem.Str), ("common_part" : PySem.Str), ("written" : PySem.Str), ("Measure" : PySem.Str), ("is_measure_or_none" : PySem.Str), ("slip_of" : PySem.Str), ("is_empty" : PySem.Str), ("end_text" : PySem.Str), ("cut_low" : PySem.Str), ("cut_high" : PySem.Str), ("some_measure" : PySem.Str), ("Stretch" : PySem.Str), ("MOST_MARKS" : PySem.Str), ("RULES" : PySem.Str), ("are_marks" : PySem.Str), ("is_rule" : PySem.Str), ("is_span" : PySem.Str), ("midsts_of" : PySem.Str), ("size_by_rule" : PySem.Str), ("end_at" : PySem.Str), ("stretch_by_rule" : PySem.Str), ("has_size" : PySem.Str), ("bound_text" : PySem.Str), ("Ladder" : PySem.Str), ("shared_by" : PySem.Str), ("common_measures" : PySem.Str), ("led" : PySem.Str), ("led_paper" : PySem.Str), ("comes_to" : PySem.Str), ("is_paper" : PySem.Str), ("shows_led" : PySem.Str), ("_law_begin" : PySem.Str), ("_law_pick" : PySem.Str), ("_law_of" : PySem.Str), ("_law_parts" : PySem.Str), ("_law_less" : PySem.Str), ("_law_plus" : PySem.Str), ("_law_mid" : PySem.Str), ("_law_drawn" : PySem.Str), ("_law_made" : PySem.Str), ("_law_cut" : PySem.Str), ("_law_part" : PySem.Str), ("_law_met" : PySem.Str), ("_law_scaled" : PySem.Str), ("_law_ladders" : PySem.Str), ("_law_asked" : PySem.Str), ("_law_caught" : PySem.Str), ("_law_right" : PySem.Str)]) (d := HandSHeadRun.topDef (OpenLaw.row PySem.Challenge.rw_sizeladders_k26_led_by_own_ends).prog 69) (kwd := []) K26.ob_eq
    (by kernel_rfl) (fun s => by kernel_rfl) K26.run (by kernel_rfl) (by kernel_rfl) (by kernel_rfl) (by rfl) (by first | assumption | decide +kernel) (by decide +kernel) ⟨rfl, rfl, rfl, rfl, rfl, by decide +kernel⟩ ?hw ?hc
  case hw => w_witness2
  case hc =>
    refine My.walk_G (l := PySem.Challenge.rw_sizeladders_k26_led_by_own_ends) (n := 63) (k := 13) (x := "_law_script") (CX := L2.CX0) rfl (by decide) (by kernel_rfl) ⟨rfl, by decide, by decide⟩ ?F (fun _ _ _ _ z => z)
    intro w mg fa h Y G hmg0
    obtain ⟨K, KX, c, cx, csp⟩ := Y
    have hmg : mg ("law" : PySem.Str) = some (.ref fa) := by
      have e : (HandSHeadRun.topDef (OpenLaw.row PySem.Challenge.rw_sizeladders_k26_led_by_own_ends).prog 69).name = ("law" : PySem.Str) := by kernel_rfl
      rw [← e]
      exact hmg0
    obtain ⟨φ, T⟩ := K26.facts KX G c cx csp
    have e := hmg.symm.trans T.g_law
    cases e
    have b := L2.FunD.bindsA (ps := K26.p_law) T.f_law fun _ _ _ _ _ _ us hl => match us, hl with | [_], _ => rfl
    exact ⟨K, φ.law, K26.sp_law K, KX, fun s v => b s [v] rfl, fun H a ns hl _ hS => ⟨a, ns, rfl, hS, hl, fun _ => rfl⟩, fun base _ _ => hl T⟩

/-! ### repr of plain dicts; things of any kind -/
namespace My
open PySem PySem.Spec PyProof.Rows L2 NdefX
def encK : Key → PyData
  | .inl i => .int i
  | .inr x => .str x
/-- a plain value: none, a truth, a whole number, a text -/
inductive Plain : V → PyData → Prop
  | non : Plain .non .none
  | bl (b : Bool) : Plain (.bl b) (.bool b)
  | int (i : Int) : Plain (.int i) (.int i)
  | str (x : Str) : Plain (.str x) (.str x)
inductive Flat : List (Key × V) → List (PyData × PyData) → Prop
  | nil : Flat [] []
  | cons {k : Key} {v : V} {d : PyData} {kvs : List (Key × V)} {D : List (PyData × PyData)} : Plain v d → Flat kvs D → Flat ((k, v) :: kvs) ((encK k, d) :: D)
theorem Plain.reads {h : Heap} {v : V} {d : PyData} {u : Value} (p : Plain v d) (r : L2.RelV v u) : Reads h u d [] := by
  cases p with
  | non => cases r; exact .none
  | bl b => cases r; exact .bool b
  | int i => obtain ⟨t, rfl⟩ := r; exact .int i t
  | str x => obtain ⟨t, rfl⟩ := r; exact .str x t
theorem Flat.reads {h : Heap} : ∀ {kvs : List (Key × V)} {D : List (PyData × PyData)} {vs : List (Key × Value)}, Flat kvs D → KV kvs vs → PyProof.V.PairsRead h encK vs D []
  | _, _, _, .nil, .nil => .nil
  | _, _, _, .cons p f, .cons (b := (k', u)) r rs => by
    obtain ⟨e, r⟩ := r
    cases e
    exact PyProof.V.PairsRead.cons (p.reads r) (f.reads rs)
theorem encK_reads {h : Heap} {P : Program} {w : World} (k : Key) (key : Value) (e : (mixKind P w).is k key = true) : Reads h key (encK k) [] := by
  rcases keyIs_shape e with ⟨i, t, rfl, rfl⟩ | ⟨x, t, rfl, rfl⟩
  · exact .int i t
  · exact .str x t
/-- repr of a plain dict -/
theorem call_reprK {X : Cx} {n : Nat} (gd : X.A.guards = some []) (hr : Room n X.A) : CallR X (.builtin "repr") (fun xs H Q => ∃ (a : Addr) (kvs : List (Key × V)) (D : List (PyData × PyData)), xs = [.ref a] ∧ H a = some (.dK kvs) ∧ Flat kvs D ∧ (PyData.dict D).showable = true ∧ (PyData.dict D).depth ≤ 60 ∧ (PyData.dict D).shown.length ≤ sizeLine ∧ Q (.str (PyData.dict D).shown) H) := by
  intro pins s σ H xs us Q I r h
  obtain ⟨a, kvs, D, rfl, ha, hf, hs, hp, hz, q⟩ := h
  obtain ⟨u, rfl, rx⟩ := vals1 r
  cases (show u = Value.ref a from rx)
  obtain ⟨_, hsys, vs, hkv, hd⟩ := (show ObjOk X.prog X.w H s.heap a (.dK kvs) from I.hok a _ ha)
  have rd : Reads s.heap (.ref a) (.dict D) (a :: []) := PyProof.V.reads_dictOf (encK_reads) hd (hf.reads hkv)
  have hu := hr.un
  refine repr_of_reads' rd hs (fun _ z => ?_) gd (by omega) (fun _ _ e => e) (fun h' t tk hk => ⟨.str _, H, I.kept hk, ⟨t, rfl⟩, q⟩) hz
  have e : sysModules = a := by simpa using z
  rw [← e] at hsys
  simp at hsys
/-- what repr shows of it -/
inductive Shw (K : PySem.W.Frag) (H : Hp) : V → Str → Prop
  | data {v : V} {d : PyData} : Dp K H v d → d.showable = true → d.hasDict = false → d.depth ≤ 60 → d.shown.length ≤ sizeLine → Shw K H v d.shown
  | dict {a : Addr} {kvs : List (Key × V)} {D : List (PyData × PyData)} : H a = some (.dK kvs) → Flat kvs D → (PyData.dict D).showable = true → (PyData.dict D).depth ≤ 60 → (PyData.dict D).shown.length ≤ sizeLine → Shw K H (.ref a) (PyData.dict D).shown
theorem call_reprX {X : Cx} {n : Nat} (gd : X.A.guards = some []) (hr : Room n X.A) : CallR X (.builtin "repr") (fun xs H Q => ∃ v z, xs = [v] ∧ Shw X.K H v z ∧ Q (.str z) H) := by
  intro pins s σ H xs us Q I r h
  obtain ⟨v, z, rfl, hs, q⟩ := h
  cases hs with
  | data d s h1 h2 h3 => exact call_reprD gd hr pins _ σ H _ us Q I r ⟨_, _, rfl, d, s, h1, h2, h3, q⟩
  | dict ha hf s h2 h3 => exact call_reprK gd hr pins _ σ H _ us Q I r ⟨_, _, _, rfl, ha, hf, s, h2, h3, q⟩
mutual
theorem Dp.same {K : PySem.W.Frag} {H H' : Hp} (s : Same H H') : ∀ {v : V} {d : PyData}, Dp K H v d → Dp K H' v d
  | _, _, .non => .non
  | _, _, .bl b => .bl b
  | _, _, .int i => .int i
  | _, _, .str x => .str x
  | _, _, .lst h a => .lst (s.seq h) (DpAll.same s a)
  | _, _, .tup h a => .tup (s.sqt h) (DpAll.same s a)
theorem DpAll.same {K : PySem.W.Frag} {H H' : Hp} (s : Same H H') : ∀ {vs : List V} {ds : List PyData}, DpAll K H vs ds → DpAll K H' vs ds
  | _, _, .nil => .nil
  | _, _, .cons h r => .cons (Dp.same s h) (DpAll.same s r)
end
theorem Shw.same {K : PySem.W.Frag} {H H' : Hp} {v : V} {z : Str} (h : Shw K H v z) (s : Same H H') : Shw K H' v z := by
  cases h with
  | data d a b c e => exact .data (Dp.same s d) a b c e
  | dict ha hf a b c => exact .dict (s _ _ ha) hf a b c
/-- its kind: one of the seven built-in ones -/
def Kd (H : Hp) (v : V) (kn : String) : Prop := (v = .non ∧ kn = "NoneType") ∨ (∃ b, v = .bl b ∧ kn = "bool") ∨ (∃ i, v = .int i ∧ kn = "int") ∨ (∃ z, v = .str z ∧ kn = "str") ∨ (∃ a xs, v = .ref a ∧ H a = some (.lst xs) ∧ kn = "list") ∨ (∃ a xs, v = .ref a ∧ H a = some (.tup xs) ∧ kn = "tuple") ∨ (∃ a xs, v = .ref a ∧ H a = some (.dK xs) ∧ kn = "dict")
theorem Kd.same {H H' : Hp} {v : V} {kn : String} (h : Kd H v kn) (s : Same H H') : Kd H' v kn := by
  rcases h with h | h | h | h | ⟨a, xs, e, h, n⟩ | ⟨a, xs, e, h, n⟩ | ⟨a, xs, e, h, n⟩
  · exact .inl h
  · exact .inr (.inl h)
  · exact .inr (.inr (.inl h))
  · exact .inr (.inr (.inr (.inl h)))
  · exact .inr (.inr (.inr (.inr (.inl ⟨a, xs, e, s _ _ h, n⟩))))
  · exact .inr (.inr (.inr (.inr (.inr (.inl ⟨a, xs, e, s _ _ h, n⟩)))))
  · exact .inr (.inr (.inr (.inr (.inr (.inr ⟨a, xs, e, s _ _ h, n⟩)))))
theorem Kd.ty {K : PySem.W.Frag} {H : Hp} {v : V} {kn : String} (h : Kd H v kn) : TyX K H v (.type kn) := by
  rcases h with ⟨rfl, rfl⟩ | ⟨b, rfl, rfl⟩ | ⟨i, rfl, rfl⟩ | ⟨z, rfl, rfl⟩ | ⟨a, xs, rfl, h, rfl⟩ | ⟨a, xs, rfl, h, rfl⟩ | ⟨a, xs, rfl, h, rfl⟩
  · exact .base .non
  · exact .base (.bl b)
  · exact .base (.int i)
  · exact .base (.str z)
  · exact .base (.lst h)
  · exact .base (.tup h)
  · exact .base (.dK h)
theorem Kd.names {H : Hp} {v : V} {kn : String} (h : Kd H v kn) : kn = "NoneType" ∨ kn = "bool" ∨ kn = "int" ∨ kn = "str" ∨ kn = "list" ∨ kn = "tuple" ∨ kn = "dict" := by
  rcases h with ⟨_, h⟩ | ⟨_, _, h⟩ | ⟨_, _, h⟩ | ⟨_, _, h⟩ | ⟨_, _, _, _, h⟩ | ⟨_, _, _, _, h⟩ | ⟨_, _, _, _, h⟩
  · exact .inl h
  · exact .inr (.inl h)
  · exact .inr (.inr (.inl h))
  · exact .inr (.inr (.inr (.inl h)))
  · exact .inr (.inr (.inr (.inr (.inl h))))
  · exact .inr (.inr (.inr (.inr (.inr (.inl h)))))
  · exact .inr (.inr (.inr (.inr (.inr (.inr h)))))
/-- isinstance of a thing of these kinds against a built-in class -/
theorem kind_is {K : PySem.W.Frag} {H : Hp} {v : V} {kn c : String} (h : Kd H v kn) (hc : c = "int" ∨ c = "bool" ∨ c = "str" ∨ c = "tuple" ∨ c = "list") : PySem.W.kitOne K (.type kn) (.type c) = some (decide (kn = c) || (decide (kn = "bool") && decide (c = "int"))) := by
  rcases h.names with rfl | rfl | rfl | rfl | rfl | rfl | rfl <;> rcases hc with rfl | rfl | rfl | rfl | rfl <;> exact kit_ty (by decide +kernel)
/-- is_whole of anything of these kinds -/
def sp_iswX : Sp := fun vs H Q _ => ∃ (v : V) (kn : String), vs = [v] ∧ Kd H v kn ∧ Q (.bl (decide (kn = "int"))) H
/-! ### o.m(e, ..) in a body from which an error may come -/
section
variable {X : Cx} {CX : CXT} {k : Nat} {f C : Addr} {fd : FuncData} {ps : List Str} {sp : Sp} {dvs : List V} {ds : List Value} {E : L2.St → XK} {x m : Str} {p pos apos : Pos} {e o : Expr} {es : List Expr} {ta : TE} {t : TA}
end
end My
namespace My
open PySem PySem.Spec PyProof.Rows L2
/-! ### comprehensions with two walks -/
/-! ### pairs of sizes, feet, rules broken -/
def PrV (H : Hp) (v : V) (p : Nat × Nat) : Prop := ∃ T, v = .ref T ∧ H T = some (.tup [.int (p.1 : Int), .int (p.2 : Int)])
theorem PrV.same {H H' : Hp} {v : V} {p : Nat × Nat} (a : PrV H v p) (s : Same H H') : PrV H' v p := by
  obtain ⟨T, e, h⟩ := a
  exact ⟨T, e, s _ _ h⟩
theorem PrV.nl {H H' : Hp} {v : V} {p : Nat × Nat} (a : PrV H v p) (s : Nl H H') : PrV H' v p := by
  obtain ⟨T, e, h⟩ := a
  exact ⟨T, e, s _ _ h rfl⟩
theorem PrV.kp {H H' : Hp} {h : Addr} {n : Nat} {v : V} {p : Nat × Nat} (a : PrV H v p) (hh : HandAt H h n) (s : Kp h H H') : PrV H' v p := by
  obtain ⟨T, e, h⟩ := a
  exact ⟨T, e, s.get hh h rfl⟩
/-- a grid, its ladders, their bits -/
structure GC (K : PySem.W.Frag) (CM CL CG : Addr) (H : Hp) (p : Addr) (j k : Nat) (L1 L2 : Addr) (zs ys : List Q2) (g : Q2) : Prop where
  ag : GrdAt K CM CL CG H p j L1 L2 g
  a1 : LadE K CM CL H L1 k zs
  a2 : LadE K CM CL H L2 k ys
  j0 : 0 < j
  j1 : j ≤ 1000
  k0 : 0 < k
  k1 : k ≤ 1000
  l0 : 0 < zs.length
  l1 : zs.length ≤ 24
  m0 : 0 < ys.length
  m1 : ys.length ≤ 24
section
variable {K : PySem.W.Frag} {CM CL CG p h L1 L2 : Addr} {H H' : Hp} {j k n : Nat} {zs ys : List Q2} {g : Q2}
theorem GC.same (a : GC K CM CL CG H p j k L1 L2 zs ys g) (s : Same H H') : GC K CM CL CG H' p j k L1 L2 zs ys g := by
  obtain ⟨r1, lo1, hi1, a1⟩ := a.a1
  obtain ⟨r2, lo2, hi2, a2⟩ := a.a2
  exact { a with ag := a.ag.same s, a1 := ⟨_, _, _, a1.same s⟩, a2 := ⟨_, _, _, a2.same s⟩ }
theorem GC.kp (a : GC K CM CL CG H p j k L1 L2 zs ys g) (hh : HandAt H h n) (s : Kp h H H') : GC K CM CL CG H' p j k L1 L2 zs ys g := by
  obtain ⟨r1, lo1, hi1, a1⟩ := a.a1
  obtain ⟨r2, lo2, hi2, a2⟩ := a.a2
  exact { a with ag := a.ag.kp hh s, a1 := ⟨_, _, _, a1.kp hh s⟩, a2 := ⟨_, _, _, a2.kp hh s⟩ }
end
/-- a foot: two Measures -/
def FtV (K : PySem.W.Frag) (CM : Addr) (H : Hp) (m : Nat) (v : V) (f : Q2 × Q2) : Prop := ∃ t f1 f2, v = .ref t ∧ SqT K H t [.ref f1, .ref f2] ∧ QAt CM H f1 m f.1 ∧ QAt CM H f2 m f.2
theorem FtV.same {K : PySem.W.Frag} {CM : Addr} {H H' : Hp} {m : Nat} {v : V} {f : Q2 × Q2} (a : FtV K CM H m v f) (s : Same H H') : FtV K CM H' m v f := by
  obtain ⟨t, f1, f2, e, h1, h2, h3⟩ := a
  exact ⟨t, f1, f2, e, s.sqt h1, h2.same s, h3.same s⟩
theorem FtV.nl {K : PySem.W.Frag} {CM : Addr} {H H' : Hp} {m : Nat} {v : V} {f : Q2 × Q2} (a : FtV K CM H m v f) (s : Nl H H') : FtV K CM H' m v f := by
  obtain ⟨t, f1, f2, e, h1, h2, h3⟩ := a
  exact ⟨t, f1, f2, e, sqt_nl h1 s, h2.nl s, h3.nl s⟩
theorem FtV.kp {K : PySem.W.Frag} {CM : Addr} {H H' : Hp} {h : Addr} {n m : Nat} {v : V} {f : Q2 × Q2} (a : FtV K CM H m v f) (hh : HandAt H h n) (s : Kp h H H') : FtV K CM H' m v f := by
  obtain ⟨t, f1, f2, e, h1, h2, h3⟩ := a
  exact ⟨t, f1, f2, e, sqt_kp h1 hh s, h2.kp hh s, h3.kp hh s⟩
/-- several feet -/
structure Fts (K : PySem.W.Frag) (CM : Addr) (H : Hp) (m : Nat) (us : List V) (fs : List (Q2 × Q2)) : Prop where
  len : us.length = fs.length
  all : ∀ (i : Nat) (v : V) (f : Q2 × Q2), us[i]? = some v → fs[i]? = some f → FtV K CM H m v f
section
variable {K : PySem.W.Frag} {CM h : Addr} {H H' : Hp} {m n : Nat} {us : List V} {fs : List (Q2 × Q2)}
theorem Fts.same (a : Fts K CM H m us fs) (s : Same H H') : Fts K CM H' m us fs := ⟨a.len, fun i v f h1 h2 => (a.all i v f h1 h2).same s⟩
theorem Fts.nl (a : Fts K CM H m us fs) (s : Nl H H') : Fts K CM H' m us fs := ⟨a.len, fun i v f h1 h2 => (a.all i v f h1 h2).nl s⟩
theorem Fts.kp (a : Fts K CM H m us fs) (hh : HandAt H h n) (s : Kp h H H') : Fts K CM H' m us fs := ⟨a.len, fun i v f h1 h2 => (a.all i v f h1 h2).kp hh s⟩
theorem Fts.of (a : Fts K CM H m us fs) {i : Nat} {v : V} (h1 : us[i]? = some v) : ∃ f, fs[i]? = some f ∧ FtV K CM H m v f := by
  have hi : i < fs.length := by rw [← a.len]; exact (List.getElem?_eq_some_iff.mp h1).1
  exact ⟨_, List.getElem?_eq_getElem hi, a.all i v _ h1 (List.getElem?_eq_getElem hi)⟩
theorem Fts.at (a : Fts K CM H m us fs) {i : Nat} {f : Q2 × Q2} (h1 : fs[i]? = some f) : ∃ v, us[i]? = some v ∧ FtV K CM H m v f := by
  have hi : i < us.length := by rw [a.len]; exact (List.getElem?_eq_some_iff.mp h1).1
  exact ⟨_, List.getElem?_eq_getElem hi, a.all i _ f (List.getElem?_eq_getElem hi) h1⟩
end
def FoV (H : Hp) (v : V) : Option (Nat × Str) → Prop
  | none => v = .non
  | some q => ∃ T, v = .ref T ∧ H T = some (.tup [.int (q.1 : Int), .str q.2])
theorem FoV.same {H H' : Hp} {v : V} (s : Same H H') : ∀ {o : Option (Nat × Str)}, FoV H v o → FoV H' v o
  | none, h => h
  | some _, ⟨T, h1, h2⟩ => ⟨T, h1, s _ _ h2⟩
/-- a paper -/
def PpV (H : Hp) (v : V) (p : Nat × Nat) (q : Nat × Str) : Prop := ∃ T, v = .ref T ∧ H T = some (.tup [.int (p.1 : Int), .int (p.2 : Int), .int (q.1 : Int), .str q.2])
theorem PpV.same {H H' : Hp} {v : V} {p : Nat × Nat} {q : Nat × Str} (a : PpV H v p q) (s : Same H H') : PpV H' v p q := by
  obtain ⟨T, e, h⟩ := a
  exact ⟨T, e, s _ _ h⟩
theorem PpV.nl {H H' : Hp} {v : V} {p : Nat × Nat} {q : Nat × Str} (a : PpV H v p q) (s : Nl H H') : PpV H' v p q := by
  obtain ⟨T, e, h⟩ := a
  exact ⟨T, e, s _ _ h rfl⟩
theorem PpV.kp {H H' : Hp} {h : Addr} {n : Nat} {v : V} {p : Nat × Nat} {q : Nat × Str} (a : PpV H v p q) (hh : HandAt H h n) (s : Kp h H H') : PpV H' v p q := by
  obtain ⟨T, e, h⟩ := a
  exact ⟨T, e, s.get hh h rfl⟩
/-- the papers of pairs each of which is broken -/
structure Pps (H : Hp) (us : List V) (ps : List (Nat × Nat)) (F : Nat × Nat → Option (Nat × Str)) : Prop where
  len : us.length = ps.length
  all : ∀ (i : Nat) (v : V) (p : Nat × Nat), us[i]? = some v → ps[i]? = some p → ∃ q, F p = some q ∧ PpV H v p q
section
variable {H H' : Hp} {h : Addr} {n : Nat} {us : List V} {ps : List (Nat × Nat)} {F : Nat × Nat → Option (Nat × Str)}
theorem Pps.same (a : Pps H us ps F) (s : Same H H') : Pps H' us ps F := ⟨a.len, fun i v p h1 h2 => by
  obtain ⟨q, e, h⟩ := a.all i v p h1 h2
  exact ⟨q, e, h.same s⟩⟩
theorem Pps.nl (a : Pps H us ps F) (s : Nl H H') : Pps H' us ps F := ⟨a.len, fun i v p h1 h2 => by
  obtain ⟨q, e, h⟩ := a.all i v p h1 h2
  exact ⟨q, e, h.nl s⟩⟩
theorem Pps.kp (a : Pps H us ps F) (hh : HandAt H h n) (s : Kp h H H') : Pps H' us ps F := ⟨a.len, fun i v p h1 h2 => by
  obtain ⟨q, e, h⟩ := a.all i v p h1 h2
  exact ⟨q, e, h.kp hh s⟩⟩
end
/-- what pair_for tells -/
def ToldV (H : Hp) (v : V) (ps : List (Nat × Nat)) (F : Nat × Nat → Option (Nat × Str)) : Option (Nat × Nat) → Prop
  | some p => ∃ T w, v = .ref T ∧ H T = some (.tup [.str "pair", w]) ∧ PrV H w p
  | none => ∃ T q us, v = .ref T ∧ H T = some (.tup [.str "none", .ref q]) ∧ H q = some (.tup us) ∧ Pps H us ps F
theorem ToldV.same {H H' : Hp} {v : V} {ps : List (Nat × Nat)} {F : Nat × Nat → Option (Nat × Str)} (s : Same H H') : ∀ {o : Option (Nat × Nat)}, ToldV H v ps F o → ToldV H' v ps F o
  | some _, ⟨T, w, h1, h2, h3⟩ => ⟨T, w, h1, s _ _ h2, h3.same s⟩
  | none, ⟨T, q, us, h1, h2, h3, h4⟩ => ⟨T, q, us, h1, s _ _ h2, s _ _ h3, h4.same s⟩
theorem ToldV.nl {H H' : Hp} {v : V} {ps : List (Nat × Nat)} {F : Nat × Nat → Option (Nat × Str)} (s : Nl H H') : ∀ {o : Option (Nat × Nat)}, ToldV H v ps F o → ToldV H' v ps F o
  | some _, ⟨T, w, h1, h2, h3⟩ => ⟨T, w, h1, s _ _ h2 rfl, h3.nl s⟩
  | none, ⟨T, q, us, h1, h2, h3, h4⟩ => ⟨T, q, us, h1, s _ _ h2 rfl, s _ _ h3 rfl, h4.nl s⟩
theorem ToldV.kp {H H' : Hp} {h : Addr} {n : Nat} {v : V} {ps : List (Nat × Nat)} {F : Nat × Nat → Option (Nat × Str)} (hh : HandAt H h n) (s : Kp h H H') : ∀ {o : Option (Nat × Nat)}, ToldV H v ps F o → ToldV H' v ps F o
  | some _, ⟨T, w, h1, h2, h3⟩ => ⟨T, w, h1, s.get hh h2 rfl, h3.kp hh s⟩
  | none, ⟨T, q, us, h1, h2, h3, h4⟩ => ⟨T, q, us, h1, s.get hh h2 rfl, s.get hh h3 rfl, h4.kp hh s⟩
end My
/-! ### zip of two walks, each over a list (false) or a tuple (true) -/
namespace My
open PySem PySem.Spec PyProof.Rows L2
def KI (b : Bool) (h : Heap) (it l : Addr) (i : Nat) : Prop := if b = true then h.IsTupleIter it l i else h.IsListIter it l i
def KS (b : Bool) (h : Heap) (l : Addr) (items : Array Value) : Prop := if b = true then h.IsTuple l items else h.IsList l items
section
variable {b : Bool} {h h' : Heap} {it l c : Addr} {i : Nat} {items : Array Value}
theorem KI.ext (a : KI b h it l i) (k : Heap.ExtBut c h h') (n : it ≠ c) : KI b h' it l i := by
  cases b with
  | false => exact Heap.IsListIter.extBut (show h.IsListIter it l i from a) k n
  | true => exact Heap.IsTupleIter.extBut (show h.IsTupleIter it l i from a) k n
theorem KI.obj (a : KI b h it l i) : ∃ o, h.get? it = some o ∧ ∀ v, o.data ≠ .cell v := by
  cases b with
  | false =>
    obtain ⟨o, e, _, d⟩ := (show h.IsListIter it l i from a)
    exact ⟨o, e, fun v q => by rw [d] at q; cases q⟩
  | true =>
    obtain ⟨o, e, _, d⟩ := (show h.IsTupleIter it l i from a)
    exact ⟨o, e, fun v q => by rw [d] at q; cases q⟩
theorem KS.ext (a : KS b h l items) (k : Heap.ExtBut c h h') (n : l ≠ c) : KS b h' l items := by
  cases b with
  | false => exact Heap.IsList.extBut (show h.IsList l items from a) k n
  | true => exact Heap.IsTuple.extBut (show h.IsTuple l items from a) k n
theorem KS.lt (a : KS b h l items) : l < h.objs.size := by
  cases b with
  | false =>
    obtain ⟨o, e, _⟩ := (show h.IsList l items from a)
    exact Heap.lt_size e
  | true =>
    obtain ⟨o, e, _⟩ := (show h.IsTuple l items from a)
    exact Heap.lt_size e
end
section
variable {prog : Program} {w : World} {A : Around} {E : Value → Shared → Prop} {s : Shared} {b : Bool} {it l : Addr} {i : Nat} {items : Array Value}
end

section
variable {prog : Program} {w : World} {A : Around} {E : Value → Shared → Prop} {s : Shared} {b1 b2 : Bool} {z TI TO i1 i2 l1 l2 : Addr} {k1 k2 : Nat} {xs ys : Array Value} {x y a b : Value}
end

/-! ### a > b of pairs of whole numbers -/
/-! ### t != () -/
end My
namespace My
open PySem PySem.Spec PyProof.Rows L2
end My
namespace My
open PySem PySem.Spec PyProof.Rows L2
/-! ### sorted(xs, key=len), xs a list of tuples -/
section
variable {prog : Program} {w : World} {A : Around} {E : Value → Shared → Prop} {s : Shared} {h0 : Heap} {a kS : Addr} {vs : List Value} {kz : List Int} {keys : Array Value} {e e1 : Nat} {P : PySem.Fin → Shared → Prop}
end
section
variable {prog : Program} {w : World} {A : Around} {E : Value → Shared → Prop} {s : Shared} {l : Addr} {vs : List Value} {kz : List Int} {Q : Value → Shared → Prop}
end
section
variable {X : Cx}
end
end My
namespace My
open PySem PySem.Spec PyProof.Rows L2
/-! ### min of a list of pairs of whole numbers -/
section
variable {prog : Program} {w : World} {A : Around} {R : Result → Shared → Prop} {I : Addr} {fp wr : List Addr} {n : Nat} {P : Nat → Value → Prop} {St : Nat → Heap → Prop}
end
section
variable {prog : Program} {w : World} {A : Around} {E : Value → Shared → Prop} {s : Shared}
end
end My
namespace My
open PySem PySem.Spec PyProof.Rows L2
/-! ### where two ladders part -/
/-- a rational number as a fraction -/
def ofR (r : Rat) : Q2 := (r.num, (r.den : Int))
theorem ofR_pos (r : Rat) : 0 < (ofR r).2 := by
  have := r.den_pos
  show (0 : Int) < (r.den : Int)
  omega
theorem toR_ofR (r : Rat) : toR (ofR r) = r := by
  unfold toR ofR
  show (r.num : Rat) / ((r.den : Int) : Rat) = r
  rw [← Rat.divInt_eq_div, Rat.num_divInt_den]
/-- the size of a measure, as a rational number -/
def sizF (zs : List Q2) (r : Str) (lo hi : Option Q2) (x : Rat) : Option Nat := sizeQ zs r lo hi (ofR x)
theorem posO_E {o : Option Q2} (h : PosO o) : PosE o := fun a e => by
  subst e
  exact h
theorem sizF_eq {zs : List Q2} {r : Str} {lo hi : Option Q2} {x : Q2} (L : LadQ zs r lo hi) (hx : 0 < x.2) : sizeQ zs r lo hi x = sizF zs r lo hi (toR x) :=
  sizeQ_congr L.pos (posO_E L.plo) (posO_E L.phi) (re_of_R hx (ofR_pos _) (toR_ofR _).symm)
def alkB (a b : Option Nat) (sh : Int) : Bool := match a, b with
  | none, none => true
  | some m, some n => decide ((n : Int) = (m : Int) + sh)
  | _, _ => false
/-- what parting tells: None for alike, else the measure, whether behind it, both sizes -/
abbrev PRes := Option (Rat × Bool × Option Nat × Option Nat)
def PartS (F G : Rat → Option Nat) (sh : Int) (lo hi : Rat) : PRes → Prop
  | none => ∀ x, lo ≤ x → x ≤ hi → alkB (F x) (G x) sh = true
  | some (m, false, a, b) => lo ≤ m ∧ m ≤ hi ∧ F m = a ∧ G m = b ∧ alkB a b sh = false ∧ ∀ x, lo ≤ x → x < m → alkB (F x) (G x) sh = true
  | some (m, true, a, b) => lo ≤ m ∧ m < hi ∧ alkB a b sh = false ∧ (∀ x, lo ≤ x → x ≤ m → alkB (F x) (G x) sh = true) ∧ ∃ e, m < e ∧ e ≤ hi ∧ ∀ x, m < x → x < e → F x = a ∧ G x = b
theorem midR {a b : Rat} (h : a < b) : a < (a + b) / 2 ∧ (a + b) / 2 < b := by
  constructor <;> grind
theorem PartS.uniq {F G : Rat → Option Nat} {sh : Int} {lo hi : Rat} : ∀ {r s : PRes}, PartS F G sh lo hi r → PartS F G sh lo hi s → r = s
  | none, none, _, _ => rfl
  | none, some (m, false, a, b), h, g => by
    obtain ⟨g1, g2, g3, g4, g5, g6⟩ := g
    have := h m g1 g2
    rw [g3, g4, g5] at this
    cases this
  | some (m, false, a, b), none, h, g => by
    obtain ⟨g1, g2, g3, g4, g5, g6⟩ := h
    have := g m g1 g2
    rw [g3, g4, g5] at this
    cases this
  | none, some (m, true, a, b), h, g => by
    obtain ⟨g1, g2, g3, g4, e, g5, g6, g7⟩ := g
    obtain ⟨m1, m2⟩ := midR g5
    have := h ((m + e) / 2) (by grind) (by grind)
    rw [(g7 _ m1 m2).1, (g7 _ m1 m2).2, g3] at this
    cases this
  | some (m, true, a, b), none, h, g => by
    obtain ⟨g1, g2, g3, g4, e, g5, g6, g7⟩ := h
    obtain ⟨m1, m2⟩ := midR g5
    have := g ((m + e) / 2) (by grind) (by grind)
    rw [(g7 _ m1 m2).1, (g7 _ m1 m2).2, g3] at this
    cases this
  | some (m, false, a, b), some (m', false, a', b'), h, g => by
    obtain ⟨h1, h2, h3, h4, h5, h6⟩ := h
    obtain ⟨g1, g2, g3, g4, g5, g6⟩ := g
    have e : m = m' := by
      by_cases c : m < m'
      · have := g6 m h1 c
        rw [h3, h4, h5] at this
        cases this
      · by_cases c' : m' < m
        · have := h6 m' g1 c'
          rw [g3, g4, g5] at this
          cases this
        · grind
    subst e
    rw [← h3, ← h4, ← g3, ← g4]
  | some (m, false, a, b), some (m', true, a', b'), h, g => by
    obtain ⟨h1, h2, h3, h4, h5, h6⟩ := h
    obtain ⟨g1, g2, g3, g4, e, g5, g6, g7⟩ := g
    by_cases c : m ≤ m'
    · have := g4 m h1 c
      rw [h3, h4, h5] at this
      cases this
    · by_cases d : e ≤ m
      · obtain ⟨m1, m2⟩ := midR g5
        have := h6 ((m' + e) / 2) (by grind) (by grind)
        rw [(g7 _ m1 m2).1, (g7 _ m1 m2).2, g3] at this
        cases this
      · have c2 : m' < m := by grind
        obtain ⟨m1, m2⟩ := midR c2
        have := h6 ((m' + m) / 2) (by grind) m2
        have q := g7 ((m' + m) / 2) m1 (by grind)
        rw [q.1, q.2, g3] at this
        cases this
  | some (m', true, a', b'), some (m, false, a, b), g, h => by
    obtain ⟨h1, h2, h3, h4, h5, h6⟩ := h
    obtain ⟨g1, g2, g3, g4, e, g5, g6, g7⟩ := g
    by_cases c : m ≤ m'
    · have := g4 m h1 c
      rw [h3, h4, h5] at this
      cases this
    · by_cases d : e ≤ m
      · obtain ⟨m1, m2⟩ := midR g5
        have := h6 ((m' + e) / 2) (by grind) (by grind)
        rw [(g7 _ m1 m2).1, (g7 _ m1 m2).2, g3] at this
        cases this
      · have c2 : m' < m := by grind
        obtain ⟨m1, m2⟩ := midR c2
        have := h6 ((m' + m) / 2) (by grind) m2
        have q := g7 ((m' + m) / 2) m1 (by grind)
        rw [q.1, q.2, g3] at this
        cases this
  | some (m, true, a, b), some (m', true, a', b'), h, g => by
    obtain ⟨h1, h2, h3, h4, d, h5, h6, h7⟩ := h
    obtain ⟨g1, g2, g3, g4, e, g5, g6, g7⟩ := g
    have key : ∀ (m m' d : Rat), m < d → m < m' → ∃ x, m < x ∧ x < d ∧ x ≤ m' := fun m m' d q1 q2 => by
      by_cases c : d ≤ m'
      · exact ⟨(m + d) / 2, (midR q1).1, (midR q1).2, by have := (midR q1).2; grind⟩
      · exact ⟨(m + m') / 2, (midR q2).1, by have := (midR q2).2; grind, by have := (midR q2).2; grind⟩
    have em : m = m' := by
      by_cases c : m < m'
      · obtain ⟨x, x1, x2, x3⟩ := key m m' d h5 c
        have := g4 x (by grind) x3
        rw [(h7 x x1 x2).1, (h7 x x1 x2).2, h3] at this
        cases this
      · by_cases c' : m' < m
        · obtain ⟨x, x1, x2, x3⟩ := key m' m e g5 c'
          have := h4 x (by grind) x3
          rw [(g7 x x1 x2).1, (g7 x x1 x2).2, g3] at this
          cases this
        · grind
    subst em
    obtain ⟨x, x1, x2, x3⟩ := key m e d h5 g5
    have x4 : m < (m + x) / 2 ∧ (m + x) / 2 < x := midR x1
    have p := h7 ((m + x) / 2) x4.1 (by grind)
    have q := g7 ((m + x) / 2) x4.1 (by grind)
    rw [← p.1, ← p.2, ← q.1, ← q.2]
/-- points from lo to hi between which nothing changes -/
structure Pts (F G : Rat → Option Nat) (lo hi : Rat) (ps : List Rat) : Prop where
  fst : ps[0]? = some lo
  lst : ps.getLast? = some hi
  rise : ∀ (i : Nat) (a b : Rat), ps[i]? = some a → ps[i + 1]? = some b → a < b
  gap : ∀ (i : Nat) (a b : Rat), ps[i]? = some a → ps[i + 1]? = some b → ∀ x y, a < x → x < b → a < y → y < b → F x = F y ∧ G x = G y
theorem riseR {ps : List Rat} (h : ∀ (i : Nat) (a b : Rat), ps[i]? = some a → ps[i + 1]? = some b → a < b) : ∀ {i j : Nat} {a b : Rat}, i < j → ps[i]? = some a → ps[j]? = some b → a < b
  | i, 0, _, _, hij, _, _ => by omega
  | i, j + 1, a, b, hij, ha, hb => by
    by_cases e : i = j
    · subst e; exact h i a b ha hb
    · have lj := (List.getElem?_eq_some_iff.mp hb).1
      have hc : ps[j]? = some ps[j] := List.getElem?_eq_getElem (by omega)
      have h1 := riseR h (show i < j by omega) ha hc
      have h2 := h j _ _ hc hb
      grind
theorem coverR : ∀ {ps : List Rat} {lo hi x : Rat}, ps[0]? = some lo → ps.getLast? = some hi → lo ≤ x → x ≤ hi → ∃ i a, ps[i]? = some a ∧ (x = a ∨ ∃ b, ps[i + 1]? = some b ∧ a < x ∧ x < b)
  | [], _, _, _, h, _, _, _ => by simp at h
  | [p], lo, hi, x, h, g, h1, h2 => by
    cases h
    cases g
    exact ⟨0, p, rfl, .inl (by grind)⟩
  | p :: q :: r, lo, hi, x, h, g, h1, h2 => by
    cases h
    by_cases c : x = p
    · exact ⟨0, p, rfl, .inl c⟩
    · by_cases d : x < q
      · exact ⟨0, p, rfl, .inr ⟨q, rfl, by grind, d⟩⟩
      · obtain ⟨i, a, e1, e2⟩ := coverR (ps := q :: r) (lo := q) (hi := hi) (x := x) rfl (by rw [List.getLast?_cons_cons] at g; exact g) (by grind) h2
        exact ⟨i + 1, a, by simpa using e1, by rcases e2 with e2 | ⟨b, e2, e3⟩
                                               · exact .inl e2
                                               · exact .inr ⟨b, by simpa using e2, e3⟩⟩
section
variable {F G : Rat → Option Nat} {sh : Int} {lo hi : Rat} {ps : List Rat}
theorem Pts.le (P : Pts F G lo hi ps) {i : Nat} {a : Rat} (h : ps[i]? = some a) : lo ≤ a ∧ a ≤ hi := by
  have l := (List.getElem?_eq_some_iff.mp h).1
  constructor
  · by_cases e : i = 0
    · subst e
      rw [P.fst] at h
      cases h
      exact Rat.le_refl
    · have := riseR P.rise (show 0 < i by omega) P.fst h
      grind
  · have hl : ps[ps.length - 1]? = some hi := by rw [← List.getLast?_eq_getElem?]; exact P.lst
    by_cases e : i = ps.length - 1
    · subst e
      rw [hl] at h
      cases h
      exact Rat.le_refl
    · have := riseR P.rise (show i < ps.length - 1 by omega) h hl
      grind
/-- all points and gaps ahead of the i-th are alike -/
theorem Pts.ahead (P : Pts F G lo hi ps) {i : Nat} {a : Rat} (h : ps[i]? = some a) (h1 : ∀ (j : Nat) (c : Rat), j < i → ps[j]? = some c → alkB (F c) (G c) sh = true)
    (h2 : ∀ (j : Nat) (c d : Rat), j < i → ps[j]? = some c → ps[j + 1]? = some d → ∃ y, c < y ∧ y < d ∧ alkB (F y) (G y) sh = true) : ∀ x, lo ≤ x → x < a → alkB (F x) (G x) sh = true := fun x x1 x2 => by
  obtain ⟨j, c, e1, e2⟩ := coverR P.fst P.lst x1 (by have := (P.le h).2; grind)
  have hj : j < i := by
    refine Nat.lt_of_not_le fun q => ?_
    have : a ≤ c := by
      by_cases e : i = j
      · subst e
        rw [h] at e1
        cases e1
        exact Rat.le_refl
      · have := riseR P.rise (show i < j by omega) h e1
        grind
    rcases e2 with e2 | ⟨b, _, e3, _⟩ <;> grind
  rcases e2 with rfl | ⟨b, e3, e4, e5⟩
  · exact h1 j _ hj e1
  · obtain ⟨y, y1, y2, y3⟩ := h2 j c b hj e1 e3
    have g := P.gap j c b e1 e3 x y e4 e5 y1 y2
    rw [g.1, g.2]
    exact y3
end
end My
namespace My
open PySem PySem.Spec PySem.Calls PyProof.Rows L2
/-! ### sorted(set(xs)) of a list of whole numbers, up to a thousand -/
section
variable {P : Program} {w : World} {A : Around} {E : Value → Shared → Prop} {s : Shared}
end
end My
namespace My
open PySem PySem.Spec PySem.Calls PyProof.Rows L2
/-! ### == and != of tuples whose items are whole numbers, texts, None or own objects -/
section
open GQ
open AutoSeq1 (wpAny_loadPart')
variable {prog : Program} {w : World} {A : Around} {R : Result → Shared → Prop}
end
section
variable {X : Cx} {n : Nat} {D : Eqb}
end
end My
namespace My
open PySem PySem.Spec PySem.Calls PyProof.Rows L2
/-! ### t[::-1] of a tuple -/
section
open HT
variable {prog : Program} {w : World} {A : Around} {E : Value → Shared → Prop} {s : Shared}
end
section
variable {X : Cx}
end
/-! ### things of any kind beside what is due, kind by kind -/
theorem TyOf.same' {K : PySem.W.Frag} {H H' : Hp} {v : V} {t : Value} (h : TyOf K H v t) (s : Same H H') : TyOf K H' v t := by
  cases h with
  | non => exact .non
  | bl x => exact .bl x
  | int i => exact .int i
  | str x => exact .str x
  | flt x => exact .flt x
  | lst e => exact .lst (s _ _ e)
  | frz e => exact .frz (s _ _ e)
  | tup e => exact .tup (s _ _ e)
  | dK e => exact .dK (s _ _ e)
  | dT e => exact .dT (s _ _ e)
  | ins e cl ha hn htk hm => exact .ins (s _ _ e) cl ha hn htk hm
theorem TyX.same' {K : PySem.W.Frag} {H H' : Hp} {v : V} {t : Value} (h : TyX K H v t) (s : Same H H') : TyX K H' v t := by
  cases h with
  | base h => exact .base (TyOf.same' h s)
  | byt b => exact .byt b
  | set e => exact .set (s _ _ e)
  | kList e c => exact .kList e c
  | kTuple e c => exact .kTuple e c
  | kDict e c => exact .kDict e c
  | fTuple e => exact .fTuple (s _ _ e)
  | fDict e => exact .fDict (s _ _ e)
inductive PK where
  | int (z : Int) | str (s : Str) | bl (b : Bool) | non | meas (z : Q2) | tup | oth
def PK.isT : PK → Bool | .tup => true | _ => false
def PK.isS : PK → Bool | .str _ => true | _ => false
def PK.isI : PK → Bool | .int _ => true | .bl _ => true | _ => false
def PK.isB : PK → Bool | .bl _ => true | _ => false
def PK.isM : PK → Bool | .meas _ => true | _ => false
def Isi (K : PySem.W.Frag) (H : Hp) (v : V) (u : Value) (b : Bool) : Prop := ∃ t, TyX K H v t ∧ PySem.W.kitOne K t u = some b
def PKat (CM : Addr) (H : Hp) (v : V) : PK → Prop
  | .int z => v = .int z
  | .str s => v = .str s
  | .bl b => v = .bl b
  | .non => v = .non
  | .meas z => ∃ (p : Addr) (j : Nat), v = .ref p ∧ QAt CM H p j z ∧ j ≤ 4000
  | .tup => ∃ a : Addr, v = .ref a
  | .oth => ∃ a : Addr, v = .ref a
structure PKs (K : PySem.W.Frag) (CM : Addr) (H : Hp) (v : V) (k : PK) : Prop where
  at_ : PKat CM H v k
  tup : Isi K H v (.type "tuple") k.isT
  str : Isi K H v (.type "str") k.isS
  int : Isi K H v (.type "int") k.isI
  bl : Isi K H v (.type "bool") k.isB
  mea : Isi K H v (.ref CM) k.isM
theorem PKs.same {K : PySem.W.Frag} {CM : Addr} {H H' : Hp} {v : V} {k : PK} (p : PKs K CM H v k) (s : Same H H') : PKs K CM H' v k := by
  have i : ∀ {u b}, Isi K H v u b → Isi K H' v u b := fun ⟨t, h, g⟩ => ⟨t, TyX.same' h s, g⟩
  refine ⟨?_, i p.tup, i p.str, i p.int, i p.bl, i p.mea⟩
  have h := p.at_
  cases k with
  | meas z =>
    obtain ⟨q, j, e, r, l⟩ := h
    exact ⟨q, j, e, r.same s, l⟩
  | _ => exact h
/-- a thing of any kind, a Measure, a Stretch or a Ladder -/
def ThgAt (CM CS CL h : Addr) (H : Hp) (v : V) : Prop := Thing h H v ∨ (∃ (p : Addr) (j : Nat) (z : Q2), v = .ref p ∧ QAt CM H p j z ∧ j ≤ 4000) ∨ ∃ (p C dx : Addr) (fs : List (Str × V)), v = .ref p ∧ H p = some (.ins C dx fs) ∧ (C = CS ∨ C = CL)
section
variable {K : PySem.W.Frag} {CM CS CL h : Addr} {H H' : Hp} {v : V} {n : Nat}
theorem ThgAt.same (t : ThgAt CM CS CL h H v) (s : Same H H') : ThgAt CM CS CL h H' v := by
  rcases t with t | ⟨p, j, z, e, q, l⟩ | ⟨p, C, dx, fs, e, g, c⟩
  · exact .inl (t.same s)
  · exact .inr (.inl ⟨p, j, z, e, q.same s, l⟩)
  · exact .inr (.inr ⟨p, C, dx, fs, e, s _ _ g, c⟩)
theorem ThgAt.kp (t : ThgAt CM CS CL h H v) (hh : HandAt H h n) (s : Kp h H H') : ThgAt CM CS CL h H' v := by
  rcases t with t | ⟨p, j, z, e, q, l⟩ | ⟨p, C, dx, fs, e, g, c⟩
  · exact .inl (t.kp hh s)
  · exact .inr (.inl ⟨p, j, z, e, q.kp hh s, l⟩)
  · exact .inr (.inr ⟨p, C, dx, fs, e, s.get hh g rfl, c⟩)
end
def Kds (K : PySem.W.Frag) (CM : Addr) (H : Hp) (xs : List V) (ks : List PK) : Prop := xs.length = ks.length ∧ ∀ (i : Nat) (x : V) (k : PK), xs[i]? = some x → ks[i]? = some k → PKs K CM H x k
theorem Kds.same {K : PySem.W.Frag} {CM : Addr} {H H' : Hp} {xs : List V} {ks : List PK} (p : Kds K CM H xs ks) (s : Same H H') : Kds K CM H' xs ks := ⟨p.1, fun i x k h1 h2 => (p.2 i x k h1 h2).same s⟩
/-- a thing that is looked at: a tuple of things with their kinds, or none -/
def Fnd (K : PySem.W.Frag) (CM : Addr) (H : Hp) (v : V) : Option (List PK) → Prop
  | none => ∃ k, PKs K CM H v k ∧ k.isT = false
  | some ks => ∃ (a : Addr) (xs : List V), v = .ref a ∧ SqT K H a xs ∧ xs.length ≤ 900 ∧ PKs K CM H v .tup ∧ Kds K CM H xs ks
theorem Fnd.same {K : PySem.W.Frag} {CM : Addr} {H H' : Hp} {v : V} : ∀ {o : Option (List PK)}, Fnd K CM H v o → Same H H' → Fnd K CM H' v o
  | none, ⟨k, p, e⟩, s => ⟨k, p.same s, e⟩
  | some ks, ⟨a, xs, e, q, l, p, d⟩, s => ⟨a, xs, e, s.sqt q, l, p.same s, d.same s⟩
/-- a thing that is no tuple -/
def ThgN (CM CS CL h : Addr) (H : Hp) (v : V) : Prop := v = .non ∨ (∃ b, v = .bl b) ∨ (∃ i, v = .int i) ∨ (∃ z, v = .str z) ∨ (∃ (a : Addr) (xs : List V), v = .ref a ∧ a ≠ h ∧ H a = some (.lst xs)) ∨ (∃ (a : Addr) (kvs : List (Key × V)), v = .ref a ∧ H a = some (.dK kvs)) ∨ (∃ (p : Addr) (j : Nat) (z : Q2), v = .ref p ∧ QAt CM H p j z ∧ j ≤ 4000) ∨ ∃ (p C dx : Addr) (fs : List (Str × V)), v = .ref p ∧ H p = some (.ins C dx fs) ∧ (C = CS ∨ C = CL)
/-- a thing, and if it is a tuple, of such things -/
def TopAt (CM CS CL h : Addr) (H : Hp) (v : V) : Prop := (∃ (a : Addr) (xs : List V), v = .ref a ∧ H a = some (.tup xs) ∧ xs.length ≤ 900 ∧ ∀ x ∈ xs, ThgAt CM CS CL h H x) ∨ ThgN CM CS CL h H v
section
variable {K : PySem.W.Frag} {CM CS CL h : Addr} {H H' : Hp} {v : V} {n : Nat}
theorem ThgN.kp (t : ThgN CM CS CL h H v) (hh : HandAt H h n) (s : Kp h H H') : ThgN CM CS CL h H' v := by
  rcases t with t | t | t | t | ⟨a, xs, e, n, t⟩ | ⟨a, xs, e, t⟩ | ⟨p, j, z, e, q, l⟩ | ⟨p, C, dx, fs, e, g, c⟩
  · exact .inl t
  · exact .inr (.inl t)
  · exact .inr (.inr (.inl t))
  · exact .inr (.inr (.inr (.inl t)))
  · exact .inr (.inr (.inr (.inr (.inl ⟨a, xs, e, n, s _ _ t n⟩))))
  · exact .inr (.inr (.inr (.inr (.inr (.inl ⟨a, xs, e, s.get hh t rfl⟩)))))
  · exact .inr (.inr (.inr (.inr (.inr (.inr (.inl ⟨p, j, z, e, q.kp hh s, l⟩))))))
  · exact .inr (.inr (.inr (.inr (.inr (.inr (.inr ⟨p, C, dx, fs, e, s.get hh g rfl, c⟩))))))
theorem TopAt.kp (t : TopAt CM CS CL h H v) (hh : HandAt H h n) (s : Kp h H H') : TopAt CM CS CL h H' v := by
  rcases t with ⟨a, xs, e, g, l, all⟩ | t
  · exact .inl ⟨a, xs, e, s.get hh g rfl, l, fun x hx => (all x hx).kp hh s⟩
  · exact .inr (t.kp hh s)
theorem TopAt.same (t : TopAt CM CS CL h H v) (hh : HandAt H h n) (s : Same H H') : TopAt CM CS CL h H' v := t.kp hh (Kp.same s)
end
end My
namespace My
open PySem PySem.Spec PyProof.Rows L2
/-! ### what sizes of two ladders have in common -/
theorem reO_self {o : Option Q2} (p : PosO o) : ReO o o := by
  cases o with
  | none => trivial
  | some a => exact ⟨p, p, rfl⟩
theorem szE_of {CM : Addr} {H : Hp} {k : Nat} {v : V} : ∀ {o : Option Q2}, QO CM H k v o → SzE k o
  | none, _ => trivial
  | some _, ⟨_, _, q⟩ => ⟨q.s1, q.s2⟩
theorem szL_of {CM : Addr} {H : Hp} {k : Nat} {ps : List V} {zs : List Q2} (m : Mks CM H k ps zs) : SzL k zs := fun z hz => by
  obtain ⟨i, hi⟩ := List.mem_iff_getElem?.mp hz
  obtain ⟨p, _, q⟩ := m.at hi
  exact ⟨q.s1, q.s2⟩
theorem mks_pos {C : Addr} {H : Hp} {k : Nat} {ps : List V} {qs : List Q2} (m : Mks C H k ps qs) : ∀ q ∈ qs, 0 < q.2 := fun z hz => by
  obtain ⟨i, hi⟩ := List.mem_iff_getElem?.mp hz
  obtain ⟨p, _, q⟩ := m.at hi
  exact q.pos
theorem poso_of {C : Addr} {H : Hp} {k : Nat} {v : V} : ∀ {o : Option Q2}, QO C H k v o → PosO o
  | none, _ => trivial
  | some _, ⟨_, _, q⟩ => q.pos
theorem ladq_of {K : PySem.W.Frag} {CM CL : Addr} {H : Hp} {p : Addr} {k : Nat} {zs : List Q2} {r : Str} {lo hi : Option Q2} (a : LadAt K CM CL H p k zs r lo hi) : LadQ zs r lo hi := by
  obtain ⟨⟨dx, T, ps, l, h, h1, h2, h3, h4, h5⟩, a1, a2, a3, a4, a5⟩ := a
  exact ⟨a3, mks_pos h3, poso_of h4, poso_of h5, a5⟩
/-- a Measure that both stretches hold, or none -/
def ShQ (CM : Addr) (H : Hp) (k : Nat) (v : V) (m1 m2 n1 n2 : Option Q2) (i1 i2 j1 j2 : Bool) : Prop :=
  (∃ (r : Addr) (z : Q2), v = .ref r ∧ QAt CM H r k z ∧ loIn m1 i1 z = true ∧ hiIn m2 i2 z = true ∧ loIn n1 j1 z = true ∧ hiIn n2 j2 z = true) ∨
  (someB (cutLo m1 i1 n1 j1).1 (cutHi m2 i2 n2 j2).1 (cutLo m1 i1 n1 j1).2 (cutHi m2 i2 n2 j2).2 = false ∧ v = .non)
/-- a Measure that comes to size a of the one and to size b of the other, or none where none does -/
def MetV (CM : Addr) (H : Hp) (k : Nat) (v : V) (F G : Rat → Option Nat) (a b : Nat) : Prop :=
  (∃ (r : Addr) (z : Q2), v = .ref r ∧ QAt CM H r k z ∧ F (toR z) = some a ∧ G (toR z) = some b) ∨ (v = .non ∧ ∀ x, F x = some a → G x = some b → False)
theorem MetV.nl {CM : Addr} {H H' : Hp} {k : Nat} {v : V} {F G : Rat → Option Nat} {a b : Nat} (m : MetV CM H k v F G a b) (n : Nl H H') : MetV CM H' k v F G a b := by
  rcases m with ⟨r, z, e, q, h⟩ | m
  · exact .inl ⟨r, z, e, q.nl n, h⟩
  · exact .inr m
section
variable {zs zt : List Q2} {r rt : Str} {lo hi lt ht : Option Q2} {a b : Nat} {m1 m2 n1 n2 : Option Q2}
theorem lo_raw {x : Option Q2 × Bool} {m : Option Q2} {z : Q2} (re : ReO m x.1) (hz : 0 < z.2) : loIn m (x.2 && x.1.isSome) z = loIn x.1 x.2 z :=
  (loIn_alike (x := (m, x.2 && x.1.isSome)) (y := (x.1, x.2 && x.1.isSome)) ⟨re, fun _ => rfl⟩ (q := z) (r := z) ⟨hz, hz, rfl⟩).trans (loIn_flag (x := x) (q := z))
theorem hi_raw {x : Option Q2 × Bool} {m : Option Q2} {z : Q2} (re : ReO m x.1) (hz : 0 < z.2) : hiIn m (x.2 && x.1.isSome) z = hiIn x.1 x.2 z :=
  (hiIn_alike (x := (m, x.2 && x.1.isSome)) (y := (x.1, x.2 && x.1.isSome)) ⟨re, fun _ => rfl⟩ (q := z) (r := z) ⟨hz, hz, rfl⟩).trans (hiIn_flag (x := x) (q := z))
theorem in_raw (L : LadQ zs r lo hi) (ha : a < zs.length) (r1 : ReO m1 (sizE zs r lo hi a).1.1) (r2 : ReO m2 (sizE zs r lo hi a).2.1) {z : Q2} (hz : 0 < z.2) :
    (loIn m1 ((sizE zs r lo hi a).1.2 && (sizE zs r lo hi a).1.1.isSome) z = true ∧ hiIn m2 ((sizE zs r lo hi a).2.2 && (sizE zs r lo hi a).2.1.isSome) z = true) ↔ sizF zs r lo hi (toR z) = some a := by
  rw [lo_raw r1 hz, hi_raw r2 hz, ← sizF_eq L hz, ← siz_in L hz ha]
  unfold sizIn
  rw [Bool.and_eq_true]
/-- of two stretches of sizes -/
theorem met_of {CM : Addr} {H : Hp} {k : Nat} {v : V} (L : LadQ zs r lo hi) (M : LadQ zt rt lt ht) (ha : a < zs.length) (hb : b < zt.length) (p1 : PosO m1) (p2 : PosO m2) (q1 : PosO n1) (q2 : PosO n2)
    (r1 : ReO m1 (sizE zs r lo hi a).1.1) (r2 : ReO m2 (sizE zs r lo hi a).2.1) (s1 : ReO n1 (sizE zt rt lt ht b).1.1) (s2 : ReO n2 (sizE zt rt lt ht b).2.1)
    (h : ShQ CM H k v m1 m2 n1 n2 ((sizE zs r lo hi a).1.2 && (sizE zs r lo hi a).1.1.isSome) ((sizE zs r lo hi a).2.2 && (sizE zs r lo hi a).2.1.isSome) ((sizE zt rt lt ht b).1.2 && (sizE zt rt lt ht b).1.1.isSome) ((sizE zt rt lt ht b).2.2 && (sizE zt rt lt ht b).2.1.isSome)) :
    MetV CM H k v (sizF zs r lo hi) (sizF zt rt lt ht) a b := by
  rcases h with ⟨t, z, e, q, h1, h2, h3, h4⟩ | ⟨e, rfl⟩
  · exact .inl ⟨t, z, e, q, (in_raw L ha r1 r2 q.pos).mp ⟨h1, h2⟩, (in_raw M hb s1 s2 q.pos).mp ⟨h3, h4⟩⟩
  · refine .inr ⟨rfl, fun x f g => ?_⟩
    have hx := ofR_pos x
    have f1 := (in_raw L ha r1 r2 hx).mpr (by rw [toR_ofR]; exact f)
    have g1 := (in_raw M hb s1 s2 hx).mpr (by rw [toR_ofR]; exact g)
    have c1 := cutLo_in (i := ((sizE zs r lo hi a).1.2 && (sizE zs r lo hi a).1.1.isSome)) (j := ((sizE zt rt lt ht b).1.2 && (sizE zt rt lt ht b).1.1.isSome)) p1 q1 hx
    have c2 := cutHi_in (i := ((sizE zs r lo hi a).2.2 && (sizE zs r lo hi a).2.1.isSome)) (j := ((sizE zt rt lt ht b).2.2 && (sizE zt rt lt ht b).2.1.isSome)) p2 q2 hx
    rw [f1.1, g1.1] at c1
    rw [f1.2, g1.2] at c2
    rw [in_some (cutLo_pos p1 q1) (cutHi_pos p2 q2) hx c1 c2] at e
    cases e
end
/-- the sizes of the other one that size a meets: first and last -/
def LedS (F G : Rat → Option Nat) (a n : Nat) : Option (Nat × Nat) → Prop
  | none => ∀ b, b < n → ∀ x, F x = some a → G x = some b → False
  | some (c, d) => c < n ∧ d < n ∧ c ≤ d ∧ (∃ x, F x = some a ∧ G x = some c) ∧ (∃ x, F x = some a ∧ G x = some d) ∧ ∀ b x, F x = some a → G x = some b → c ≤ b ∧ b ≤ d
theorem LedS.uniq {F G : Rat → Option Nat} {a n : Nat} : ∀ {u v : Option (Nat × Nat)}, LedS F G a n u → LedS F G a n v → u = v
  | none, none, _, _ => rfl
  | none, some (c, d), h, ⟨g1, _, _, ⟨x, e1, e2⟩, _⟩ => (h c g1 x e1 e2).elim
  | some (c, d), none, ⟨g1, _, _, ⟨x, e1, e2⟩, _⟩, h => (h c g1 x e1 e2).elim
  | some (c, d), some (c', d'), ⟨_, _, _, ⟨x, e1, e2⟩, ⟨y, e3, e4⟩, h⟩, ⟨_, _, _, ⟨x', f1, f2⟩, ⟨y', f3, f4⟩, g⟩ => by
    have a1 := h c' x' f1 f2
    have a2 := h d' y' f3 f4
    have b1 := g c x e1 e2
    have b2 := g d y e3 e4
    rw [show c = c' by omega, show d = d' by omega]
/-! ### the sizes that one size meets are a run -/
section
variable {zs zt : List Q2} {r rt : Str} {lo hi lt ht : Option Q2} {a b c d : Nat} {x y z : Rat}
theorem ltq_of (h : ¬ y < x) : ltq (ofR y) (ofR x) = false := by
  cases e : ltq (ofR y) (ofR x) with
  | false => rfl
  | true =>
    have := (ltq_R (ofR_pos y) (ofR_pos x)).mp e
    rw [toR_ofR, toR_ofR] at this
    exact absurd this h
theorem sizF_iff : sizF zs r lo hi x = some a ↔ inO lo hi (ofR x) = true ∧ sizeR zs r (ofR x) = (a : Int) ∧ a < zs.length := by
  unfold sizF sizeQ
  by_cases h : inO lo hi (ofR x) = true
  · rw [if_pos h]
    by_cases g : 0 ≤ sizeR zs r (ofR x) ∧ sizeR zs r (ofR x) < zs.length
    · rw [if_pos g]
      constructor
      · intro e
        have e := Option.some.inj e
        exact ⟨h, by omega, by omega⟩
      · rintro ⟨_, e, _⟩
        rw [e]
        rfl
    · rw [if_neg g]
      constructor
      · intro e; cases e
      · rintro ⟨_, e, l⟩
        exact absurd ⟨by omega, by omega⟩ g
  · rw [if_neg h]
    constructor
    · intro e; cases e
    · rintro ⟨e, _⟩
      exact absurd e h
theorem sizR_le (p : PosL zs) (l : x ≤ y) : sizeR zs r (ofR x) ≤ sizeR zs r (ofR y) := sizeR_mono p (ofR_pos x) (ofR_pos y) (ltq_of (by grind))
theorem inO_conv (pl : PosO lo) (ph : PosO hi) (l1 : x ≤ z) (l2 : z ≤ y) (h1 : inO lo hi (ofR x) = true) (h2 : inO lo hi (ofR y) = true) : inO lo hi (ofR z) = true := by
  unfold inO at *
  rw [Bool.and_eq_true] at *
  constructor
  · cases lo with
    | none => rfl
    | some e =>
      have h : (!ltq (ofR x) e) = true := h1.1
      show (!ltq (ofR z) e) = true
      have pe : 0 < e.2 := pl
      cases g : ltq (ofR z) e with
      | false => rfl
      | true =>
        have g := (ltq_R (ofR_pos z) pe).mp g
        rw [toR_ofR] at g
        rw [(ltq_R (ofR_pos x) pe).mpr (by rw [toR_ofR]; grind)] at h
        cases h
  · cases hi with
    | none => rfl
    | some e =>
      have h : (!ltq e (ofR y)) = true := h2.2
      show (!ltq e (ofR z)) = true
      have pe : 0 < e.2 := ph
      cases g : ltq e (ofR z) with
      | false => rfl
      | true =>
        have g := (ltq_R pe (ofR_pos z)).mp g
        rw [toR_ofR] at g
        rw [(ltq_R pe (ofR_pos y)).mpr (by rw [toR_ofR]; grind)] at h
        cases h
/-- one size of a measure between two of that size -/
theorem siz_conv (L : LadQ zs r lo hi) (l1 : x ≤ z) (l2 : z ≤ y) (h1 : sizF zs r lo hi x = some a) (h2 : sizF zs r lo hi y = some a) : sizF zs r lo hi z = some a := by
  rw [sizF_iff] at *
  have e1 := sizR_le (r := r) L.pos l1
  have e2 := sizR_le (r := r) L.pos l2
  exact ⟨inO_conv L.plo L.phi l1 l2 h1.1 h2.1, by omega, h1.2.2⟩
theorem met_conv (L : LadQ zs r lo hi) (M : LadQ zt rt lt ht) (h1 : sizF zs r lo hi x = some a) (g1 : sizF zt rt lt ht x = some c) (h2 : sizF zs r lo hi y = some a) (g2 : sizF zt rt lt ht y = some d) (l1 : c ≤ b) (l2 : b ≤ d) : ∃ z, sizF zs r lo hi z = some a ∧ sizF zt rt lt ht z = some b := by
  by_cases e1 : b = c
  · subst e1; exact ⟨x, h1, g1⟩
  by_cases e2 : b = d
  · subst e2; exact ⟨y, h2, g2⟩
  have G1 := sizF_iff.mp g1
  have G2 := sizF_iff.mp g2
  have p := rulE_pos (r := rt) (n := b) M.pos
  obtain ⟨w, hw, i1, i2⟩ := some_in p.1 p.2 (rul_some (r := rt) (n := b) M.rise M.pos)
  have hb : b < zt.length := by omega
  have sw := (rul_in M.rise M.pos hw hb).mp (by unfold rulIn; rw [i1, i2]; rfl)
  have rw1 : sizeR zt rt (ofR (toR w)) = (b : Int) := by
    have f1 : ltq w (ofR (toR w)) = false := by
      cases e : ltq w (ofR (toR w)) with
      | false => rfl
      | true =>
        have := (ltq_R hw (ofR_pos _)).mp e
        rw [toR_ofR] at this
        exact absurd this (by grind)
    have f2 : ltq (ofR (toR w)) w = false := by
      cases e : ltq (ofR (toR w)) w with
      | false => rfl
      | true =>
        have := (ltq_R (ofR_pos _) hw).mp e
        rw [toR_ofR] at this
        exact absurd this (by grind)
    have m1 := sizeR_mono (r := rt) M.pos (ofR_pos (toR w)) hw f1
    have m2 := sizeR_mono (r := rt) M.pos hw (ofR_pos (toR w)) f2
    omega
  have lx : x ≤ toR w := Rat.not_lt.mp fun q => by
    have := sizR_le (r := rt) M.pos (Rat.le_of_lt q)
    omega
  have ly : toR w ≤ y := Rat.not_lt.mp fun q => by
    have := sizR_le (r := rt) M.pos (Rat.le_of_lt q)
    omega
  exact ⟨toR w, siz_conv L lx ly h1 h2, sizF_iff.mpr ⟨inO_conv M.plo M.phi lx ly G1.1 G2.1, rw1, hb⟩⟩
end
/-- the paper: a Measure for each size met, rising -/
structure PapS (CM : Addr) (H : Hp) (k : Nat) (ys : List V) (bs : List Nat) (F G : Rat → Option Nat) (a off n : Nat) : Prop where
  len : ys.length = bs.length
  rise : bs.Pairwise (· < ·)
  mem : ∀ b, b ∈ bs ↔ off ≤ b ∧ b < off + n ∧ ∃ x, F x = some a ∧ G x = some b
  all : ∀ (i : Nat) (y : V) (b : Nat), ys[i]? = some y → bs[i]? = some b → ∃ (r : Addr) (z : Q2), y = .ref r ∧ QAt CM H r k z ∧ F (toR z) = some a ∧ G (toR z) = some b
theorem pap_of {CM : Addr} {H : Hp} {k : Nat} {F G : Rat → Option Nat} {a : Nat} : ∀ {us : List V} {off : Nat}, (∀ i u, us[i]? = some u → MetV CM H k u F G a (off + i)) → ∃ bs, PapS CM H k (us.filter fun u => !decide (u = V.non)) bs F G a off us.length
  | [], off, _ => ⟨[], rfl, .nil, fun b => ⟨fun h => by simp at h, fun h => by have := h.1; have := h.2.1; simp at this; omega⟩, fun i y b h _ => by simp at h⟩
  | u :: us, off, h => by
    obtain ⟨bs, P⟩ := pap_of (us := us) (off := off + 1) (fun i v e => by
      have := h (i + 1) v (by simpa using e)
      rwa [show off + (i + 1) = off + 1 + i by omega] at this)
    have m0 := h 0 u rfl
    rcases m0 with ⟨r, z, rfl, q, f, g⟩ | ⟨rfl, no⟩
    · have tr : (!decide (V.ref r = V.non)) = true := rfl
      refine ⟨off :: bs, ?_, ?_, fun b => ?_, fun i y b h1 h2 => ?_⟩
      · rw [List.filter_cons, if_pos tr, List.length_cons, List.length_cons, P.len]
      · exact List.pairwise_cons.mpr ⟨fun b hb => by have := ((P.mem b).mp hb).1; omega, P.rise⟩
      · rw [List.mem_cons, P.mem b, List.length_cons]
        constructor
        · rintro (rfl | ⟨h1, h2, h3⟩)
          · exact ⟨Nat.le_refl _, by omega, _, f, g⟩
          · exact ⟨by omega, by omega, h3⟩
        · rintro ⟨h1, h2, h3⟩
          by_cases e : b = off
          · exact .inl e
          · exact .inr ⟨by omega, by omega, h3⟩
      · rw [List.filter_cons, if_pos tr] at h1
        cases i with
        | zero => cases h1; cases h2; exact ⟨r, z, rfl, q, f, g⟩
        | succ i => exact P.all i y b (by simpa using h1) (by simpa using h2)
    · refine ⟨bs, ?_, P.rise, fun b => ?_, fun i y b h1 h2 => ?_⟩
      · rw [List.filter_cons, if_neg (by simp)]
        exact P.len
      · rw [P.mem b, List.length_cons]
        constructor
        · rintro ⟨h1, h2, h3⟩
          exact ⟨by omega, by omega, h3⟩
        · rintro ⟨h1, h2, x, f, g⟩
          by_cases e : b = off
          · subst e
            exact (no x f (by simpa using g)).elim
          · exact ⟨by omega, by omega, x, f, g⟩
      · rw [List.filter_cons, if_neg (by simp)] at h1
        exact P.all i y b h1 h2
end My
namespace My
open PySem PySem.Spec PyProof.Rows L2
/-- a pot of draws: great cells, a seed, a turn -/
structure PotAt (H : Hp) (h g : Addr) (n : Nat) : Prop where
  ob : ∃ s t : Int, H h = some (.lst [.ref g, .int s, .int t]) ∧ 0 ≤ s ∧ s < 2305843009213693951 ∧ 0 ≤ t ∧ t ≤ (n : Int)
  gr : ∃ gs : List Int, H g = some (.lst (gs.map V.int)) ∧ (∀ z ∈ gs, 0 ≤ z) ∧ gs.length ≤ 63
  ne : g ≠ h
def Kp2 (h g : Addr) (H H' : Hp) : Prop := ∀ b o, H b = some o → b ≠ h → b ≠ g → H' b = some o
theorem Kp2.refl {h g : Addr} (H : Hp) : Kp2 h g H H := fun _ _ e _ _ => e
theorem Kp2.trans {h g : Addr} {A B C : Hp} (a : Kp2 h g A B) (b : Kp2 h g B C) : Kp2 h g A C := fun c o e n1 n2 => b c o (a c o e n1 n2) n1 n2
theorem Kp2.same {h g : Addr} {A B : Hp} (s : Same A B) : Kp2 h g A B := fun c o e _ _ => s c o e
theorem Kp2.up {h g p : Addr} {A B : Hp} {u : HO} (a : Kp2 h g A B) (np : B p = none) : Kp2 h g A (upd B p u) := a.trans (Kp2.same (same1 np))
theorem Kp2.puth {h g : Addr} {A B : Hp} {u : HO} (a : Kp2 h g A B) : Kp2 h g A (upd B h u) := fun c o e n1 n2 => by
  rw [upd_ne n1]
  exact a c o e n1 n2
theorem Kp2.putg {h g : Addr} {A B : Hp} {u : HO} (a : Kp2 h g A B) : Kp2 h g A (upd B g u) := fun c o e n1 n2 => by
  rw [upd_ne n2]
  exact a c o e n1 n2
section
variable {H H' : Hp} {h g p : Addr} {n : Nat}
theorem PotAt.same (a : PotAt H h g n) (s : Same H H') : PotAt H' h g n := by
  obtain ⟨⟨x, t, e, r⟩, ⟨gs, e2, r2⟩, ne⟩ := a
  exact ⟨⟨x, t, s _ _ e, r⟩, ⟨gs, s _ _ e2, r2⟩, ne⟩
theorem PotAt.mono {m : Nat} (a : PotAt H h g n) (l : n ≤ m) : PotAt H h g m := by
  obtain ⟨⟨x, t, e, r⟩, b, ne⟩ := a
  exact ⟨⟨x, t, e, r.1, r.2.1, r.2.2.1, by omega⟩, b, ne⟩
theorem PotAt.up {u : HO} (a : PotAt H h g n) (np : H p = none) : PotAt (upd H p u) h g n := a.same (same1 np)
theorem PotAt.nel (a : PotAt H h g n) (np : H p = none) : p ≠ h ∧ p ≠ g := by
  obtain ⟨⟨x, t, e, _⟩, ⟨gs, e2, _⟩, _⟩ := a
  exact ⟨fun q => (by rw [q, e] at np; cases np), fun q => (by rw [q, e2] at np; cases np)⟩
theorem PotAt.nl (a : PotAt H h g n) (k : Kp2 h g H H') : Nl H H' := fun c o e no => by
  obtain ⟨⟨x, t, e1, _⟩, ⟨gs, e2, _⟩, _⟩ := a
  refine k c o e (fun q => ?_) fun q => ?_
  · rw [q, e1] at e; cases e; cases no
  · rw [q, e2] at e; cases e; cases no
theorem PotAt.get {q : Addr} {o : HO} (a : PotAt H h g n) (k : Kp2 h g H H') (e : H q = some o) (no : notHand o = true) : H' q = some o := a.nl k _ _ e no
end
theorem cp10 : CPow 10 40 := ⟨by decide, by decide, by decide⟩
theorem p40 : (0 : Int) < 10 ^ (Int.toNat 40) := Int.pow_pos (by decide)
theorem cp18 : CPow 10 18 := ⟨by decide, by decide, by decide⟩
def sp_begin (K : PySem.W.Frag) : Sp := fun vs H Q _ => ∃ (a : Addr) (ns : List Int), vs = [.ref a] ∧ SqL K H a (ns.map V.int) ∧ ns.length ≤ 63 ∧ ∀ (h g : Addr) (H' : Hp), Same H H' → H h = none → H g = none → PotAt H' h g 0 → Q (.ref h) H'
def sp_pick27 : Sp := fun vs H Q _ => ∃ (h g : Addr) (n : Nat) (m : Int), vs = [.ref h, .int m] ∧ PotAt H h g n ∧ n < 100000 ∧ 0 < m ∧ m.natAbs.log2 < 9000 ∧ ∀ (d : Int) (H' : Hp), 0 ≤ d → d < m → PotAt H' h g (n + 1) → Kp2 h g H H' → Q (.int d) H'
theorem op_neL0 {X : Cx} (hu : X.A.units < cLine) : OpR X (compareOp .NotEq) (fun x y H Q => ∃ (a b : Addr) (xs : List V), x = .ref a ∧ y = .ref b ∧ SqL X.K H a xs ∧ SqL X.K H b [] ∧ Q (.bl (!xs.isEmpty)) H) := by
  intro pins s σ H x y v u Q I rx ry h
  obtain ⟨a, b, xs, rfl, rfl, ha, hb, q⟩ := h
  cases rx
  cases ry
  obtain ⟨its, rv, pl, _⟩ := I.list ha
  obtain ⟨its2, rv2, pl2, _⟩ := I.list hb
  have e2 : its2 = [] := by cases rv2; rfl
  subst e2
  cases xs with
  | nil =>
    have e1 : its = [] := by cases rv; rfl
    subst e1
    exact SeqAt.RcNeAt.lists (e := fun _ => true) pl.isList pl2.isList rfl hu (fun j h1 _ => absurd h1 (by simp)) X.prog X.w X.xe _ ⟨.bl false, H, I, rfl, q⟩
  | cons z r =>
    cases rv with
    | cons r1 rs => exact SeqAt.RcNeAt.lists_lengths pl.isList pl2.isList (by simp) hu X.prog X.w X.xe _ ⟨.bl true, H, I, rfl, q⟩

/-! ### fractions of the law: pairs in lowest terms -/
def PR (x : Rat) : HO := .tup [.int x.num, .int (x.den : Int)]
def SzR (k : Nat) (x : Rat) : Prop := Sz k x.num ∧ Sz k (x.den : Int)
theorem SzR.mono {a b : Nat} {x : Rat} (h : SzR a x) (l : a ≤ b) : SzR b x := ⟨h.1.mono l, h.2.mono l⟩
theorem den0 (x : Rat) : (0 : Int) < (x.den : Int) := by have := x.den_pos; omega
theorem toR_nd (x : Rat) : toR (x.num, (x.den : Int)) = x := by
  show (x.num : Rat) / ((x.den : Int) : Rat) = x
  rw [← Rat.divInt_eq_div]
  exact Rat.num_divInt_den x
theorem pr_of {t u a b : Int} (hb : 0 < b) (f : Fr t u a b) : (toR (a, b)).num = t ∧ ((toR (a, b)).den : Int) = u := by
  have up := f.pos
  obtain ⟨n, rfl⟩ := Int.eq_ofNat_of_zero_le (Int.le_of_lt up)
  have n0 : n ≠ 0 := by omega
  have co : Nat.Coprime t.natAbs n := f.co
  have e1 : toR (a, b) = toR (t, (n : Int)) := by
    have e := f.eq
    have p1 := posR hb
    have p2 := posR up
    have e : (t : Rat) * (b : Rat) = (a : Rat) * ((n : Int) : Rat) := by rw [← Rat.intCast_mul, ← Rat.intCast_mul, e]
    unfold toR
    show (a : Rat) / (b : Rat) = (t : Rat) / ((n : Int) : Rat)
    grind
  have e : toR (a, b) = (⟨t, n, n0, co⟩ : Rat) := by
    rw [e1]
    exact toR_nd ⟨t, n, n0, co⟩
  rw [e]
  exact ⟨rfl, rfl⟩
theorem szr_of {a b : Int} {k : Nat} (hb : 0 < b) (sa : Sz k a) (sb : Sz k b) : SzR k (toR (a, b)) := by
  have f := (fr_mk (a := a) (b := b) (c := sgn b * (Int.gcd a b : Int)) (by omega) rfl).2.2
  obtain ⟨e1, e2⟩ := pr_of hb f
  refine ⟨?_, ?_⟩
  · rw [e1]
    exact Nat.lt_of_le_of_lt f.lt sa
  · rw [e2]
    exact Nat.lt_of_le_of_lt f.lu sb
theorem lt_PR {x y : Rat} : decide (x.num * (y.den : Int) < y.num * (x.den : Int)) = decide (x < y) := by
  have := ltq_R (a := (x.num, (x.den : Int))) (b := (y.num, (y.den : Int))) (den0 x) (den0 y)
  rw [toR_nd, toR_nd] at this
  exact decide_eq_decide.mpr (by rw [← this]; unfold ltq; exact decide_eq_true_iff.symm)
theorem add_PR {x y : Rat} : toR (x.num * (y.den : Int) + y.num * (x.den : Int), (x.den : Int) * (y.den : Int)) = x + y := by
  have h1 := posR (den0 x)
  have h2 := posR (den0 y)
  have e1 := toR_nd x
  have e2 := toR_nd y
  unfold toR at *
  rw [Rat.intCast_mul, Rat.intCast_add, Rat.intCast_mul, Rat.intCast_mul]
  grind
theorem half_PR {x : Rat} : toR (x.num, 2 * (x.den : Int)) = x / 2 := by
  have h1 := posR (den0 x)
  have e1 := toR_nd x
  unfold toR at *
  rw [Rat.intCast_mul]
  grind
theorem szr_add {x y : Rat} {k : Nat} (h : SzR k x) (g : SzR k y) : SzR (k + k + 1) (x + y) := by
  rw [← add_PR]
  exact szr_of (Int.mul_pos (den0 x) (den0 y)) (Sz.add (h.1.mul g.2) (g.1.mul h.2)) ((h.2.mul g.2).mono (by omega))
theorem szr_half {x : Rat} {k : Nat} (h : SzR k x) : SzR (2 + k) (x / 2) := by
  rw [← half_PR]
  exact szr_of (by have := den0 x; omega) (h.1.mono (by omega)) (Sz.mul (show Sz 2 2 by decide) h.2)
theorem PR.inj {x y : Rat} (e1 : x.num = y.num) (e2 : (x.den : Int) = (y.den : Int)) : x = y := by
  rw [← toR_nd x, ← toR_nd y, e1, e2]
theorem cmw {i j : Int} {k : Nat} (h : Sz k i) (g : Sz k j) (l : k ≤ 4000) : CMulW i j := by
  have h1 := PySem.Flt.log2_lt_of (Nat.succ_pos k) (h.mono (Nat.le_succ k))
  have h2 := PySem.Flt.log2_lt_of (Nat.succ_pos k) (g.mono (Nat.le_succ k))
  show _ + _ < 1000000
  omega
theorem Kp2.seq {K : PySem.W.Frag} {h g l : Addr} {H H' : Hp} {xs : List V} (k : Kp2 h g H H') (n1 : l ≠ h) (n2 : l ≠ g) (a : SqL K H l xs) : SqL K H' l xs := by
  rcases a with (a | ⟨o, a⟩) | a
  · exact .inl (.inl (k _ _ a n1 n2))
  · exact .inl (.inr ⟨o, k _ _ a n1 n2⟩)
  · exact .inr a
def sp_of27 (K : PySem.W.Frag) : Sp := fun vs H Q _ => ∃ (h g l : Addr) (n : Nat) (xs : List V), vs = [.ref h, .ref l] ∧ PotAt H h g n ∧ n < 100000 ∧ SqL K H l xs ∧ l ≠ h ∧ l ≠ g ∧ 0 < xs.length ∧ xs.length ≤ 1000 ∧
  ∀ (i : Nat) (x : V) (H' : Hp), xs[i]? = some x → PotAt H' h g (n + 1) → Kp2 h g H H' → Q x H'
def sp_parts27 : Sp := fun vs H Q _ => ∃ a b : Int, vs = [.int a, .int b] ∧ 0 < b ∧ b.natAbs.log2 < 9000 ∧ ∀ (p : Addr) (H' : Hp), H p = none → Same H H' → H' p = some (PR (toR (a, b))) → Q (.ref p) H'
def sp_less27 : Sp := fun vs H Q _ => ∃ (a b : Addr) (x y : Rat) (k : Nat), vs = [.ref a, .ref b] ∧ H a = some (PR x) ∧ H b = some (PR y) ∧ SzR k x ∧ SzR k y ∧ k ≤ 4000 ∧ Q (.bl (decide (x < y))) H
def sp_plus27 : Sp := fun vs H Q _ => ∃ (a b : Addr) (x y : Rat) (k : Nat), vs = [.ref a, .ref b] ∧ H a = some (PR x) ∧ H b = some (PR y) ∧ SzR k x ∧ SzR k y ∧ 0 < k ∧ k ≤ 4000 ∧ ∀ (p : Addr) (H' : Hp), H p = none → Same H H' → H' p = some (PR (x + y)) → Q (.ref p) H'
def sp_mid27 : Sp := fun vs H Q _ => ∃ (a b : Addr) (x y : Rat) (k : Nat), vs = [.ref a, .ref b] ∧ H a = some (PR x) ∧ H b = some (PR y) ∧ SzR k x ∧ SzR k y ∧ 0 < k ∧ k ≤ 4000 ∧ ∀ (p : Addr) (H' : Hp), H p = none → Same H H' → H' p = some (PR ((x + y) / 2)) → Q (.ref p) H'

/-! ### the law's own stretches -/
abbrev LS := Option Rat × Bool × Option Rat × Bool
def OP (H : Hp) (v : V) : Option Rat → Prop
  | none => v = .non
  | some q => ∃ a, v = .ref a ∧ H a = some (PR q)
theorem OP.same {H H' : Hp} {v : V} {o : Option Rat} (s : Same H H') (h : OP H v o) : OP H' v o := by
  cases o with
  | none => exact h
  | some q =>
    obtain ⟨a, e, h⟩ := h
    exact ⟨a, e, s _ _ h⟩
structure LSAt (H : Hp) (a : Addr) (s : LS) : Prop where
  ob : ∃ u v, H a = some (.tup [u, .bl s.2.1, v, .bl s.2.2.2]) ∧ OP H u s.1 ∧ OP H v s.2.2.1
theorem LSAt.same {H H' : Hp} {a : Addr} {s : LS} (e : Same H H') (h : LSAt H a s) : LSAt H' a s := by
  obtain ⟨u, v, h1, h2, h3⟩ := h.ob
  exact ⟨u, v, e _ _ h1, h2.same e, h3.same e⟩
def ZzO (k : Nat) (o : Option Rat) : Prop := ∀ q, o = some q → SzR k q
def ZzL (k : Nat) (s : LS) : Prop := ZzO k s.1 ∧ ZzO k s.2.2.1
def loB (o : Option Rat) (i : Bool) (x : Rat) : Bool := match o with | none => true | some a => decide (a < x) || (i && decide (a = x))
def hiB (o : Option Rat) (i : Bool) (x : Rat) : Bool := match o with | none => true | some a => decide (x < a) || (i && decide (a = x))
def insB (s : LS) (x : Rat) : Bool := loB s.1 s.2.1 x && hiB s.2.2.1 s.2.2.2 x
def loCut (o : Option Rat) (i : Bool) (p : Option Rat) (j : Bool) : Option Rat × Bool :=
  match p with
  | none => (o, i)
  | some b => match o with
    | none => (some b, j)
    | some a => if b < a then (some a, i) else (some b, j && (i || decide (a ≠ b)))
def hiCut (o : Option Rat) (i : Bool) (p : Option Rat) (j : Bool) : Option Rat × Bool :=
  match p with
  | none => (o, i)
  | some b => match o with
    | none => (some b, j)
    | some a => if a < b then (some a, i) else (some b, j && (i || decide (a ≠ b)))
def cutL (s t : LS) : LS := ((loCut s.1 s.2.1 t.1 t.2.1).1, (loCut s.1 s.2.1 t.1 t.2.1).2, (hiCut s.2.2.1 s.2.2.2 t.2.2.1 t.2.2.2).1, (hiCut s.2.2.1 s.2.2.2 t.2.2.1 t.2.2.2).2)
def fullB (s : LS) : Bool := match s.1, s.2.2.1 with
  | some a, some b => decide (a < b) || (decide (a = b) && s.2.1 && s.2.2.2)
  | _, _ => true
theorem loCut_ok {o p : Option Rat} {i j : Bool} {x : Rat} : loB (loCut o i p j).1 (loCut o i p j).2 x = (loB o i x && loB p j x) := by
  cases p with
  | none => simp [loCut, loB]
  | some b =>
    cases o with
    | none => simp [loCut, loB]
    | some a =>
      unfold loCut loB
      cases i <;> cases j <;> split <;> grind
theorem hiCut_ok {o p : Option Rat} {i j : Bool} {x : Rat} : hiB (hiCut o i p j).1 (hiCut o i p j).2 x = (hiB o i x && hiB p j x) := by
  cases p with
  | none => simp [hiCut, hiB]
  | some b =>
    cases o with
    | none => simp [hiCut, hiB]
    | some a =>
      unfold hiCut hiB
      cases i <;> cases j <;> split <;> grind
theorem insB_cut {s t : LS} {x : Rat} : insB (cutL s t) x = (insB s x && insB t x) := by
  unfold insB cutL
  rw [loCut_ok, hiCut_ok]
  cases loB s.1 s.2.1 x <;> cases loB t.1 t.2.1 x <;> simp
theorem fullB_iff {s : LS} : fullB s = true ↔ ∃ x, insB s x = true := by
  obtain ⟨o, i, p, j⟩ := s
  cases o with
  | none =>
    cases p with
    | none => exact ⟨fun _ => ⟨0, rfl⟩, fun _ => rfl⟩
    | some b => exact ⟨fun _ => ⟨b - 1, by simp [insB, loB, hiB]; grind⟩, fun _ => rfl⟩
  | some a =>
    cases p with
    | none => exact ⟨fun _ => ⟨a + 1, by simp [insB, loB, hiB]; grind⟩, fun _ => rfl⟩
    | some b =>
      constructor
      · intro h
        by_cases l : a < b
        · exact ⟨(a + b) / 2, by simp [insB, loB, hiB]; grind⟩
        · refine ⟨a, ?_⟩
          simp [fullB, insB, loB, hiB] at *
          grind
      · rintro ⟨x, h⟩
        simp [fullB, insB, loB, hiB] at *
        grind
theorem zzo_lo {o p : Option Rat} {i j : Bool} {k : Nat} (h : ZzO k o) (g : ZzO k p) : ZzO k (loCut o i p j).1 := by
  cases p with
  | none => exact h
  | some b =>
    cases o with
    | none => exact g
    | some a =>
      show ZzO k (if b < a then (some a, i) else (some b, j && (i || decide (a ≠ b)))).1
      by_cases l : b < a
      · rw [if_pos l]; exact h
      · rw [if_neg l]; exact g
theorem zzo_hi {o p : Option Rat} {i j : Bool} {k : Nat} (h : ZzO k o) (g : ZzO k p) : ZzO k (hiCut o i p j).1 := by
  cases p with
  | none => exact h
  | some b =>
    cases o with
    | none => exact g
    | some a =>
      show ZzO k (if a < b then (some a, i) else (some b, j && (i || decide (a ≠ b)))).1
      by_cases l : a < b
      · rw [if_pos l]; exact h
      · rw [if_neg l]; exact g
theorem eqv_PR {x y : Rat} : PyData.eqv (.tuple [.int x.num, .int (x.den : Int)]) (.tuple [.int y.num, .int (y.den : Int)]) = decide (x = y) := by
  have e : decide (x = y) = (decide (x.num = y.num) && decide ((x.den : Int) = (y.den : Int))) := by
    rw [← Bool.decide_and]
    exact decide_eq_decide.mpr ⟨fun e => by rw [e]; exact ⟨rfl, rfl⟩, fun e => PR.inj e.1 e.2⟩
  rw [e]
  simp [PyData.eqv, PyData.eqvAll]
  rfl
theorem neD_PR {K : PySem.W.Frag} {H : Hp} {a b : Addr} {x y : Rat} {Q : VK} (ha : H a = some (PR x)) (hb : H b = some (PR y)) (q : Q (.bl (decide (x ≠ y))) H) : rNeD K (.ref a) (.ref b) H Q :=
  ⟨_, _, .tup (SqT.of ha) (.cons (.int _) (.cons (.int _) .nil)), .tup (SqT.of hb) (.cons (.int _) (.cons (.int _) .nil)), rfl, rfl, by
    rw [eqv_PR, ← decide_not]
    exact q⟩
theorem eqD_PR {K : PySem.W.Frag} {H : Hp} {a b : Addr} {x y : Rat} {Q : VK} (ha : H a = some (PR x)) (hb : H b = some (PR y)) (q : Q (.bl (decide (x = y))) H) : rEqD K (.ref a) (.ref b) H Q :=
  ⟨_, _, .tup (SqT.of ha) (.cons (.int _) (.cons (.int _) .nil)), .tup (SqT.of hb) (.cons (.int _) (.cons (.int _) .nil)), rfl, rfl, by
    rw [eqv_PR]
    exact q⟩
theorem neD_non {K : PySem.W.Frag} {H : Hp} {b : Addr} {y : Rat} {Q : VK} (hb : H b = some (PR y)) (q : Q (.bl true) H) : rNeD K .non (.ref b) H Q :=
  ⟨_, _, .non, .tup (SqT.of hb) (.cons (.int _) (.cons (.int _) .nil)), rfl, rfl, by
    simp [PyData.eqv]
    exact q⟩
def sp_cut27 : Sp := fun vs H Q _ => ∃ (a b : Addr) (s t : LS) (k : Nat), vs = [.ref a, .ref b] ∧ LSAt H a s ∧ LSAt H b t ∧ ZzL k s ∧ ZzL k t ∧ k ≤ 4000 ∧ (fullB (cutL s t) = false → Q .non H) ∧
  (fullB (cutL s t) = true → ∀ (p : Addr) (H' : Hp), H p = none → Same H H' → LSAt H' p (cutL s t) → Q (.ref p) H')
/-! ### ladders of the law -/
structure LD where
  ms : List Rat
  r : Str
  lo : Option Rat
  hi : Option Rat
def oR (o : Option Rat) : Option Q2 := o.map ofR
def zR (ms : List Rat) : List Q2 := ms.map ofR
structure LdOk (d : LD) : Prop where
  len0 : 0 < d.ms.length
  len1 : d.ms.length ≤ 24
  rise : ∀ (i : Nat) (a b : Rat), d.ms[i]? = some a → d.ms[i + 1]? = some b → a < b
  rule : IsRule d.r
  span : ∀ a b, d.lo = some a → d.hi = some b → a ≤ b
abbrev LD.F (d : LD) : Rat → Option Nat := sizF (zR d.ms) d.r (oR d.lo) (oR d.hi)
theorem zR_get {ms : List Rat} {i : Nat} : (zR ms)[i]? = ms[i]?.map ofR := List.getElem?_map
theorem zR_len {ms : List Rat} : (zR ms).length = ms.length := List.length_map ..
theorem oR_pos : ∀ {o : Option Rat}, PosO (oR o)
  | none => trivial
  | some x => ofR_pos x
theorem zR_pos {ms : List Rat} : PosL (zR ms) := fun z hz => by
  obtain ⟨x, _, rfl⟩ := List.mem_map.mp hz
  exact ofR_pos x
theorem ltq_of_lt {x y : Rat} : ltq (ofR x) (ofR y) = decide (x < y) := by
  rw [Bool.eq_iff_iff, ltq_R (ofR_pos x) (ofR_pos y), toR_ofR, toR_ofR]
  exact decide_eq_true_iff.symm
theorem LdOk.riseQ {d : LD} (h : LdOk d) : RiseQ (zR d.ms) := fun i a b h1 h2 => by
  rw [zR_get] at h1 h2
  cases e1 : d.ms[i]? with
  | none => rw [e1] at h1; cases h1
  | some x =>
    cases e2 : d.ms[i + 1]? with
    | none => rw [e2] at h2; cases h2
    | some y =>
      rw [e1] at h1
      rw [e2] at h2
      cases h1
      cases h2
      rw [ltq_of_lt]
      exact decide_eq_true (h.rise i x y e1 e2)
theorem LdOk.spanQ {d : LD} (h : LdOk d) : spanB (oR d.lo) (oR d.hi) = true := by
  cases e1 : d.lo with
  | none => rfl
  | some a =>
    cases e2 : d.hi with
    | none => rfl
    | some b =>
      show (!ltq (ofR b) (ofR a)) = true
      rw [ltq_of_lt, decide_eq_false (Rat.not_lt.mpr (h.span a b e1 e2))]
      rfl
theorem LdOk.lq {d : LD} (h : LdOk d) : LadQ (zR d.ms) d.r (oR d.lo) (oR d.hi) := ⟨h.riseQ, zR_pos, oR_pos, oR_pos, h.spanQ⟩
def lwR (ms : List Rat) : Nat → Option Rat
  | 0 => none
  | j + 1 => ms[j]?
def mdR (ms : List Rat) : Nat → Option Rat
  | 0 => none
  | j + 1 => match ms[j]?, ms[j + 1]? with
    | some a, some b => some ((a + b) / 2)
    | _, _ => none
def rulR (d : LD) (k : Nat) : LS :=
  if d.r = "up" then (lwR d.ms k, false, d.ms[k]?, true) else if d.r = "down" then (d.ms[k]?, true, d.ms[k + 1]?, false) else (mdR d.ms k, true, mdR d.ms (k + 1), false)
def partL (d : LD) (k : Nat) : LS := cutL (rulR d k) (d.lo, true, d.hi, true)
theorem loIn_R {o : Option Q2} {i : Bool} {z : Q2} (p : PosO o) (hz : 0 < z.2) : loIn o i z = loB (o.map toR) i (toR z) := by
  cases o with
  | none => rfl
  | some a =>
    have h1 : ltq a z = decide (toR a < toR z) := by
      rw [Bool.eq_iff_iff, ltq_R p hz]
      exact decide_eq_true_iff.symm
    have h2 : eqq a z = decide (toR a = toR z) := by
      rw [Bool.eq_iff_iff]
      constructor
      · intro e
        exact decide_eq_true (re_R (z := a) (w := z) ⟨p, hz, of_decide_eq_true e⟩)
      · intro e
        exact decide_eq_true (re_of_R p hz (of_decide_eq_true e)).2.2
    show (ltq a z || (i && eqq a z)) = (decide (toR a < toR z) || (i && decide (toR a = toR z)))
    rw [h1, h2]
theorem hiIn_R {o : Option Q2} {i : Bool} {z : Q2} (p : PosO o) (hz : 0 < z.2) : hiIn o i z = hiB (o.map toR) i (toR z) := by
  cases o with
  | none => rfl
  | some a =>
    have h1 : ltq z a = decide (toR z < toR a) := by
      rw [Bool.eq_iff_iff, ltq_R hz p]
      exact decide_eq_true_iff.symm
    have h2 : eqq z a = decide (toR a = toR z) := by
      rw [Bool.eq_iff_iff]
      constructor
      · intro e
        exact decide_eq_true (re_R (z := z) (w := a) ⟨hz, p, of_decide_eq_true e⟩).symm
      · intro e
        exact decide_eq_true (re_of_R hz p (of_decide_eq_true e).symm).2.2
    show (ltq z a || (i && eqq z a)) = (decide (toR z < toR a) || (i && decide (toR a = toR z)))
    rw [h1, h2]
theorem oR_toR {o : Option Rat} : (oR o).map toR = o := by
  cases o with
  | none => rfl
  | some x => show some (toR (ofR x)) = some x; rw [toR_ofR]
theorem get_toR {ms : List Rat} {i : Nat} : ((zR ms)[i]?).map toR = ms[i]? := by
  rw [zR_get]
  exact oR_toR
theorem endQ_nat {zs : List Q2} {i : Nat} : endQ zs (i : Int) = zs[i]? := by
  unfold endQ
  by_cases h : i < zs.length
  · rw [if_pos ⟨by omega, by omega⟩]; rfl
  · rw [if_neg (by omega)]
    exact (List.getElem?_eq_none (by omega)).symm
theorem endQ_m1 {zs : List Q2} {i : Int} (h : i < 0) : endQ zs i = none := by
  unfold endQ
  rw [if_neg (by omega)]
theorem lw_toR {ms : List Rat} {k : Nat} : (endQ (zR ms) ((k : Int) - 1)).map toR = lwR ms k := by
  cases k with
  | zero => rw [endQ_m1 (by omega)]; rfl
  | succ j =>
    rw [show ((j + 1 : Nat) : Int) - 1 = (j : Int) by omega, endQ_nat, get_toR]
    rfl
theorem md_at {ms : List Rat} {j : Nat} : ((midq (zR ms))[j]?).map toR = mdR ms (j + 1) := by
  have ln := midq_len (zR ms)
  rw [zR_len] at ln
  cases e1 : ms[j]? with
  | none =>
    have := List.getElem?_eq_none_iff.mp e1
    rw [List.getElem?_eq_none (by omega)]
    show none = match ms[j]?, ms[j + 1]? with | some a, some b => some ((a + b) / 2) | _, _ => none
    rw [e1]
  | some a =>
    cases e2 : ms[j + 1]? with
    | none =>
      have := List.getElem?_eq_none_iff.mp e2
      rw [List.getElem?_eq_none (by omega)]
      show none = match ms[j]?, ms[j + 1]? with | some a, some b => some ((a + b) / 2) | _, _ => none
      rw [e1, e2]
    | some b =>
      rw [midq_get (zR ms) j (ofR a) (ofR b) (by rw [zR_get, e1]; rfl) (by rw [zR_get, e2]; rfl)]
      show some (toR (qhalf (ofR a) (ofR b))) = match ms[j]?, ms[j + 1]? with | some a, some b => some ((a + b) / 2) | _, _ => none
      rw [e1, e2, half_R (ofR_pos a) (ofR_pos b), toR_ofR, toR_ofR]
theorem md_lo {ms : List Rat} {k : Nat} : (endQ (midq (zR ms)) ((k : Int) - 1)).map toR = mdR ms k := by
  cases k with
  | zero => rw [endQ_m1 (by omega)]; rfl
  | succ j => rw [show ((j + 1 : Nat) : Int) - 1 = (j : Int) by omega, endQ_nat, md_at]
theorem md_hi {ms : List Rat} {k : Nat} : (endQ (midq (zR ms)) (k : Int)).map toR = mdR ms (k + 1) := by rw [endQ_nat, md_at]
theorem rul_ins {d : LD} {k : Nat} {x : Rat} : insB (rulR d k) x = rulIn (zR d.ms) d.r k (ofR x) := by
  have p := rulE_pos (r := d.r) (n := k) (zR_pos (ms := d.ms))
  unfold rulIn insB
  rw [loIn_R p.1 (ofR_pos x), hiIn_R p.2 (ofR_pos x), toR_ofR]
  unfold rulR rulE
  split
  · simp only [lw_toR, get_toR]
  · split
    · simp only [get_toR]
      rw [show (k : Int) + 1 = ((k + 1 : Nat) : Int) by omega, endQ_nat, get_toR]
    · simp only [md_lo, md_hi]
theorem own_ins {lo hi : Option Rat} {x : Rat} : insB (lo, true, hi, true) x = inO (oR lo) (oR hi) (ofR x) := by
  unfold insB inO
  congr 1
  · cases lo with
    | none => rfl
    | some a =>
      show (decide (a < x) || (true && decide (a = x))) = !ltq (ofR x) (ofR a)
      rw [ltq_of_lt, Bool.eq_iff_iff]
      simp
      grind
  · cases hi with
    | none => rfl
    | some a =>
      show (decide (x < a) || (true && decide (a = x))) = !ltq (ofR a) (ofR x)
      rw [ltq_of_lt, Bool.eq_iff_iff]
      simp
      grind
theorem part_in {d : LD} {k : Nat} {x : Rat} (h : LdOk d) (hk : k < d.ms.length) : insB (partL d k) x = true ↔ d.F x = some k := by
  unfold partL LD.F
  rw [insB_cut, rul_ins, own_ins, sizF_iff, Bool.and_eq_true, rul_in h.riseQ zR_pos (ofR_pos x) (by rw [zR_len]; exact hk), zR_len]
  exact ⟨fun ⟨a, b⟩ => ⟨b, a, hk⟩, fun ⟨a, b, _⟩ => ⟨b, a⟩⟩
theorem md_some {ms : List Rat} {j : Nat} {a b : Rat} (h : ms[j]? = some a) (g : ms[j + 1]? = some b) : mdR ms (j + 1) = some ((a + b) / 2) := by
  show (match ms[j]?, ms[j + 1]? with | some a, some b => some ((a + b) / 2) | _, _ => none) = _
  rw [h, g]
theorem md_no {ms : List Rat} {j : Nat} (g : ms[j + 1]? = none) : mdR ms (j + 1) = none := by
  show (match ms[j]?, ms[j + 1]? with | some a, some b => some ((a + b) / 2) | _, _ => none) = _
  rw [g]
  split
  · rename_i h; cases h
  · rfl
def SzD (k : Nat) (d : LD) : Prop := (∀ x ∈ d.ms, SzR k x) ∧ ZzO k d.lo ∧ ZzO k d.hi
theorem ZzO.mono {a b : Nat} {o : Option Rat} (h : ZzO a o) (l : a ≤ b) : ZzO b o := fun q e => (h q e).mono l
theorem SzD.mono {a b : Nat} {d : LD} (h : SzD a d) (l : a ≤ b) : SzD b d := ⟨fun x m => (h.1 x m).mono l, h.2.1.mono l, h.2.2.mono l⟩
theorem SzD.get {k : Nat} {d : LD} (h : SzD k d) {i : Nat} : ZzO k d.ms[i]? := fun _ e => h.1 _ (List.mem_of_getElem? e)
theorem zzo_md {k : Nat} {d : LD} (h : SzD k d) : ∀ {i : Nat}, ZzO (2 + (k + k + 1)) (mdR d.ms i)
  | 0 => fun _ e => by cases e
  | j + 1 => fun q e => by
    have e : (match d.ms[j]?, d.ms[j + 1]? with | some a, some b => some ((a + b) / 2) | _, _ => none) = some q := e
    cases e1 : d.ms[j]? with
    | none => rw [e1] at e; cases e
    | some a =>
      cases e2 : d.ms[j + 1]? with
      | none => rw [e1, e2] at e; cases e
      | some b =>
        rw [e1, e2] at e
        cases e
        exact szr_half (szr_add (h.get _ e1) (h.get _ e2))
theorem zzl_rul {k i : Nat} {d : LD} (h : SzD k d) : ZzL (k + k + 3) (rulR d i) := by
  have m : ZzL (2 + (k + k + 1)) (rulR d i) := by
    unfold rulR
    split
    · refine ⟨?_, h.get.mono (by omega)⟩
      cases i with
      | zero => exact fun _ e => by cases e
      | succ j => exact h.get.mono (by omega)
    · split
      · exact ⟨h.get.mono (by omega), h.get.mono (by omega)⟩
      · exact ⟨zzo_md (i := i) h, zzo_md (i := i + 1) h⟩
  exact (show 2 + (k + k + 1) = k + k + 3 by omega) ▸ m
theorem zzl_cut {k : Nat} {s t : LS} (h : ZzL k s) (g : ZzL k t) : ZzL k (cutL s t) := ⟨zzo_lo h.1 g.1, zzo_hi h.2 g.2⟩
theorem zzl_part {k i : Nat} {d : LD} (h : SzD k d) : ZzL (k + k + 3) (partL d i) := zzl_cut (zzl_rul h) ⟨h.2.1.mono (by omega), h.2.2.mono (by omega)⟩
/-- whether two stretches have something in common -/
theorem full_cut {s t : LS} : fullB (cutL s t) = true ↔ ∃ x, insB s x = true ∧ insB t x = true := by
  rw [fullB_iff]
  constructor
  · rintro ⟨x, h⟩
    rw [insB_cut] at h
    exact ⟨x, Bool.and_eq_true_iff.mp h⟩
  · rintro ⟨x, h1, h2⟩
    exact ⟨x, by rw [insB_cut, h1, h2]; rfl⟩
theorem idx_succ {n : Nat} {c : Nat → Bool} : idx (n + 1) c = if c n = true then idx n c ++ [(n : Int)] else idx n c := by
  unfold idx
  rw [List.range_succ, List.filter_append, List.map_append]
  cases h : c n <;> simp [h]
/-- what two sizes have in common, by the law's stretches -/
theorem met_iff {s : LS} {d : LD} {F : Rat → Option Nat} {a b : Nat} (ok : LdOk d) (hb : b < d.ms.length) (hF : ∀ x, insB s x = true ↔ F x = some a) : fullB (cutL s (partL d b)) = true ↔ ∃ x, F x = some a ∧ d.F x = some b := by
  rw [full_cut]
  constructor
  · rintro ⟨x, h1, h2⟩
    exact ⟨x, (hF x).mp h1, (part_in ok hb).mp h2⟩
  · rintro ⟨x, h1, h2⟩
    exact ⟨x, (hF x).mpr h1, (part_in ok hb).mpr h2⟩
theorem LD.F_lt {d : LD} {x : Rat} {b : Nat} (h : d.F x = some b) : b < d.ms.length := by
  have := sizeQ_lt (show sizeQ _ _ _ _ _ = some b from h)
  rwa [zR_len] at this
theorem full_r {s t : LS} (h : fullB (cutL s t) = true) : fullB s = true ∧ fullB t = true := by
  obtain ⟨x, h1, h2⟩ := full_cut.mp h
  exact ⟨fullB_iff.mpr ⟨x, h1⟩, fullB_iff.mpr ⟨x, h2⟩⟩
/-! ### they on the heap -/
def RsV (H : Hp) (vs : List V) (ms : List Rat) : Prop := vs.length = ms.length ∧ ∀ (i : Nat) (x : Rat), ms[i]? = some x → ∃ a : Addr, vs[i]? = some (V.ref a) ∧ H a = some (PR x)
structure LdAt (H : Hp) (p : Addr) (d : LD) : Prop where
  ob : ∃ (M : Addr) (u w : V) (vs : List V), H p = some (.tup [.ref M, .str d.r, u, w]) ∧ H M = some (.lst vs) ∧ RsV H vs d.ms ∧ OP H u d.lo ∧ OP H w d.hi
theorem RsV.same {H H' : Hp} {vs : List V} {ms : List Rat} (h : RsV H vs ms) (s : Same H H') : RsV H' vs ms := ⟨h.1, fun i x e => by
  obtain ⟨a, e1, e2⟩ := h.2 i x e
  exact ⟨a, e1, s _ _ e2⟩⟩
theorem RsV.nl {H H' : Hp} {vs : List V} {ms : List Rat} (h : RsV H vs ms) (s : Nl H H') : RsV H' vs ms := ⟨h.1, fun i x e => by
  obtain ⟨a, e1, e2⟩ := h.2 i x e
  exact ⟨a, e1, s _ _ e2 rfl⟩⟩
theorem OP.nl {H H' : Hp} {v : V} {o : Option Rat} (h : OP H v o) (s : Nl H H') : OP H' v o := by
  cases o with
  | none => exact h
  | some q =>
    obtain ⟨a, e, h⟩ := h
    exact ⟨a, e, s _ _ h rfl⟩
theorem LdAt.same {H H' : Hp} {p : Addr} {d : LD} (h : LdAt H p d) (s : Same H H') : LdAt H' p d := by
  obtain ⟨M, u, w, vs, h1, h2, h3, h4, h5⟩ := h.ob
  exact ⟨M, u, w, vs, s _ _ h1, s _ _ h2, h3.same s, h4.same s, h5.same s⟩
theorem rsv_ne {H : Hp} {h g M : Addr} {n : Nat} {vs : List V} {ms : List Rat} (pt : PotAt H h g n) (e : H M = some (.lst vs)) (r : RsV H vs ms) (l : 0 < ms.length) : M ≠ h ∧ M ≠ g := by
  obtain ⟨⟨s, t, e1, _⟩, ⟨gs, e2, _⟩, _⟩ := pt
  obtain ⟨r1, r2⟩ := r
  obtain ⟨a, ea, _⟩ := r2 0 _ (List.getElem?_eq_getElem l)
  refine ⟨fun q => ?_, fun q => ?_⟩
  · rw [q, e1] at e
    cases e
    cases e3 : ms[1]? with
    | none =>
      have := List.getElem?_eq_none_iff.mp e3
      simp at r1
      omega
    | some x =>
      obtain ⟨b, eb, _⟩ := r2 1 x e3
      simp at eb
  · rw [q, e2] at e
    cases e
    rw [List.getElem?_map] at ea
    cases e4 : gs[0]? with
    | none => rw [e4] at ea; cases ea
    | some z => rw [e4] at ea; cases ea
theorem LdAt.kp {H H' : Hp} {h g p : Addr} {n : Nat} {d : LD} (a : LdAt H p d) (l : 0 < d.ms.length) (pt : PotAt H h g n) (k : Kp2 h g H H') : LdAt H' p d := by
  obtain ⟨M, u, w, vs, h1, h2, h3, h4, h5⟩ := a.ob
  have ne := rsv_ne pt h2 h3 l
  have s := pt.nl k
  exact ⟨M, u, w, vs, s _ _ h1 rfl, k _ _ h2 ne.1 ne.2, h3.nl s, h4.nl s, h5.nl s⟩
/-- the stretch of a size, or none -/
def LPart (H : Hp) (v : V) (s : LS) : Prop := (fullB s = true ∧ ∃ a, v = .ref a ∧ LSAt H a s) ∨ (fullB s = false ∧ v = .non)
theorem LPart.same {H H' : Hp} {v : V} {s : LS} (h : LPart H v s) (e : Same H H') : LPart H' v s := by
  rcases h with ⟨f, a, rfl, g⟩ | h
  · exact .inl ⟨f, a, rfl, g.same e⟩
  · exact .inr h

theorem PotAt.put {H : Hp} {h g D : Addr} {n : Nat} {u : HO} (a : PotAt H h g n) (n1 : D ≠ h) (n2 : D ≠ g) : PotAt (upd H D u) h g n := by
  obtain ⟨⟨x, t, e, r⟩, ⟨gs, e2, r2⟩, ne⟩ := a
  exact ⟨⟨x, t, by rw [upd_ne (Ne.symm n1)]; exact e, r⟩, ⟨gs, by rw [upd_ne (Ne.symm n2)]; exact e2, r2⟩, ne⟩
theorem Kp2.putN {h g D : Addr} {A B : Hp} {u : HO} (a : Kp2 h g A B) (np : A D = none) : Kp2 h g A (upd B D u) := fun c o e n1 n2 => by
  rw [upd_ne (ne_of_none e np)]
  exact a c o e n1 n2
def LdV (P : LD → Prop) (H : Hp) (v : V) : Prop := ∃ p d, v = .ref p ∧ LdAt H p d ∧ P d
theorem LdAt.put {P : LD → Prop} (hP : ∀ d, P d → 0 < d.ms.length) {H : Hp} {p D : Addr} {d : LD} {acc : List V} {u : HO} (a : LdAt H p d) (l : 0 < d.ms.length) (e : H D = some (.lst acc)) (al : ∀ v ∈ acc, LdV P H v) : LdAt (upd H D u) p d := by
  obtain ⟨M, u', w, vs, h1, h2, h3, h4, h5⟩ := a.ob
  have ne : M ≠ D := fun q => by
    rw [q, e] at h2
    cases h2
    obtain ⟨r1, r2⟩ := h3
    obtain ⟨b, eb, hb⟩ := r2 0 _ (List.getElem?_eq_getElem l)
    obtain ⟨q', d', e', la, _⟩ := al _ (List.mem_of_getElem? eb)
    cases e'
    obtain ⟨M', u2, w2, vs2, g1, _⟩ := la.ob
    rw [hb] at g1
    cases g1
  have pn : ∀ b ts, H b = some (.tup ts) → (upd H D u) b = some (.tup ts) := fun b ts e3 => by
    rw [upd_ne (fun q => by rw [q, e] at e3; cases e3)]
    exact e3
  have op : ∀ {v : V} {o : Option Rat}, OP H v o → OP (upd H D u) v o := fun {v o} h => by
    cases o with
    | none => exact h
    | some q =>
      obtain ⟨a, e, h⟩ := h
      exact ⟨a, e, pn _ _ h⟩
  exact ⟨M, u', w, vs, pn _ _ h1, by rw [upd_ne ne]; exact h2, ⟨h3.1, fun i x ei => by
    obtain ⟨b, e1, e2⟩ := h3.2 i x ei
    exact ⟨b, e1, pn _ _ e2⟩⟩, op h4, op h5⟩
theorem lcLd {J : It} {n : Nat} {G : Hp → Prop} {Y : Nat → Hp → V → Hp → Prop} {f : TG} {tt : TT} {te : TE} {vs : List Nat} {σ : L2.St} {H1 : Hp} {D : Addr} {Qd : Hp → Prop} {h g : Addr} {c m : Nat} (P : LD → Prop) (hP : ∀ d, P d → 0 < d.ms.length) (w : Walk J n G Y) (hG : ∀ H, G H) (hz : n < sizeLine) (pt : PotAt H1 h g m) (hD : H1 D = none)
    (hs : ∀ (i : Nat) (x : V) (H H' : Hp) (N : VK) (M : Hp → Prop), i < n → Kp2 h g H1 H → PotAt H h g (m + c * i) → Y i H x H' → (∀ p d H4, Kp2 h g H H4 → PotAt H4 h g (m + c * (i + 1)) → LdAt H4 p d → P d → N (.ref p) H4) →
      f x (wipe σ vs) H' fun σ2 H2 => wipe σ2 vs = wipe σ vs ∧ tt σ2 H2 fun b H3 => if b = true then te σ2 H3 N else M H3)
    (hd : ∀ H ys, Kp2 h g H1 H → PotAt H h g (m + c * n) → H D = some (.lst ys) → ys.length = n → (∀ v ∈ ys, LdV P H v) → Qd H) :
    ∃ W : Nat → Nat → Hp → Prop, (∃ m, W 0 m (upd H1 D (.lst []))) ∧ ∀ i m H, W i m H →
      (J.stop i H ∧ Qd H) ∨ (J.go i H ∧ ∃ Nx : Hp → Prop, (∀ H', Nx H' → ∃ m', m' < m ∧ W (i + 1) m' H') ∧ ∀ x H', J.yld i H x H' → f x (wipe σ vs) H' fun σ2 H2 => wipe σ2 vs = wipe σ vs ∧ tt σ2 H2 fun b H3 =>
        if b = true then te σ2 H3 fun y H4 => ∃ acc, H4 D = some (.lst acc) ∧ acc.length < sizeLine ∧ Nx (upd H4 D (.lst (acc ++ [y]))) else Nx H3) := by
  obtain ⟨n1, n2⟩ := pt.nel hD
  refine lc_it w (fun i H => Kp2 h g H1 H ∧ PotAt H h g (m + c * i) ∧ ∃ ys, H D = some (.lst ys) ∧ ys.length = i ∧ ∀ v ∈ ys, LdV P H v) ⟨(Kp2.refl _).up hD, pt.up hD, [], upd_same, rfl, fun v hv => by simp at hv⟩ (fun i H _ p => hG _) (fun i x H H' hi p y => ?_) (fun H p => ?_)
  · obtain ⟨s1, pi, ys, h1, h2, h3⟩ := p
    refine hs i x H H' _ _ hi s1 pi y (fun q d H4 s4 p4 L4 Pd => ?_)
    have hD4 := s4 _ _ h1 n1 n2
    have al : ∀ v ∈ ys, LdV P H4 v := fun v hv => by
      obtain ⟨q', d', e, l, pd⟩ := h3 v hv
      exact ⟨q', d', e, l.kp (hP _ pd) pi s4, pd⟩
    refine ⟨ys, hD4, by omega, ?_, p4.put n1 n2, ys ++ [.ref q], upd_same, by rw [List.length_append, h2]; rfl, fun v hv => ?_⟩
    · exact (s1.trans s4).putN hD
    · rcases List.mem_append.mp hv with hv | hv
      · obtain ⟨q', d', e, l, pd⟩ := al v hv
        exact ⟨q', d', e, l.put hP (hP _ pd) hD4 al, pd⟩
      · rw [List.mem_singleton.mp hv]
        exact ⟨q, d, rfl, L4.put hP (hP _ Pd) hD4 al, Pd⟩
  · obtain ⟨s1, pi, ys, h1, h2, h3⟩ := p
    exact hd H ys s1 (by rw [show n = n from rfl]; exact pi) h1 h2 h3
theorem lcI {J : It} {n : Nat} {G : Hp → Prop} {Y : Nat → Hp → V → Hp → Prop} {f : TG} {tt : TT} {te : TE} {vs : List Nat} {σ : L2.St} {H1 : Hp} {D : Addr} {Qd : Hp → Prop} {h g : Addr} {c m : Nat} (R : V → Prop) (w : Walk J n G Y) (hG : ∀ H, G H) (hz : n < sizeLine) (pt : PotAt H1 h g m) (hD : H1 D = none)
    (hs : ∀ (i : Nat) (x : V) (H H' : Hp) (N : VK) (M : Hp → Prop), i < n → Kp2 h g H1 H → PotAt H h g (m + c * i) → Y i H x H' → (∀ y H4, Kp2 h g H H4 → PotAt H4 h g (m + c * (i + 1)) → R y → N y H4) →
      f x (wipe σ vs) H' fun σ2 H2 => wipe σ2 vs = wipe σ vs ∧ tt σ2 H2 fun b H3 => if b = true then te σ2 H3 N else M H3)
    (hd : ∀ H ys, Kp2 h g H1 H → PotAt H h g (m + c * n) → H D = some (.lst ys) → ys.length = n → (∀ v ∈ ys, R v) → Qd H) :
    ∃ W : Nat → Nat → Hp → Prop, (∃ m, W 0 m (upd H1 D (.lst []))) ∧ ∀ i m H, W i m H →
      (J.stop i H ∧ Qd H) ∨ (J.go i H ∧ ∃ Nx : Hp → Prop, (∀ H', Nx H' → ∃ m', m' < m ∧ W (i + 1) m' H') ∧ ∀ x H', J.yld i H x H' → f x (wipe σ vs) H' fun σ2 H2 => wipe σ2 vs = wipe σ vs ∧ tt σ2 H2 fun b H3 =>
        if b = true then te σ2 H3 fun y H4 => ∃ acc, H4 D = some (.lst acc) ∧ acc.length < sizeLine ∧ Nx (upd H4 D (.lst (acc ++ [y]))) else Nx H3) := by
  obtain ⟨n1, n2⟩ := pt.nel hD
  refine lc_it w (fun i H => Kp2 h g H1 H ∧ PotAt H h g (m + c * i) ∧ ∃ ys, H D = some (.lst ys) ∧ ys.length = i ∧ ∀ v ∈ ys, R v) ⟨(Kp2.refl _).up hD, pt.up hD, [], upd_same, rfl, fun v hv => by simp at hv⟩ (fun i H _ p => hG _) (fun i x H H' hi p y => ?_) (fun H p => ?_)
  · obtain ⟨s1, pi, ys, h1, h2, h3⟩ := p
    refine hs i x H H' _ _ hi s1 pi y (fun q H4 s4 p4 r4 => ?_)
    refine ⟨ys, s4 _ _ h1 n1 n2, by omega, ?_, p4.put n1 n2, ys ++ [q], upd_same, by rw [List.length_append, h2]; rfl, fun v hv => ?_⟩
    · exact (s1.trans s4).putN hD
    · rcases List.mem_append.mp hv with hv | hv
      · exact h3 v hv
      · rw [List.mem_singleton.mp hv]; exact r4
  · obtain ⟨s1, pi, ys, h1, h2, h3⟩ := p
    exact hd H ys s1 (by rw [show n = n from rfl]; exact pi) h1 h2 h3

/-! ### scaled; whole parts -/
theorem mul_PR {x y : Rat} : toR (x.num * y.num, (x.den : Int) * (y.den : Int)) = x * y := by
  have h1 := posR (den0 x)
  have h2 := posR (den0 y)
  have e1 := toR_nd x
  have e2 := toR_nd y
  unfold toR at *
  rw [Rat.intCast_mul, Rat.intCast_mul]
  grind
theorem szr_mul {x y : Rat} {k j : Nat} (h : SzR k x) (g : SzR j y) : SzR (k + j) (x * y) := by
  rw [← mul_PR]
  exact szr_of (Int.mul_pos (den0 x) (den0 y)) (h.1.mul g.1) (h.2.mul g.2)
def LD.sc (d : LD) (c : Rat) : LD := ⟨d.ms.map (· * c), d.r, d.lo.map (· * c), d.hi.map (· * c)⟩
theorem lt_sc {a b c : Rat} (h : a < b) (hc : 0 < c) : a * c < b * c := Rat.mul_lt_mul_of_pos_right h hc
theorem LdOk.sc {d : LD} {c : Rat} (h : LdOk d) (hc : 0 < c) : LdOk (d.sc c) := by
  refine ⟨?_, ?_, ?_, h.rule, ?_⟩
  · show 0 < (d.ms.map (· * c)).length
    rw [List.length_map]; exact h.len0
  · show (d.ms.map (· * c)).length ≤ 24
    rw [List.length_map]; exact h.len1
  · intro i a b h1 h2
    have h1 : (d.ms.map (· * c))[i]? = some a := h1
    have h2 : (d.ms.map (· * c))[i + 1]? = some b := h2
    rw [List.getElem?_map] at h1 h2
    cases e1 : d.ms[i]? with
    | none => rw [e1] at h1; cases h1
    | some x =>
      cases e2 : d.ms[i + 1]? with
      | none => rw [e2] at h2; cases h2
      | some y =>
        rw [e1] at h1
        rw [e2] at h2
        cases h1
        cases h2
        exact lt_sc (h.rise i x y e1 e2) hc
  · intro a b h1 h2
    have h1 : d.lo.map (· * c) = some a := h1
    have h2 : d.hi.map (· * c) = some b := h2
    cases e1 : d.lo with
    | none => rw [e1] at h1; cases h1
    | some x =>
      cases e2 : d.hi with
      | none => rw [e2] at h2; cases h2
      | some y =>
        rw [e1] at h1
        rw [e2] at h2
        cases h1
        cases h2
        have := h.span x y e1 e2
        by_cases e : x = y
        · subst e; exact Rat.le_refl
        · exact Rat.le_of_lt (lt_sc (by grind) hc)
theorem zzo_sc {k j : Nat} {c : Rat} {o : Option Rat} (h : ZzO k o) (g : SzR j c) : ZzO (k + j) (o.map (· * c)) := fun q e => by
  cases o with
  | none => cases e
  | some x => cases e; exact szr_mul (h x rfl) g
theorem SzD.sc {k j : Nat} {c : Rat} {d : LD} (h : SzD k d) (g : SzR j c) : SzD (k + j) (d.sc c) := ⟨fun x hx => by
  obtain ⟨y, hy, rfl⟩ := List.mem_map.mp hx
  exact szr_mul (h.1 y hy) g, zzo_sc h.2.1 g, zzo_sc h.2.2 g⟩
structure LdG (d : LD) : Prop where
  ok : LdOk d
  sz : SzD 140 d
/-- so many parts of 8797236 -/
def WhM (x : Rat) (b : Nat) : Prop := ∃ n : Int, toR (n, 8797236) = x ∧ n.natAbs ≤ b
theorem WhM.mono {x : Rat} {a b : Nat} (h : WhM x a) (l : a ≤ b) : WhM x b := by
  obtain ⟨n, e, g⟩ := h
  exact ⟨n, e, Nat.le_trans g l⟩
theorem WhM.add {x y : Rat} {a b : Nat} (h : WhM x a) (g : WhM y b) : WhM (x + y) (a + b) := by
  obtain ⟨n, rfl, h⟩ := h
  obtain ⟨m, rfl, g⟩ := g
  refine ⟨n + m, ?_, by omega⟩
  unfold toR
  rw [Rat.intCast_add]
  grind
theorem WhM.sz {x : Rat} {b : Nat} (h : WhM x b) (l : b ≤ 1000000000) : SzR 30 x := by
  obtain ⟨n, rfl, h⟩ := h
  exact szr_of (by decide) (by show n.natAbs < 2 ^ 30; omega) (by decide)
theorem WhM.mid {x y : Rat} {a b : Nat} (h : WhM x a) (g : WhM y b) (l : a ≤ 1000000000) (m : b ≤ 1000000000) : SzR 34 ((x + y) / 2) := by
  obtain ⟨n, rfl, h⟩ := h
  obtain ⟨k, rfl, g⟩ := g
  have e : (toR (n, 8797236) + toR (k, 8797236)) / 2 = toR (n + k, 17594472) := by
    unfold toR
    rw [Rat.intCast_add]
    grind
  rw [e]
  exact szr_of (by decide) (by show (n + k).natAbs < 2 ^ 34; omega) (by decide)
theorem WhM.fifth {x : Rat} {a : Nat} {s : Int} (h : WhM x a) (l : a ≤ 1000000000) (hs : s.natAbs ≤ 1) : SzR 34 (x + toR (s, 5)) := by
  obtain ⟨n, rfl, h⟩ := h
  have e : toR (n, 8797236) + toR (s, 5) = toR (5 * n + 8797236 * s, 43986180) := by
    unfold toR
    rw [Rat.intCast_add, Rat.intCast_mul, Rat.intCast_mul]
    grind
  rw [e]
  exact szr_of (by decide) (by show (5 * n + 8797236 * s).natAbs < 2 ^ 34; omega) (by decide)
/-- steps to draw from -/
def PoolV (b : Nat) (H : Hp) (v : V) : Prop := ∃ (a : Addr) (x : Rat), v = .ref a ∧ H a = some (PR x) ∧ WhM x b
def PoolP (b : Nat) (H : Hp) (v : V) : Prop := ∃ (a : Addr) (x : Rat), v = .ref a ∧ H a = some (PR x) ∧ 0 < x ∧ WhM x b
theorem PoolP.nl {b : Nat} {H H' : Hp} {v : V} (h : PoolP b H v) (s : Nl H H') : PoolP b H' v := by
  obtain ⟨a, x, e, e2, r⟩ := h
  exact ⟨a, x, e, s _ _ e2 rfl, r⟩
theorem PoolP.same {b : Nat} {H H' : Hp} {v : V} (h : PoolP b H v) (s : Same H H') : PoolP b H' v := by
  obtain ⟨a, x, e, e2, r⟩ := h
  exact ⟨a, x, e, s _ _ e2, r⟩

theorem PoolV.nl {b : Nat} {H H' : Hp} {v : V} (h : PoolV b H v) (s : Nl H H') : PoolV b H' v := by
  obtain ⟨a, x, e, e2, r⟩ := h
  exact ⟨a, x, e, s _ _ e2 rfl, r⟩
theorem Kp2.non {h g p : Addr} {A B : Hp} {n : Nat} (k : Kp2 h g A B) (pt : PotAt B h g n) (np : B p = none) : A p = none := by
  obtain ⟨n1, n2⟩ := pt.nel np
  cases e : A p with
  | none => rfl
  | some o => rw [k _ _ e n1 n2] at np; cases np
def oD : Option Rat → PyData
  | none => .none
  | some q => .tuple [.int q.num, .int (q.den : Int)]
theorem op_dp {K : PySem.W.Frag} {H : Hp} {v : V} : ∀ {o : Option Rat}, OP H v o → Dp K H v (oD o)
  | none, h => by cases h; exact .non
  | some q, ⟨a, e, h⟩ => by subst e; exact .tup (SqT.of h) (.cons (.int _) (.cons (.int _) .nil))
theorem notin_ends {K : PySem.W.Frag} {H : Hp} {E : Addr} {a b : V} {oa ob : Option Rat} {Q : VK} (hE : H E = some (.lst [a, b])) (h1 : OP H a oa) (h2 : OP H b ob) (q : Q (.bl (oa.isSome && ob.isSome)) H) : rNotInD K .non (.ref E) H Q :=
  ⟨.none, [oD oa, oD ob], .non, .lst (SqL.of hE) (.cons (op_dp h1) (.cons (op_dp h2) .nil)), rfl, by cases oa <;> cases ob <;> rfl, by
    have e : (!([oD oa, oD ob].any fun z => PyData.eqv z .none)) = (oa.isSome && ob.isSome) := by cases oa <;> cases ob <;> simp [oD, PyData.eqv]
    rw [e]
    exact q⟩
theorem mks_nl {C : Addr} {H H' : Hp} {k : Nat} {ps : List V} {zs : List Q2} (m : Mks C H k ps zs) (s : Nl H H') : Mks C H' k ps zs := ⟨m.len, fun i v z e1 e2 => by
  obtain ⟨p, e, q⟩ := m.all i v z e1 e2
  exact ⟨p, e, q.nl s⟩⟩
theorem LadAt.nl {K : PySem.W.Frag} {CM CL p : Addr} {H H' : Hp} {k : Nat} {zs : List Q2} {r : Str} {lo hi : Option Q2} (a : LadAt K CM CL H p k zs r lo hi) (s : Nl H H') : LadAt K CM CL H' p k zs r lo hi := by
  obtain ⟨⟨dx, T, ps, l, u, h1, h2, h3, h4, h5⟩, a1, a2, a3, a4, a5⟩ := a
  refine ⟨⟨dx, T, ps, l, u, s _ _ h1 rfl, ?_, mks_nl h3 s, QO.nl s h4, QO.nl s h5⟩, a1, a2, a3, a4, a5⟩
  rcases h2 with (h2 | ⟨o, h2⟩) | h2
  · exact .inl (.inl (s _ _ h2 rfl))
  · exact .inl (.inr ⟨o, s _ _ h2 rfl⟩)
  · exact .inr h2
theorem rg_mem {n : Nat} {v : V} (h : v ∈ rgV 0 (n : Int)) : ∃ k : Nat, v = .int k ∧ k < n := by
  unfold rgV at h
  obtain ⟨k, hk, rfl⟩ := List.mem_map.mp h
  have := List.mem_range.mp hk
  exact ⟨k, by rw [Int.zero_add], by omega⟩
theorem ends_gen {tb : TS} {D : Ends} {σ : L2.St} {H : Hp} {I : L2.St → Hp → Prop} (e : D.nx = I) (h : ∀ D' : Ends, D'.nx = I → tb D' σ H) : tb D σ H := h D e
/-! ### what a ladder is drawn from -/
def PoolAt (H : Hp) (P : Addr) : Prop := ∃ ps : List V, H P = some (.lst ps) ∧ ps.length = 8 ∧ ∀ v ∈ ps, PoolP 26391708 H v
theorem PoolAt.ne {H : Hp} {h g P : Addr} {n : Nat} (a : PoolAt H P) (pt : PotAt H h g n) : P ≠ h ∧ P ≠ g := by
  obtain ⟨⟨s, t, e1, _⟩, ⟨gs, e2, _⟩, _⟩ := pt
  obtain ⟨ps, e, l, al⟩ := a
  refine ⟨fun q => ?_, fun q => ?_⟩
  · rw [q, e1] at e
    cases e
    cases l
  · rw [q, e2] at e
    cases e
    cases gs with
    | nil => cases l
    | cons z t =>
      obtain ⟨b, x, e, _⟩ := al (.int z) (by simp)
      cases e
theorem PoolAt.kp {H H' : Hp} {h g P : Addr} {n : Nat} (a : PoolAt H P) (pt : PotAt H h g n) (k : Kp2 h g H H') : PoolAt H' P := by
  have ne := a.ne pt
  obtain ⟨ps, e, l, al⟩ := a
  exact ⟨ps, k _ _ e ne.1 ne.2, l, fun v hv => (al v hv).nl (pt.nl k)⟩
theorem PoolAt.same {H H' : Hp} {P : Addr} (a : PoolAt H P) (s : Same H H') : PoolAt H' P := by
  obtain ⟨ps, e, l, al⟩ := a
  exact ⟨ps, s _ _ e, l, fun v hv => (al v hv).same s⟩
theorem PoolAt.put {H : Hp} {P M : Addr} {u : HO} {vs : List V} (a : PoolAt H P) (e : H M = some (.lst vs)) (n : P ≠ M) : PoolAt (upd H M u) P := by
  obtain ⟨ps, e1, l, al⟩ := a
  exact ⟨ps, by rw [upd_ne n]; exact e1, l, fun v hv => (al v hv).nl (Nl.put e)⟩
def StepAt (H : Hp) (v : V) : Prop := v = .non ∨ PoolP 26391708 H v
theorem StepAt.nl {H H' : Hp} {v : V} (a : StepAt H v) (s : Nl H H') : StepAt H' v := a.imp_right fun q => q.nl s
theorem StepAt.same {H H' : Hp} {v : V} (a : StepAt H v) (s : Same H H') : StepAt H' v := a.imp_right fun q => q.same s
def MkD (H : Hp) (M : Addr) (ms : List Rat) : Prop := ∃ vs : List V, H M = some (.lst vs) ∧ RsV H vs ms ∧ (∀ (i : Nat) (a b : Rat), ms[i]? = some a → ms[i + 1]? = some b → a < b) ∧ ∀ (i : Nat) (x : Rat), ms[i]? = some x → WhM x ((4 + 3 * i) * 8797236)
theorem MkD.same {H H' : Hp} {M : Addr} {ms : List Rat} (a : MkD H M ms) (s : Same H H') : MkD H' M ms := by
  obtain ⟨vs, e, r, b⟩ := a
  exact ⟨vs, s _ _ e, r.same s, b⟩
theorem MkD.kp {H H' : Hp} {h g M : Addr} {n : Nat} {ms : List Rat} (a : MkD H M ms) (l : 0 < ms.length) (pt : PotAt H h g n) (k : Kp2 h g H H') : MkD H' M ms := by
  obtain ⟨vs, e, r, b⟩ := a
  have ne := rsv_ne pt e r l
  exact ⟨vs, k _ _ e ne.1 ne.2, r.nl (pt.nl k), b⟩
theorem MkD.put {H : Hp} {M E : Addr} {u : HO} {vs : List V} {ms : List Rat} (a : MkD H M ms) (e : H E = some (.lst vs)) (n : M ≠ E) : MkD (upd H E u) M ms := by
  obtain ⟨ws, e1, r, b⟩ := a
  exact ⟨ws, by rw [upd_ne n]; exact e1, r.nl (Nl.put e), b⟩
theorem MkD.snoc {H : Hp} {M c : Addr} {vs : List V} {ms : List Rat} {x y : Rat} (e : H M = some (.lst vs)) (r : RsV H vs ms) (ri : ∀ (i : Nat) (a b : Rat), ms[i]? = some a → ms[i + 1]? = some b → a < b) (wh : ∀ (i : Nat) (x : Rat), ms[i]? = some x → WhM x ((4 + 3 * i) * 8797236)) {i : Nat} (li : ms.length = i + 1) (hx : ms[i]? = some x) (y0 : 0 < y) (wy : WhM y 26391708) (hc : H c = some (PR (x + y))) : MkD (upd H M (.lst (vs ++ [.ref c]))) M (ms ++ [x + y]) := by
  have nl : Nl H (upd H M (.lst (vs ++ [.ref c]))) := Nl.put e
  have lv : vs.length = i + 1 := by rw [r.1, li]
  refine ⟨vs ++ [.ref c], upd_same, ⟨by rw [List.length_append, List.length_append, r.1]; rfl, fun j z hz => ?_⟩, fun j a b h1 h2 => ?_, fun j z hz => ?_⟩
  · by_cases hj : j < ms.length
    · rw [List.getElem?_append_left hj] at hz
      obtain ⟨d, e1, e2⟩ := r.2 j z hz
      exact ⟨d, by rw [List.getElem?_append_left (by omega)]; exact e1, nl _ _ e2 rfl⟩
    · have hj2 : j = i + 1 := by
        have := (List.getElem?_eq_some_iff.mp hz).1
        rw [List.length_append, List.length_singleton] at this
        omega
      subst hj2
      rw [List.getElem?_append_right (by omega), li, Nat.sub_self] at hz
      cases hz
      exact ⟨c, by rw [List.getElem?_append_right (by omega), lv, Nat.sub_self]; rfl, nl _ _ hc rfl⟩
  · by_cases hj : j + 1 < ms.length
    · rw [List.getElem?_append_left (by omega)] at h1
      rw [List.getElem?_append_left hj] at h2
      exact ri j a b h1 h2
    · have hj2 : j = i := by
        have := (List.getElem?_eq_some_iff.mp h2).1
        rw [List.length_append, List.length_singleton] at this
        omega
      subst hj2
      rw [List.getElem?_append_left (by omega), hx] at h1
      rw [List.getElem?_append_right (by omega), li, Nat.sub_self] at h2
      cases h1
      cases h2
      grind
  · by_cases hj : j < ms.length
    · rw [List.getElem?_append_left hj] at hz
      exact wh j z hz
    · have hj2 : j = i + 1 := by
        have := (List.getElem?_eq_some_iff.mp hz).1
        rw [List.length_append, List.length_singleton] at this
        omega
      subst hj2
      rw [List.getElem?_append_right (by omega), li, Nat.sub_self] at hz
      cases hz
      exact ((wh i x hx).add wy).mono (by omega)
/-- an end, or none -/
def ElV (H : Hp) (v : V) : Prop := v = .non ∨ ∃ (a : Addr) (x : Rat), v = .ref a ∧ H a = some (PR x) ∧ SzR 34 x
theorem ElV.nl {H H' : Hp} {v : V} (a : ElV H v) (s : Nl H H') : ElV H' v := a.imp_right fun ⟨b, x, e, e2, z⟩ => ⟨b, x, e, s _ _ e2 rfl, z⟩
theorem ElV.op {H : Hp} {v : V} (a : ElV H v) : ∃ o, OP H v o ∧ ZzO 34 o := by
  rcases a with rfl | ⟨b, x, rfl, e, z⟩
  · exact ⟨none, rfl, fun _ e => by cases e⟩
  · exact ⟨some x, ⟨b, rfl, e⟩, fun _ e => by cases e; exact z⟩
end My
/-! ### zip of a tuple and a list -/
namespace My
open PySem PySem.Spec PyProof.Rows L2
end My
namespace My
open PySem PySem.Spec PyProof.Rows L2
/-! ### max(xs, key=f), f a def of one's own that tells a whole number of each -/
section
variable {X : Cx} {n : Nat} {f : Addr} {fd : FuncData} {ps : List Str} {sp : Sp}
end
end My
namespace My
open PySem PySem.Spec PyProof.Rows L2
/-! ### d.update(o), sorted(d): dicts of whole numbers -/
section
variable {prog : Program} {w : World} {A : Around} {E : Value → Shared → Prop} {s : Shared} {K : Type} [DecidableEq K] {knd : KeyKind prog w K} {d : Addr} {kvs : List (K × Value)} {ep : Nat}
end
end My
namespace My
open PySem PySem.Spec PyProof.Rows L2
/-! ### measures at all ends, between and beyond: they meet all that is met -/
/-- where a number lies among rising ones -/
theorem lies : ∀ {l : List Rat}, l.Pairwise (· < ·) → ∀ x : Rat, x ∈ l ∨ (∃ (i : Nat) (a b : Rat), l[i]? = some a ∧ l[i + 1]? = some b ∧ a < x ∧ x < b) ∨ (∀ e ∈ l, x < e) ∨ ∀ e ∈ l, e < x
  | [], _, x => .inr (.inr (.inl fun e h => by simp at h))
  | a :: t, h, x => by
    obtain ⟨h1, h2⟩ := List.pairwise_cons.mp h
    by_cases c : x < a
    · refine .inr (.inr (.inl fun e he => ?_))
      rcases List.mem_cons.mp he with rfl | he
      · exact c
      · have := h1 e he
        grind
    by_cases c2 : x = a
    · exact .inl (by rw [c2]; exact List.mem_cons_self)
    have c3 : a < x := by grind
    rcases lies h2 x with q | ⟨i, b, d, e1, e2, r⟩ | q | q
    · exact .inl (List.mem_cons_of_mem _ q)
    · exact .inr (.inl ⟨i + 1, b, d, by simpa using e1, by simpa using e2, r⟩)
    · cases t with
      | nil => exact .inr (.inr (.inr fun e he => by
          cases List.mem_singleton.mp he
          exact c3))
      | cons b t => exact .inr (.inl ⟨0, a, b, rfl, rfl, c3, q b List.mem_cons_self⟩)
    · refine .inr (.inr (.inr fun e he => ?_))
      rcases List.mem_cons.mp he with rfl | he
      · exact c3
      · exact q e he
/-! ### put in one by one, rising -/
theorem RsV.take {H : Hp} {vs : List V} {ms : List Rat} (a : RsV H vs ms) (n : Nat) : RsV H (vs.take n) (ms.take n) := by
  refine ⟨by rw [List.length_take, List.length_take, a.1], fun i x e => ?_⟩
  rw [List.getElem?_take] at e
  split at e
  · obtain ⟨p, e1, e2⟩ := a.2 i x e
    exact ⟨p, by rw [List.getElem?_take, if_pos (by assumption)]; exact e1, e2⟩
  · cases e
theorem RsV.drop {H : Hp} {vs : List V} {ms : List Rat} (a : RsV H vs ms) (n : Nat) : RsV H (vs.drop n) (ms.drop n) := by
  refine ⟨by rw [List.length_drop, List.length_drop, a.1], fun i x e => ?_⟩
  rw [List.getElem?_drop] at e
  obtain ⟨p, e1, e2⟩ := a.2 _ x e
  exact ⟨p, by rw [List.getElem?_drop]; exact e1, e2⟩
theorem RsV.one {H : Hp} {a : Addr} {q : Rat} (h : H a = some (PR q)) : RsV H [.ref a] [q] := ⟨rfl, fun i x e => by
  cases i with
  | zero => cases e; exact ⟨a, rfl, h⟩
  | succ i => simp at e⟩
theorem RsV.none {H : Hp} : RsV H [] [] := ⟨rfl, fun i x e => by simp at e⟩
theorem RsV.dp {K : PySem.W.Frag} {H : Hp} {D : Addr} {vs : List V} {ms : List Rat} (hD : H D = some (.lst vs)) (r : RsV H vs ms) : Dp K H (.ref D) (.list (ms.map fun q => intsD [q.num, (q.den : Int)])) := by
  refine .lst (SqL.of hD) (dpAll_of (fun q : Rat => intsD [q.num, (q.den : Int)]) r.1 fun i v q e1 e2 => ?_)
  obtain ⟨a, g1, g2⟩ := r.2 i q e2
  rw [e1] at g1
  cases g1
  exact dpT (zs := [q.num, (q.den : Int)]) g2
end My
namespace My
open PySem PySem.Spec PyProof.Rows L2
/-! ### d[k] = v, sorted(xs) with K by name -/
end My
namespace My
open PySem PySem.Spec PyProof.Rows L2
/-! ### d.setdefault(k, v), d.get(k, v) with the room by name -/
end My
namespace My
open PySem PySem.Spec PyProof.Rows L2
/-! ### a comprehension that makes lists -/
/-- all but D stays -/
def Kx (D : Addr) (H H' : Hp) : Prop := ∀ c o, H c = some o → c ≠ D → H' c = some o
theorem Kx.of {D : Addr} {H H' : Hp} (s : Same H H') : Kx D H H' := fun c o e _ => s c o e
theorem Kx.put {D : Addr} {H : Hp} {u : HO} : Kx D H (upd H D u) := fun c o e n => by rw [upd_ne n]; exact e
theorem Kx.trans {D : Addr} {H H' H'' : Hp} (a : Kx D H H') (b : Kx D H' H'') : Kx D H H'' := fun c o e n => b _ _ (a _ _ e n) n
section
variable {J : It} {n : Nat} {G : Hp → Prop} {Y : Nat → Hp → V → Hp → Prop} {g : TG} {tt : TT} {te : TE} {vs : List Nat} {σ : L2.St} {H1 : Hp} {D : Addr} {Qd : Hp → Prop}
end
end My
namespace My
open PySem PySem.Spec PyProof.Rows L2 NdefX
/-! ### isinstance(e, ..) in a suite, e an error with or without values of its own -/
def DctX (H : Hp) (d : Option Addr) : Prop := d = none ∨ ∃ dd fs, d = some dd ∧ H dd = some (.xd fs)
theorem inst_suite {X : Cx} {pins : List (Addr × Obj)} {σ : L2.St} {s : Shared} {H : Hp} {a D : Addr} {d : Option Addr} {oe : Obj} {pn : List (Addr × Obj)} (I : L2.Inv (X.suite a ((a, oe) :: pn)) pins σ H s) (hz : Zc (.ref D) d oe) (hf : ∃ vs, oe.data = .fields vs) (x : DctX H d) : ∃ od, PySem.W.InstAt s.heap a oe D od := by
  obtain ⟨hget, _⟩ := I.pin (a, oe) (List.mem_append.mpr (.inl List.mem_cons_self))
  obtain ⟨vs, hv⟩ := hf
  rcases x with rfl | ⟨dd, fs, rfl, ed⟩
  · exact ⟨none, hget, hz.1, by unfold PySem.W.notCls; rw [hv] <;> rfl, by rw [hz.2]; trivial⟩
  · have hx : ObjOk X.prog X.w H s.heap dd (.xd fs) := I.hok dd _ ed
    obtain ⟨mA, hns, hr⟩ := hx
    obtain ⟨od, ho, hl⟩ := lookIn_ns hns
    exact ⟨some od, hget, hz.1, by unfold PySem.W.notCls; rw [hv] <;> rfl, by rw [hz.2]; exact ho⟩
def rIsY (K : PySem.W.Frag) (cls : Value) (d : Option Addr) (a : Addr) : List V → Hp → VK → Prop := fun xs H Q => ∃ D, cls = .ref D ∧ DctX H d ∧ ExcC K D ∧ rIsE K D a xs H Q
theorem isY {X : Cx} {K : PySem.W.Frag} {a : Addr} {cls : Value} {d : Option Addr} {oe : Obj} {pn : List (Addr × Obj)} (hz : Zc cls d oe) (hf : ∃ vs, oe.data = .fields vs) (hK : X.K = K := by rfl) : CallR (X.suite a ((a, oe) :: pn)) (.builtin "isinstance") (rIsY K cls d a) := by
  subst hK
  intro pins s σ H xs us Q I r h
  obtain ⟨D, rfl, x, C, c, cv, b, rfl, hcv, e, q⟩ := h
  obtain ⟨u1, u2, rfl, r1, r2⟩ := vals2 r
  cases (show u1 = Value.ref a from r1)
  have ec := hcv _ r2
  subst ec
  obtain ⟨od, J⟩ := inst_suite I hz hf x
  exact PySem.W.kia_one (PySem.W.kitx_err C.hg C.hk C.hs C.hd C.ha C.hn C.ht C.hm) I.kIn J e (fun z => nomatch z) fun tk => ⟨.bl b, H, I.kept (t' := tk) fun _ _ z => z, rfl, q⟩
def rIsYT (K : PySem.W.Frag) (cls : Value) (d : Option Addr) (a : Addr) : List V → Hp → VK → Prop := fun xs H Q => ∃ (D tp : Addr) (cs : List V) (us : List Value) (b : Bool), cls = .ref D ∧ DctX H d ∧ ExcC K D ∧ xs = [.ref a, .ref tp] ∧ H tp = some (.tup cs) ∧ Paired ClsV cs us ∧ PySem.W.kitAny K (.ref D) us = some b ∧ Q (.bl b) H
theorem isYT {X : Cx} {K : PySem.W.Frag} {a : Addr} {cls : Value} {d : Option Addr} {oe : Obj} {pn : List (Addr × Obj)} (hz : Zc cls d oe) (hf : ∃ vs, oe.data = .fields vs) (hK : X.K = K := by rfl) : CallR (X.suite a ((a, oe) :: pn)) (.builtin "isinstance") (rIsYT K cls d a) := by
  subst hK
  intro pins s σ H xs us Q I r h
  obtain ⟨D, tp, cs, ws, b, rfl, x, C, rfl, hT, kk, e, q⟩ := h
  obtain ⟨u1, u2, rfl, r1, r2⟩ := vals2 r
  cases (show u1 = Value.ref a from r1)
  cases (show u2 = Value.ref tp from r2)
  obtain ⟨od, J⟩ := inst_suite I hz hf x
  obtain ⟨_, its, rv, o, h1, h2, n, h3⟩ := (show ObjOk X.prog X.w H s.heap tp (.tup cs) from I.hok tp _ hT)
  have e3 := ClsV.all kk rv
  subst e3
  obtain ⟨oc, od', dt, sl⟩ := o
  simp only at h2 h3
  subst h2 h3
  exact PySem.W.kia_tup (PySem.W.kitx_err C.hg C.hk C.hs C.hd C.ha C.hn C.ht C.hm) I.kIn J h1 e (fun z => nomatch z) fun tk => ⟨.bl b, H, I.kept (t' := tk) fun _ _ z => z, rfl, q⟩
end My
namespace K26
open PySem PySem.Spec PyProof.Rows L2 My
local macro_rules | `(tactic| walk_at "c") => `(tactic| first | exact Eq.refl _ | ((with_reducible show (_ : Int) ≤ _); omega) | ((with_reducible show (_ : Int) < _); omega) | ((with_reducible show (_ : Nat) ≤ _); omega) | ((with_reducible show (_ : Nat) < _); omega) | assumption | with_reducible exact lf_marks _ _ _ _ | with_reducible exact lf_rule _ _ _ _ | with_reducible exact lf_least _ _ _ _ | with_reducible exact lf_most _ _ _ _ | with_reducible exact mf_top _ _ | with_reducible exact mf_bottom _ _ | with_reducible exact sf_low _ _ _ _ | with_reducible exact sf_high _ _ _ _ | with_reducible exact sf_low_in _ _ _ _ | with_reducible exact sf_high_in _ _ _ _ | exact SqL.of (by assumption) | exact SqT.of (by assumption) | exact Or.inl (SqL.of (by assumption)) | exact Or.inr (SqT.of (by assumption)) | exact Or.inr (by assumption) | exact Or.inl (by assumption) | omega | exact atI_nat (by assumption) | exact atI_of (n := 0) rfl (by assumption) | exact logS (by omega) | exact Or.inl (Or.inl ⟨by omega, by omega⟩) | exact Or.inl (Or.inr ⟨by omega, by omega⟩) | exact szb rfl | exact szs (by omega) | exact szl (by omega) | exact Or.inl ⟨Eq.refl _, _, SqL.of (by assumption)⟩ | exact ⟨_, SqT.of (by assumption)⟩ | exact ⟨_, SqL.of (by assumption)⟩ | exact ⟨by omega, by omega, by omega, by omega⟩)
local macro_rules | `(tactic| walk_at "e") => `(tactic| first | rfl | exact ⟨rfl, rfl⟩ | exact ⟨rfl, rfl, rfl⟩ | assumption | exact trivial)
local macro_rules | `(tactic| walk_at "w1") => `(tactic| first
  | refine q_belowT (by assumption) (by assumption) (by omega) (by omega) ?_ | refine q_belowA (by assumption) (by assumption) (by omega) (by omega) ?_ | refine q_subT (by assumption) (by assumption) (by omega) (by omega) (by omega) ?_
  | refine meth_q (by assumption) (by decide +kernel) (by decide +kernel) ?_ | refine meth_l (by assumption) (by decide +kernel) (by decide +kernel) (by decide +kernel) (by decide +kernel) ?_ | refine meth_s (by assumption) (by decide +kernel) (by decide +kernel) (by decide +kernel) (by decide +kernel) ?_
  | apply @Exists.intro V | apply @Exists.intro Int | apply @Exists.intro Addr | apply @Exists.intro Bool | apply @Exists.intro (List V) | apply @Exists.intro Str | apply @Exists.intro Nat | apply @Exists.intro (List (Str × V))
  | refine And.intro (by walk_at "c") ?_ | refine iteT ?_ | refine iteF ?_ | refine iteDT (by omega) ?_ | refine iteDF (by omega) ?_ | refine iteNS (by omega) ?_ | refine iteNT (by omega) ?_)
local macro_rules | `(tactic| walk_at "w") => `(tactic| repeat (walk_at "w1"))
local macro_rules | `(tactic| walk_at "wa1") => `(tactic| first | refine q_addT (by assumption) (by assumption) (by omega) (by omega) (by omega) ?_ | refine q_mulT (by assumption) (by assumption) (by omega) (by omega) (by omega) ?_ | walk_at "w1")
local macro_rules | `(tactic| walk_at "wa") => `(tactic| repeat (walk_at "wa1"))
local macro_rules | `(tactic| walk_at "hand") => `(tactic| first | assumption | exact HandAt.up (by walk_at "hand") (by assumption))
local macro_rules | `(tactic| walk_at "hp") => `(tactic| first | assumption | exact upd_same | exact up1 (by assumption) (by walk_at "hp") | exact Kp.get (by assumption) (by walk_at "hand") (by walk_at "hp") (by rfl) | exact L2.Same.get (by assumption) (by walk_at "hp") | exact up2 (by assumption) (by walk_at "hp") (by rfl))
local macro_rules | `(tactic| walk_at "fc") => `(tactic| first | (with_reducible apply eq_id; apply Eq.refl) | (with_reducible apply ile_id; omega) | (with_reducible apply ilt_id; omega) | (with_reducible apply nle_id; omega) | (with_reducible apply nlt_id; omega) | assumption | (apply Eq.refl; done) | with_reducible exact lf_marks _ _ _ _ | with_reducible exact lf_rule _ _ _ _ | with_reducible exact lf_least _ _ _ _ | with_reducible exact lf_most _ _ _ _ | with_reducible exact mf_top _ _ | with_reducible exact mf_bottom _ _ | with_reducible exact sf_low _ _ _ _ | with_reducible exact sf_high _ _ _ _ | with_reducible exact sf_low_in _ _ _ _ | with_reducible exact sf_high_in _ _ _ _ | exact SqL.of (by assumption) | exact SqT.of (by assumption) | exact Or.inl (SqL.of (by assumption)) | exact Or.inr (SqT.of (by assumption)) | exact Or.inr (by assumption) | exact Or.inl (by assumption) | omega | exact atI_nat (by assumption) | exact atI_of (n := 0) rfl (by assumption) | exact logS (by omega) | exact Or.inl (Or.inl ⟨by omega, by omega⟩) | exact Or.inl (Or.inr ⟨by omega, by omega⟩) | exact szb rfl | exact szs (by omega) | exact szl (by omega) | exact Or.inl ⟨Eq.refl _, _, SqL.of (by assumption)⟩ | exact ⟨_, SqT.of (by assumption)⟩ | exact ⟨_, SqL.of (by assumption)⟩ | exact ⟨by omega, by omega, by omega, by omega⟩)
local macro_rules | `(tactic| walk_at "f1") => `(tactic| first
  | refine q_belowT (by assumption) (by assumption) (by omega) (by omega) ?_ | refine q_belowA (by assumption) (by assumption) (by omega) (by omega) ?_ | refine q_subT (by assumption) (by assumption) (by omega) (by omega) (by omega) ?_
  | refine meth_q (by assumption) (by decide +kernel) (by decide +kernel) ?_ | refine meth_l (by assumption) (by decide +kernel) (by decide +kernel) (by decide +kernel) (by decide +kernel) ?_ | refine meth_s (by assumption) (by decide +kernel) (by decide +kernel) (by decide +kernel) (by decide +kernel) ?_
  | apply @Exists.intro V | apply @Exists.intro Int | apply @Exists.intro Addr | apply @Exists.intro Bool | apply @Exists.intro (List V) | apply @Exists.intro Str | apply @Exists.intro Nat | apply @Exists.intro (List (Str × V))
  | (apply And.intro; (focus (walk_at "fc"))) | (with_reducible apply iteT) | (with_reducible apply iteF) | refine iteDT (by omega) ?_ | refine iteDF (by omega) ?_ | refine iteNS (by omega) ?_ | refine iteNT (by omega) ?_)
local macro_rules | `(tactic| walk_at "f") => `(tactic| repeat (walk_at "f1"))


def someQ (lo hi : Option Q2) (li hj : Bool) : Q2 := if li = true then lo.getD (0, 1) else if hj = true then hi.getD (0, 1) else match lo, hi with
  | none, none => (0, 1)
  | none, some b => qsub b (1, 1)
  | some a, none => qadd a (1, 1)
  | some a, some b => qprt (qadd a b) 2
def shQ (m1 m2 n1 n2 : Option Q2) (i1 i2 j1 j2 : Bool) : Q2 := someQ (cutLo m1 i1 n1 j1).1 (cutHi m2 i2 n2 j2).1 ((cutLo m1 i1 n1 j1).2 && (cutLo m1 i1 n1 j1).1.isSome) ((cutHi m2 i2 n2 j2).2 && (cutHi m2 i2 n2 j2).1.isSome)
def sp_some26 (CM CS : Addr) : Sp := fun vs H Q _ => ∃ (p : Addr) (k : Nat) (lo hi : Option Q2) (li hj : Bool), vs = [.ref p] ∧ StAt CM CS H p lo hi li hj ∧ SzE k lo ∧ SzE k hi ∧ someB lo hi li hj = true ∧ 0 < k ∧ k ≤ 2000 ∧
  ∀ (r : Addr) (z : Q2) (H' : Hp), Same H H' → QAt CM H' r (k + k + 12) z → z = someQ lo hi li hj → loIn lo li z = true → hiIn hi hj z = true → Q (.ref r) H'
def ShW (CM : Addr) (H : Hp) (k : Nat) (v : V) (m1 m2 n1 n2 : Option Q2) (i1 i2 j1 j2 : Bool) : Prop :=
  (∃ (r : Addr) (z : Q2), v = .ref r ∧ QAt CM H r k z ∧ z = shQ m1 m2 n1 n2 i1 i2 j1 j2 ∧ loIn m1 i1 z = true ∧ hiIn m2 i2 z = true ∧ loIn n1 j1 z = true ∧ hiIn n2 j2 z = true) ∨
  (someB (cutLo m1 i1 n1 j1).1 (cutHi m2 i2 n2 j2).1 (cutLo m1 i1 n1 j1).2 (cutHi m2 i2 n2 j2).2 = false ∧ v = .non)
def sp_sh26 (CM CS : Addr) : Sp := fun vs H Q _ => ∃ (p q : Addr) (k : Nat) (m1 m2 n1 n2 : Option Q2) (i1 i2 j1 j2 : Bool), vs = [.ref p, .ref q] ∧ StAt CM CS H p m1 m2 i1 i2 ∧ StAt CM CS H q n1 n2 j1 j2 ∧ SzE k m1 ∧ SzE k m2 ∧ SzE k n1 ∧ SzE k n2 ∧ 0 < k ∧ k ≤ 2000 ∧
  ∀ (v : V) (H' : Hp), Same H H' → ShW CM H' (k + k + 12) v m1 m2 n1 n2 i1 i2 j1 j2 → Q v H'
/-- the very measure that two sizes tell -/
def ComZ (zs zt : List Q2) (r rt : Str) (lo hi lt ht : Option Q2) (a b : Nat) (z : Q2) : Prop := ∃ m1 m2 n1 n2, LowO m1 ∧ LowO m2 ∧ LowO n1 ∧ LowO n2 ∧ ReO m1 (sizE zs r lo hi a).1.1 ∧ ReO m2 (sizE zs r lo hi a).2.1 ∧ ReO n1 (sizE zt rt lt ht b).1.1 ∧ ReO n2 (sizE zt rt lt ht b).2.1 ∧
  z = shQ m1 m2 n1 n2 ((sizE zs r lo hi a).1.2 && (sizE zs r lo hi a).1.1.isSome) ((sizE zs r lo hi a).2.2 && (sizE zs r lo hi a).2.1.isSome) ((sizE zt rt lt ht b).1.2 && (sizE zt rt lt ht b).1.1.isSome) ((sizE zt rt lt ht b).2.2 && (sizE zt rt lt ht b).2.1.isSome)
theorem low_uniq {m m' e : Option Q2} (l : LowO m) (l' : LowO m') (r : ReO m e) (r' : ReO m' e) : m = m' := by
  cases e with
  | none =>
    cases m with
    | none =>
      cases m' with
      | none => rfl
      | some _ => exact r'.elim
    | some _ => exact r.elim
  | some e =>
    cases m with
    | none => exact r.elim
    | some a =>
      cases m' with
      | none => exact r'.elim
      | some b => exact congrArg some (low_eq l l' (Re.trans r (Re.symm r')).2.2)
theorem ComZ.uniq {zs zt : List Q2} {r rt : Str} {lo hi lt ht : Option Q2} {a b : Nat} {z z' : Q2} (h : ComZ zs zt r rt lo hi lt ht a b z) (h' : ComZ zs zt r rt lo hi lt ht a b z') : z = z' := by
  obtain ⟨m1, m2, n1, n2, a1, a2, a3, a4, b1, b2, b3, b4, e⟩ := h
  obtain ⟨m1', m2', n1', n2', a1', a2', a3', a4', b1', b2', b3', b4', e'⟩ := h'
  rw [e, e', low_uniq a1 a1' b1 b1', low_uniq a2 a2' b2 b2', low_uniq a3 a3' b3 b3', low_uniq a4 a4' b4 b4']
def MetW (CM : Addr) (H : Hp) (k : Nat) (v : V) (zs zt : List Q2) (r rt : Str) (lo hi lt ht : Option Q2) (a b : Nat) : Prop :=
  (∃ (t : Addr) (z : Q2), v = .ref t ∧ QAt CM H t k z ∧ sizF zs r lo hi (toR z) = some a ∧ sizF zt rt lt ht (toR z) = some b ∧ ComZ zs zt r rt lo hi lt ht a b z) ∨ (v = .non ∧ ∀ x, sizF zs r lo hi x = some a → sizF zt rt lt ht x = some b → False)
section
variable {CM : Addr} {H H' : Hp} {k : Nat} {v : V} {zs zt : List Q2} {r rt : Str} {lo hi lt ht : Option Q2} {a b : Nat} {m1 m2 n1 n2 : Option Q2}
theorem MetW.met (m : MetW CM H k v zs zt r rt lo hi lt ht a b) : MetV CM H k v (sizF zs r lo hi) (sizF zt rt lt ht) a b := by
  rcases m with ⟨t, z, e, q, f, g, _⟩ | m
  · exact .inl ⟨t, z, e, q, f, g⟩
  · exact .inr m
theorem MetW.nl (m : MetW CM H k v zs zt r rt lo hi lt ht a b) (s : Nl H H') : MetW CM H' k v zs zt r rt lo hi lt ht a b := by
  rcases m with ⟨t, z, e, q, h⟩ | m
  · exact .inl ⟨t, z, e, q.nl s, h⟩
  · exact .inr m
theorem met_ofW (L : LadQ zs r lo hi) (M : LadQ zt rt lt ht) (ha : a < zs.length) (hb : b < zt.length) (p1 : LowO m1) (p2 : LowO m2) (q1 : LowO n1) (q2 : LowO n2)
    (r1 : ReO m1 (sizE zs r lo hi a).1.1) (r2 : ReO m2 (sizE zs r lo hi a).2.1) (s1 : ReO n1 (sizE zt rt lt ht b).1.1) (s2 : ReO n2 (sizE zt rt lt ht b).2.1)
    (h : ShW CM H k v m1 m2 n1 n2 ((sizE zs r lo hi a).1.2 && (sizE zs r lo hi a).1.1.isSome) ((sizE zs r lo hi a).2.2 && (sizE zs r lo hi a).2.1.isSome) ((sizE zt rt lt ht b).1.2 && (sizE zt rt lt ht b).1.1.isSome) ((sizE zt rt lt ht b).2.2 && (sizE zt rt lt ht b).2.1.isSome)) :
    MetW CM H k v zs zt r rt lo hi lt ht a b := by
  rcases h with ⟨t, z, e, q, ez, h1, h2, h3, h4⟩ | ⟨e, rfl⟩
  · exact .inl ⟨t, z, e, q, (in_raw L ha r1 r2 q.pos).mp ⟨h1, h2⟩, (in_raw M hb s1 s2 q.pos).mp ⟨h3, h4⟩, m1, m2, n1, n2, p1, p2, q1, q2, r1, r2, s1, s2, ez⟩
  · rcases met_of (CM := CM) (H := H) (k := k) (v := .non) L M ha hb p1.posO p2.posO q1.posO q2.posO r1 r2 s1 s2 (.inr ⟨e, rfl⟩) with ⟨_, _, e2, _⟩ | g
    · cases e2
    · exact .inr g
end
theorem qat_same {CM p : Addr} {H : Hp} {k j : Nat} {z z' : Q2} (h : QAt CM H p k z) (h' : QAt CM H p j z') (l : k ≤ 4000) (l' : j ≤ 4000) : toR z = toR z' := by
  obtain ⟨a, m, lw, re⟩ := h.low l
  obtain ⟨a', m', lw', re'⟩ := h'.low l'
  obtain ⟨e1, e2⟩ := m.uniq m'
  have e : a = a' := Prod.ext e1 e2
  subst e
  exact re_R (Re.trans (Re.symm re) re')
def sp_shby26 (CM CS : Addr) : Sp := fun vs H Q _ => ∃ (v w : V) (k : Nat) (zs zt : List Q2) (r rt : Str) (lo hi lt ht : Option Q2) (a b : Nat), vs = [v, w] ∧ RunV CM CS H v zs r lo hi a ∧ RunV CM CS H w zt rt lt ht b ∧ LadQ zs r lo hi ∧ LadQ zt rt lt ht ∧ a < zs.length ∧ b < zt.length ∧ SzE k (sizE zs r lo hi a).1.1 ∧ SzE k (sizE zs r lo hi a).2.1 ∧ SzE k (sizE zt rt lt ht b).1.1 ∧ SzE k (sizE zt rt lt ht b).2.1 ∧ 0 < k ∧ k ≤ 2000 ∧
  ∀ (u : V) (H' : Hp), Same H H' → MetW CM H' (k + k + 12) u zs zt r rt lo hi lt ht a b → Q u H'
def sp_common26 (K : PySem.W.Frag) (CM CL : Addr) : Sp := fun vs H Q _ => ∃ (p q : Addr) (k : Nat) (zs zt : List Q2) (r rt : Str) (lo hi lt ht : Option Q2) (a : Nat), vs = [.ref p, .int a, .ref q] ∧ LadAt K CM CL H p k zs r lo hi ∧ LadAt K CM CL H q k zt rt lt ht ∧ a < zs.length ∧ 0 < k ∧ k ≤ 900 ∧
  ∀ (D : Addr) (us : List V) (H' : Hp), Same H H' → H' D = some (.lst us) → us.length = zt.length → (∀ (b : Nat) (u : V), us[b]? = some u → MetW CM H' (4 * k + 36) u zs zt r rt lo hi lt ht a b) → Q (.ref D) H'

theorem raw_sze {CM : Addr} {H : Hp} {v : V} {m e : Option Q2} {k : Nat} (a : MsV CM H v m) (l : LowO m) (r : ReO m e) (s : SzE k e) : SzE k m := by
  have q := qo_of a l r s
  cases m with
  | none => trivial
  | some m =>
    cases e with
    | none => exact r.elim
    | some e =>
      obtain ⟨p, rfl, ma⟩ := a
      obtain ⟨p', ep, qq⟩ := q
      cases ep
      obtain ⟨t, u, mt, fr⟩ := id qq.ob
      obtain ⟨e1, e2⟩ := ma.uniq mt
      have h1 := qq.s1.le fr.lt
      have h2 := qq.s2.le fr.lu
      rw [← e1] at h1
      rw [← e2] at h2
      exact ⟨h1, h2⟩
theorem none_met {zs : List Q2} {r : Str} {lo hi : Option Q2} {a : Nat} (L : LadQ zs r lo hi) (ha : a < zs.length) (h : sizB zs r lo hi a = false) {x : Rat} (f : sizF zs r lo hi x = some a) : False := by
  have := (siz_some (n := a) L).mpr ⟨ofR x, ofR_pos x, (siz_in L (ofR_pos x) ha).mpr f⟩
  rw [h] at this
  cases this

theorem idx_first {n : Nat} {c : Nat → Bool} (ne : idx n c ≠ []) : ∃ i : Nat, (idx n c)[0]? = some (i : Int) ∧ i < n ∧ c i = true ∧ ∀ j, j < n → c j = true → i ≤ j := by
  have l0 := List.length_pos_iff.mpr ne
  have h0 : (idx n c)[0]? = some (idx n c)[0] := List.getElem?_eq_getElem l0
  obtain ⟨i, hi, ci, e⟩ := idx_mem.mp (List.mem_of_getElem? h0)
  refine ⟨i, by rw [h0, e], hi, ci, fun j hj cj => ?_⟩
  obtain ⟨q, hq, eq⟩ := List.mem_iff_getElem.mp (idx_mem.mpr ⟨j, hj, cj, rfl⟩)
  by_cases z : q = 0
  · subst z
    omega
  · have := List.pairwise_iff_getElem.mp (idx_sorted (n := n) (c := c)) 0 q l0 hq (by omega)
    omega
theorem idx_last {n : Nat} {c : Nat → Bool} (ne : idx n c ≠ []) : ∃ i : Nat, (idx n c)[(idx n c).length - 1]? = some (i : Int) ∧ i < n ∧ c i = true ∧ ∀ j, j < n → c j = true → j ≤ i := by
  have l0 := List.length_pos_iff.mpr ne
  have l1 : (idx n c).length - 1 < (idx n c).length := by omega
  have h0 : (idx n c)[(idx n c).length - 1]? = some (idx n c)[(idx n c).length - 1] := List.getElem?_eq_getElem l1
  obtain ⟨i, hi, ci, e⟩ := idx_mem.mp (List.mem_of_getElem? h0)
  refine ⟨i, by rw [h0, e], hi, ci, fun j hj cj => ?_⟩
  obtain ⟨q, hq, eq⟩ := List.mem_iff_getElem.mp (idx_mem.mpr ⟨j, hj, cj, rfl⟩)
  by_cases z : q = (idx n c).length - 1
  · subst z
    omega
  · have := List.pairwise_iff_getElem.mp (idx_sorted (n := n) (c := c)) q _ hq l1 (by omega)
    omega
/-- what led answers -/
def LedV (H : Hp) (v : V) : Option (Nat × Nat) → Prop
  | none => v = .non
  | some (c, d) => ∃ T : Addr, v = .ref T ∧ H T = some (.tup [.int c, .int d])
def metC (us : List V) (i : Nat) : Bool := match us[i]? with | some u => !decide (u = V.non) | none => false
theorem metC_at {us : List V} {i : Nat} {u : V} (h : us[i]? = some u) : metC us i = !decide (u = V.non) := by unfold metC; rw [h]
def sp_led (K : PySem.W.Frag) (CM CL : Addr) : Sp := fun vs H Q _ => ∃ (p q : Addr) (k : Nat) (zs zt : List Q2) (r rt : Str) (lo hi lt ht : Option Q2) (a : Nat), vs = [.ref p, .int a, .ref q] ∧ LadAt K CM CL H p k zs r lo hi ∧ LadAt K CM CL H q k zt rt lt ht ∧ a < zs.length ∧ 0 < k ∧ k ≤ 900 ∧
  ∀ (v : V) (u : Option (Nat × Nat)) (H' : Hp), Same H H' → LedV H' v u → LedS (sizF zs r lo hi) (sizF zt rt lt ht) a zt.length u → Q v H'
theorem met_non {CM : Addr} {H : Hp} {k : Nat} {v : V} {F G : Rat → Option Nat} {a b : Nat} (m : MetV CM H k v F G a b) : (!decide (v = V.non)) = true ↔ ∃ x, F x = some a ∧ G x = some b := by
  rcases m with ⟨r, z, rfl, q, f, g⟩ | ⟨rfl, no⟩
  · exact ⟨fun _ => ⟨_, f, g⟩, fun _ => rfl⟩
  · constructor
    · intro h
      rw [decide_eq_true rfl] at h
      cases h
    · rintro ⟨x, f, g⟩
      exact (no x f g).elim

def sp_ledpap_unused26 (K : PySem.W.Frag) (CM CL : Addr) : Sp := fun vs H Q _ => ∃ (p q : Addr) (k : Nat) (zs zt : List Q2) (r rt : Str) (lo hi lt ht : Option Q2) (a : Nat), vs = [.ref p, .int a, .ref q] ∧ LadAt K CM CL H p k zs r lo hi ∧ LadAt K CM CL H q k zt rt lt ht ∧ a < zs.length ∧ 0 < k ∧ k ≤ 900 ∧
  ∀ (T : Addr) (ys : List V) (bs : List Nat) (H' : Hp), Same H H' → H' T = some (.tup ys) → ys.length ≤ 24 → PapS CM H' (4 * k + 36) ys bs (sizF zs r lo hi) (sizF zt rt lt ht) a 0 zt.length → Q (.ref T) H'
theorem nn_fm : ∀ l : List V, (l.map fun v => if (!decide (v = V.non)) = true then some v else none).filterMap _root_.id = l.filter fun v => !decide (v = V.non)
  | [] => rfl
  | x :: t => by
    rw [List.map_cons, List.filter_cons]
    cases e : (!decide (x = V.non)) with
    | true => simpa [e] using nn_fm t
    | false => simpa [e] using nn_fm t
theorem PapS.same {CM : Addr} {H H' : Hp} {k : Nat} {ys : List V} {bs : List Nat} {F G : Rat → Option Nat} {a off n : Nat} (p : PapS CM H k ys bs F G a off n) (s : Same H H') : PapS CM H' k ys bs F G a off n := ⟨p.len, p.rise, p.mem, fun i y b h1 h2 => by
  obtain ⟨r, z, e, q, f⟩ := p.all i y b h1 h2
  exact ⟨r, z, e, q.same s, f⟩⟩
def PapZ (CM : Addr) (H : Hp) (k : Nat) (ys : List V) (bs : List Nat) (zs zt : List Q2) (r rt : Str) (lo hi lt ht : Option Q2) (a : Nat) : Prop := ∀ (i : Nat) (y : V) (b : Nat), ys[i]? = some y → bs[i]? = some b → ∃ (t : Addr) (z : Q2), y = .ref t ∧ QAt CM H t k z ∧ ComZ zs zt r rt lo hi lt ht a b z
theorem PapZ.same {CM : Addr} {H H' : Hp} {k : Nat} {ys : List V} {bs : List Nat} {zs zt : List Q2} {r rt : Str} {lo hi lt ht : Option Q2} {a : Nat} (p : PapZ CM H k ys bs zs zt r rt lo hi lt ht a) (s : Same H H') : PapZ CM H' k ys bs zs zt r rt lo hi lt ht a := fun i y b h1 h2 => by
  obtain ⟨t, z, e, q, f⟩ := p i y b h1 h2
  exact ⟨t, z, e, q.same s, f⟩
theorem papz_of {CM : Addr} {H : Hp} {k n : Nat} {us ys : List V} {bs : List Nat} {zs zt : List Q2} {r rt : Str} {lo hi lt ht : Option Q2} {a : Nat} (l : k ≤ 4000) (hu : ∀ (b : Nat) (u : V), us[b]? = some u → MetW CM H k u zs zt r rt lo hi lt ht a b) (sub : ∀ y ∈ ys, y ∈ us) (P : PapS CM H k ys bs (sizF zs r lo hi) (sizF zt rt lt ht) a 0 n) : PapZ CM H k ys bs zs zt r rt lo hi lt ht a := fun i y b h1 h2 => by
  obtain ⟨t, z, e, q, f, g⟩ := P.all i y b h1 h2
  obtain ⟨b', hb'⟩ := List.mem_iff_getElem?.mp (sub y (List.mem_of_getElem? h1))
  subst e
  rcases hu b' _ hb' with ⟨t', z', e', q', f', g', c⟩ | ⟨e', _⟩
  · cases e'
    have e := qat_same q q' l l
    rw [e, g'] at g
    cases g
    exact ⟨t, z', rfl, q', c⟩
  · cases e'
theorem pap_bs {CM : Addr} {H H' : Hp} {k k' n : Nat} {ys ys' : List V} {bs bs' : List Nat} {F G : Rat → Option Nat} {a : Nat} (P : PapS CM H k ys bs F G a 0 n) (P' : PapS CM H' k' ys' bs' F G a 0 n) : bs = bs' := by
  have h : ∀ {l m : List Nat}, l.Pairwise (· < ·) → m.Pairwise (· < ·) → (∀ b, b ∈ l ↔ b ∈ m) → l = m := fun {l} => by
    induction l with
    | nil =>
      intro m _ _ h
      cases m with
      | nil => rfl
      | cons x t => have := (h x).mpr (by simp); simp at this
    | cons a l ih =>
      intro m hl hm h
      cases m with
      | nil => have := (h a).mp (by simp); simp at this
      | cons b m =>
        obtain ⟨l1, l2⟩ := List.pairwise_cons.mp hl
        obtain ⟨m1, m2⟩ := List.pairwise_cons.mp hm
        have e : a = b := by
          rcases List.mem_cons.mp ((h a).mp (by simp)) with e | e
          · exact e
          · rcases List.mem_cons.mp ((h b).mpr (by simp)) with g | g
            · exact g.symm
            · have := m1 a e
              have := l1 b g
              omega
        subst e
        rw [ih l2 m2 fun z => ?_]
        constructor
        · intro hz
          rcases List.mem_cons.mp ((h z).mp (List.mem_cons_of_mem _ hz)) with e | e
          · have := l1 z hz
            omega
          · exact e
        · intro hz
          rcases List.mem_cons.mp ((h z).mpr (List.mem_cons_of_mem _ hz)) with e | e
          · have := m1 z hz
            omega
          · exact e
  exact h P.rise P'.rise fun b => (P.mem b).trans (P'.mem b).symm
def sp_ledpap26 (K : PySem.W.Frag) (CM CL : Addr) : Sp := fun vs H Q _ => ∃ (p q : Addr) (k : Nat) (zs zt : List Q2) (r rt : Str) (lo hi lt ht : Option Q2) (a : Nat), vs = [.ref p, .int a, .ref q] ∧ LadAt K CM CL H p k zs r lo hi ∧ LadAt K CM CL H q k zt rt lt ht ∧ a < zs.length ∧ 0 < k ∧ k ≤ 900 ∧
  ∀ (T : Addr) (ys : List V) (bs : List Nat) (H' : Hp), Same H H' → H' T = some (.tup ys) → ys.length ≤ 24 → PapS CM H' (4 * k + 36) ys bs (sizF zs r lo hi) (sizF zt rt lt ht) a 0 zt.length → PapZ CM H' (4 * k + 36) ys bs zs zt r rt lo hi lt ht a → Q (.ref T) H'

def sp_comes (K : PySem.W.Frag) (CM CL : Addr) : Sp := fun vs H Q _ => ∃ (q t : Addr) (k : Nat) (zs : List Q2) (r : Str) (lo hi : Option Q2) (z : Q2) (n : Nat), vs = [.ref q, .ref t, .int n] ∧ LadAt K CM CL H q k zs r lo hi ∧ QAt CM H t k z ∧ 0 < k ∧ k ≤ 1000 ∧ sizF zs r lo hi (toR z) = some n ∧ ∀ H', Same H H' → Q (.bl true) H'
theorem run_list : ∀ {n c : Nat} {bs : List Nat}, bs.Pairwise (· < ·) → (∀ b, b ∈ bs ↔ c ≤ b ∧ b < c + n) → bs.length = n ∧ ∀ i b, bs[i]? = some b → b = c + i
  | 0, c, bs, _, h => by
    cases bs with
    | nil => exact ⟨rfl, fun i b e => by simp at e⟩
    | cons x t =>
      have := (h x).mp (List.mem_cons_self ..)
      omega
  | n + 1, c, bs, p, h => by
    cases bs with
    | nil =>
      have := (h c).mpr ⟨Nat.le_refl _, by omega⟩
      cases this
    | cons x t =>
      obtain ⟨p1, p2⟩ := List.pairwise_cons.mp p
      have hx := (h x).mp (List.mem_cons_self ..)
      have e : x = c := by
        rcases List.mem_cons.mp ((h c).mpr ⟨Nat.le_refl _, by omega⟩) with e | e
        · exact e.symm
        · have := p1 c e
          omega
      subst e
      obtain ⟨l, g⟩ := run_list (n := n) (c := x + 1) (bs := t) p2 fun b => by
        constructor
        · intro hb
          have h1 := (h b).mp (List.mem_cons_of_mem _ hb)
          have h2 := p1 b hb
          omega
        · intro hb
          rcases List.mem_cons.mp ((h b).mpr ⟨by omega, by omega⟩) with e | e
          · omega
          · exact e
      refine ⟨by rw [List.length_cons, l], fun i b e => ?_⟩
      cases i with
      | zero => cases e; rfl
      | succ i =>
        have := g i b (by simpa using e)
        omega
/-- paper and run belong together -/
theorem pap_run {CM : Addr} {H : Hp} {k : Nat} {ys : List V} {bs : List Nat} {zs zt : List Q2} {r rt : Str} {lo hi lt ht : Option Q2} {a c d : Nat} (L : LadQ zs r lo hi) (M : LadQ zt rt lt ht) (P : PapS CM H k ys bs (sizF zs r lo hi) (sizF zt rt lt ht) a 0 zt.length) (l : LedS (sizF zs r lo hi) (sizF zt rt lt ht) a zt.length (some (c, d))) :
    ys.length = d - c + 1 ∧ ∀ i y, ys[i]? = some y → ∃ (t : Addr) (z : Q2), y = .ref t ∧ QAt CM H t k z ∧ sizF zs r lo hi (toR z) = some a ∧ sizF zt rt lt ht (toR z) = some (c + i) := by
  obtain ⟨h1, h2, h3, ⟨x, f1, g1⟩, ⟨y, f2, g2⟩, h4⟩ := l
  obtain ⟨e1, e2⟩ := run_list (n := d - c + 1) (c := c) P.rise fun b => by
    rw [P.mem b]
    constructor
    · rintro ⟨_, _, z, f, g⟩
      have := h4 b z f g
      omega
    · rintro ⟨l1, l2⟩
      exact ⟨by omega, by omega, met_conv L M f1 g1 f2 g2 l1 (by omega)⟩
  refine ⟨by rw [P.len, e1], fun i y hy => ?_⟩
  have li := (List.getElem?_eq_some_iff.mp hy).1
  have lb : i < bs.length := by have := P.len; omega
  have hb : bs[i]? = some bs[i] := List.getElem?_eq_getElem lb
  obtain ⟨t, z, e, q, f, g⟩ := P.all i y _ hy hb
  rw [e2 i _ hb] at g
  exact ⟨t, z, e, q, f, g⟩
theorem pap_none {CM : Addr} {H : Hp} {k : Nat} {ys : List V} {bs : List Nat} {F G : Rat → Option Nat} {a n : Nat} (P : PapS CM H k ys bs F G a 0 n) (l : LedS F G a n none) : ys = [] := by
  have : bs = [] := by
    cases bs with
    | nil => rfl
    | cons b t =>
      obtain ⟨_, h, x, f, g⟩ := (P.mem b).mp (List.mem_cons_self ..)
      exact (l b (by omega) x f g).elim
  have e := P.len
  rw [this] at e
  exact List.length_eq_zero_iff.mp e
def sp_ispap (K : PySem.W.Frag) (CM CL : Addr) : Sp := fun vs H Q _ => ∃ (p q T S : Addr) (k : Nat) (zs zt : List Q2) (r rt : Str) (lo hi lt ht : Option Q2) (a c d : Nat) (ys : List V), vs = [.ref p, .int a, .ref q, .ref T, .ref S] ∧ LadAt K CM CL H p k zs r lo hi ∧ LadAt K CM CL H q k zt rt lt ht ∧ 0 < k ∧ k ≤ 1000 ∧ H T = some (.tup [.int c, .int d]) ∧ H S = some (.tup ys) ∧ c ≤ d ∧ d < 24 ∧ ys.length = d - c + 1 ∧
  (∀ i y, ys[i]? = some y → ∃ (t : Addr) (z : Q2), y = .ref t ∧ QAt CM H t k z ∧ sizF zs r lo hi (toR z) = some a ∧ sizF zt rt lt ht (toR z) = some (c + i)) ∧ ∀ H', Same H H' → Q (.bl true) H'
def sp_shled (K : PySem.W.Frag) (CM CL : Addr) : Sp := fun vs H Q _ => ∃ (p q S : Addr) (v : V) (k : Nat) (zs zt : List Q2) (r rt : Str) (lo hi lt ht : Option Q2) (a : Nat) (u : Option (Nat × Nat)) (ys : List V) (bs : List Nat), vs = [.ref p, .int a, .ref q, v, .ref S] ∧ LadAt K CM CL H p k zs r lo hi ∧ LadAt K CM CL H q k zt rt lt ht ∧ a < zs.length ∧ 0 < k ∧ k ≤ 200 ∧ LedV H v u ∧ LedS (sizF zs r lo hi) (sizF zt rt lt ht) a zt.length u ∧ H S = some (.tup ys) ∧ PapS CM H (4 * k + 36) ys bs (sizF zs r lo hi) (sizF zt rt lt ht) a 0 zt.length ∧ ∀ H', Same H H' → Q (.bl true) H'
def sp_istupU (K : PySem.W.Frag) : Sp := fun vs H Q _ => ∃ (a : Addr) (xs : List V) (n : Int), vs = [.ref a, .int n] ∧ SqT K H a xs ∧ Q (.bl (decide ((xs.length : Int) = n))) H

def sp_arew (K : PySem.W.Frag) : Sp := fun vs H Q _ => ∃ (a : Addr) (ns : List Int), vs = [.ref a] ∧ SqT K H a (ns.map V.int) ∧ ns.length ≤ 900 ∧ ∀ H', Same H H' → Q (.bl true) H'
theorem filT (n : Nat) : (List.replicate n (some (V.bl true))).filterMap _root_.id = (List.replicate n true).map V.bl := by
  induction n with
  | zero => rfl
  | succ n ih => rw [List.replicate_succ, List.replicate_succ]; simpa using ih
theorem allT (n : Nat) : (List.replicate n true).all _root_.id = true := by
  induction n with
  | zero => rfl
  | succ n ih => rw [List.replicate_succ]; simpa using ih


def sp_part27 : Sp := fun vs H Q _ => ∃ (p : Addr) (d : LD) (k j : Nat), vs = [.ref p, .int k] ∧ LdAt H p d ∧ k < d.ms.length ∧ SzD j d ∧ IsRule d.r ∧ 0 < j ∧ j ≤ 900 ∧ ∀ (v : V) (H' : Hp), Same H H' → LPart H' v (partL d k) → Q v H'
def sp_met27 : Sp := fun vs H Q _ => ∃ (v : V) (p : Addr) (s : LS) (d : LD) (j : Nat) (F : Rat → Option Nat) (a : Nat), vs = [v, .ref p] ∧ LPart H v s ∧ ZzL (j + j + 3) s ∧ LdAt H p d ∧ LdOk d ∧ SzD j d ∧ 0 < j ∧ j ≤ 900 ∧ (∀ x, insB s x = true ↔ F x = some a) ∧ ∀ (w : V) (u : Option (Nat × Nat)) (H' : Hp), Same H H' → LedV H' w u → LedS F d.F a d.ms.length u → Q w H'
def sp_made27 (K : PySem.W.Frag) (CM CL : Addr) : Sp := fun vs H Q _ => ∃ (p : Addr) (d : LD) (k : Nat), vs = [.ref p] ∧ LdAt H p d ∧ LdOk d ∧ SzD k d ∧ 0 < k ∧ k ≤ 900 ∧ ∀ (q : Addr) (H' : Hp), Same H H' → LadAt K CM CL H' q k (zR d.ms) d.r (oR d.lo) (oR d.hi) → Q (.ref q) H'
def sp_scaled27 : Sp := fun vs H Q _ => ∃ (p s : Addr) (d : LD) (c : Rat) (k : Nat), vs = [.ref p, .ref s] ∧ LdAt H p d ∧ H s = some (PR c) ∧ SzD k d ∧ SzR k c ∧ 0 < k ∧ k ≤ 900 ∧ d.ms.length ≤ 900 ∧ ∀ (q : Addr) (H' : Hp), Same H H' → LdAt H' q (d.sc c) → Q (.ref q) H'
theorem LedV.same27 {H H' : Hp} {v : V} {u : Option (Nat × Nat)} (a : LedV H v u) (s : Same H H') : LedV H' v u := by
  cases u with
  | none => exact a
  | some c =>
    obtain ⟨T, e, h⟩ := a
    exact ⟨T, e, s _ _ h⟩
/-- what a paper holds, against the run that is due -/
structure PapU (CM : Addr) (H : Hp) (k : Nat) (ys : List V) (F G : Rat → Option Nat) (a : Nat) (u : Option (Nat × Nat)) : Prop where
  len : (match u with | none => 0 | some (c, d) => (d : Int) - (c : Int) + 1) = (ys.length : Int)
  all : ∀ (i : Nat) (y : V), ys[i]? = some y → ∃ (t : Addr) (z : Q2) (c d : Nat), y = .ref t ∧ QAt CM H t k z ∧ F (toR z) = some a ∧ u = some (c, d) ∧ G (toR z) = some (c + i)
theorem PapU.same {CM : Addr} {H H' : Hp} {k : Nat} {ys : List V} {F G : Rat → Option Nat} {a : Nat} {u : Option (Nat × Nat)} (p : PapU CM H k ys F G a u) (s : Same H H') : PapU CM H' k ys F G a u := ⟨p.len, fun i y e => by
  obtain ⟨t, z, c, d, h1, h2, h3⟩ := p.all i y e
  exact ⟨t, z, c, d, h1, h2.same s, h3⟩⟩
theorem papU_of {CM : Addr} {H : Hp} {k : Nat} {ys : List V} {bs : List Nat} {zs zt : List Q2} {r rt : Str} {lo hi lt ht : Option Q2} {a : Nat} {u : Option (Nat × Nat)} (L : LadQ zs r lo hi) (M : LadQ zt rt lt ht) (P : PapS CM H k ys bs (sizF zs r lo hi) (sizF zt rt lt ht) a 0 zt.length) (l : LedS (sizF zs r lo hi) (sizF zt rt lt ht) a zt.length u) : PapU CM H k ys (sizF zs r lo hi) (sizF zt rt lt ht) a u := by
  cases u with
  | none =>
    have e := pap_none P l
    subst e
    exact ⟨rfl, fun i y e => by simp at e⟩
  | some cd =>
    obtain ⟨c, d⟩ := cd
    obtain ⟨e, al⟩ := pap_run L M P l
    have cd := l.2.2.1
    refine ⟨?_, fun i y h => ?_⟩
    · show (d : Int) - (c : Int) + 1 = _
      omega
    · obtain ⟨t, z, h1, h2, h3, h4⟩ := al i y h
      exact ⟨t, z, c, d, h1, h2, h3, rfl, h4⟩
theorem ZzL.mono27 {a b : Nat} {s : LS} (h : ZzL a s) (l : a ≤ b) : ZzL b s := ⟨h.1.mono l, h.2.mono l⟩
theorem cp30 : CPow 10 30 := ⟨by decide, by decide, by decide⟩
theorem lg24 {z : Int} (h : z ≤ 24) (h0 : 0 ≤ z) : z.natAbs.log2 < 9000 := Nat.lt_of_le_of_lt (Nat.log2_le_self _) (by omega)
def sp_drawn27 : Sp := fun vs H Q _ => ∃ (h g : Addr) (n m : Nat), vs = [.ref h, .int m] ∧ PotAt H h g n ∧ n < 90000 ∧ 0 < m ∧ m ≤ 24 ∧ ∀ (p : Addr) (d : LD) (H' : Hp), Kp2 h g H H' → PotAt H' h g (n + 40) → LdAt H' p d → LdOk d → SzD 34 d → Q (.ref p) H'
def sp_right27 : Sp := fun vs H Q _ => ∃ (h g p q : Addr) (n : Nat) (d e : LD), vs = [.ref h, .ref p, .ref q] ∧ PotAt H h g n ∧ n < 80000 ∧ LdAt H p d ∧ LdAt H q e ∧ LdG d ∧ LdG e ∧ ∀ H', Kp2 h g H H' → PotAt H' h g (n + 4) → Q (.bl true) H'
def sp_ladders27 : Sp := fun vs H Q _ => ∃ (h g : Addr) (n c m : Nat), vs = [.ref h, .int c, .int m] ∧ PotAt H h g n ∧ n < 80000 ∧ c ≤ 100 ∧ 0 < m ∧ m ≤ 24 ∧ ∀ (D : Addr) (ys : List V) (H' : Hp), H D = none → Kp2 h g H H' → PotAt H' h g (n + 1 + 40 * c) → H' D = some (.lst ys) → ys.length = c → (∀ v ∈ ys, LdV LdG H' v) → Q (.ref D) H'

/-- no size: something of the seven kinds that can be shown, and no number of a size -/
def Odd15 (K : PySem.W.Frag) (H : Hp) (n : Nat) (v : V) : Prop := (∃ z, Shw K H v z) ∧ ∃ kn, Kd H v kn ∧ (kn = "int" → ∃ i, v = .int i ∧ ¬ (0 ≤ i ∧ i < n))
theorem Odd15.same {K : PySem.W.Frag} {H H' : Hp} {n : Nat} {v : V} (h : Odd15 K H n v) (s : Same H H') : Odd15 K H' n v := by
  obtain ⟨⟨z, h1⟩, kn, h2, h3⟩ := h
  exact ⟨⟨z, h1.same s⟩, kn, h2.same s, h3⟩
theorem oddInt {K : PySem.W.Frag} {H : Hp} {n : Nat} {i : Int} (h : ¬ (0 ≤ i ∧ i < n)) (l : i.natAbs.log2 < 1000) : Odd15 K H n (.int i) := by
  refine ⟨⟨_, .data (.int i) (decide_eq_true (Nat.lt_trans l (by decide))) rfl (Nat.zero_le _) ?_⟩, "int", .inr (.inr (.inl ⟨i, rfl, rfl⟩)), fun _ => ⟨i, rfl, h⟩⟩
  have h4 := int_text_length_le (a := i) (k := 1000) (by decide) l
  have h5 : (Str.ofString (toString i)).length = (toString i).length := PySem.ofString_length _
  show (Str.ofString (toString i)).length ≤ _
  rw [h5]
  have h6 : 200000 ≤ sizeLine := by decide
  omega
theorem oddData {K : PySem.W.Frag} {H : Hp} {n : Nat} {v : V} {d : PyData} {kn : String} (h : Dp K H v d) (o : (d.showable && (!d.hasDict && (decide (d.depth ≤ 60) && decide (d.shown.length ≤ sizeLine)))) = true) (k : Kd H v kn) (e : kn ≠ "int") : Odd15 K H n v := by
  obtain ⟨o1, o2⟩ := He.ba o
  obtain ⟨o2, o3⟩ := He.ba o2
  obtain ⟨o3, o4⟩ := He.ba o3
  exact ⟨⟨_, .data h o1 (by simpa using o2) (of_decide_eq_true o3) (of_decide_eq_true o4)⟩, kn, k, fun z => absurd z e⟩
theorem oddDict {K : PySem.W.Frag} {H : Hp} {n : Nat} {a : Addr} {kvs : List (Key × V)} {D : List (PyData × PyData)} (h : H a = some (.dK kvs)) (f : Flat kvs D) (o : ((PyData.dict D).showable && (decide ((PyData.dict D).depth ≤ 60) && decide ((PyData.dict D).shown.length ≤ sizeLine))) = true) : Odd15 K H n (.ref a) := by
  obtain ⟨o1, o2⟩ := He.ba o
  obtain ⟨o3, o4⟩ := He.ba o2
  exact ⟨⟨_, .dict h f o1 (of_decide_eq_true o3) (of_decide_eq_true o4)⟩, "dict", .inr (.inr (.inr (.inr (.inr (.inr ⟨a, kvs, rfl, h, rfl⟩))))), fun z => nomatch (show ("dict" : String) = "int" from z)⟩
def sp_hasX (K : PySem.W.Frag) (CM CL : Addr) : Sp := fun vs H Q _ => ∃ (p : Addr) (k : Nat) (zs : List Q2) (r : Str) (lo hi : Option Q2) (v : V), vs = [.ref p, v] ∧ LadAt K CM CL H p k zs r lo hi ∧ Odd15 K H zs.length v ∧ Q (.bl false) H
def sp_strX (K : PySem.W.Frag) (CM CL CE : Addr) : Sp := fun vs H _ E => ∃ (p : Addr) (k : Nat) (zs : List Q2) (r : Str) (lo hi : Option Q2) (v : V), vs = [.ref p, v] ∧ LadAt K CM CL H p k zs r lo hi ∧ Odd15 K H zs.length v ∧ ∀ d, H d = none → E (.ref CE) (some d) (upd H d (.xd [("number", v)]))
def sp_lref (K : PySem.W.Frag) (CM CL : Addr) : Sp := fun vs H Q _ => ∃ (p : Addr) (k : Nat) (zs : List Q2) (r : Str) (lo hi : Option Q2) (v : V), vs = [.ref p, v] ∧ LadAt K CM CL H p k zs r lo hi ∧ Odd15 K H zs.length v ∧ ∀ H', Same H H' → Q (.bl true) H'
def sp_right15 : Sp := fun vs H Q _ => ∃ (p : Addr) (part : Int) (ms : List Int) (r : Str) (lo hi : Option Int), vs = [.ref p] ∧ LawL H p part ms r lo hi ∧ ∀ H', Same H H' → Q (.bl true) H'
def sp_leadX (K : PySem.W.Frag) (CM CL CE : Addr) : Sp := fun vs H _ E => ∃ (p : Addr) (k : Nat) (zs : List Q2) (r : Str) (lo hi : Option Q2) (v u : V), vs = [.ref p, v, u] ∧ LadAt K CM CL H p k zs r lo hi ∧ Odd15 K H zs.length v ∧ ∀ d, H d = none → E (.ref CE) (some d) (upd H d (.xd [("number", v)]))
def sp_askedX (K : PySem.W.Frag) (CM CL CE : Addr) : Sp := fun vs H _ E => ∃ (b : Bool) (p : Addr) (k : Nat) (zs : List Q2) (r : Str) (lo hi : Option Q2) (v u : V), vs = [.bl b, .ref p, v, u] ∧ LadAt K CM CL H p k zs r lo hi ∧ Odd15 K H zs.length v ∧ ∀ d, H d = none → E (.ref CE) (some d) (upd H d (.xd [("number", v)]))
def sp_caught26 (K : PySem.W.Frag) (CM CL : Addr) : Sp := fun vs H Q _ => ∃ (b : Bool) (p : Addr) (k : Nat) (zs : List Q2) (r : Str) (lo hi : Option Q2) (v u : V), vs = [.bl b, .ref p, v, u] ∧ LadAt K CM CL H p k zs r lo hi ∧ Odd15 K H zs.length v ∧ ∀ H', Same H H' → Q (.bl true) H'

def sp_written : Sp := fun vs H Q _ => ∃ a u : Int, vs = [.int a, .int u] ∧ 0 ≤ a ∧ 0 < u ∧ Sz 1900 a ∧ Sz 1900 u ∧ ∀ H', Same H H' → Q (.str (wTxt a u)) H'
def sp_mstr (C : Addr) : Sp := fun vs H Q _ => ∃ (p : Addr) (t u : Int), vs = [.ref p] ∧ MAt C H p t u ∧ 0 < u ∧ Sz 1900 t ∧ Sz 1900 u ∧ ∀ H', Same H H' → Q (.str (mTxt t u)) H'
def sp_mrep (C : Addr) : Sp := fun vs H Q _ => ∃ (p : Addr) (t u : Int), vs = [.ref p] ∧ MAt C H p t u ∧ Sz 1900 t ∧ Sz 1900 u ∧ Q (.str (mRep t u)) H

def lowQ (x : Q2) : Q2 := (x.1.fdiv (Int.gcd x.1 x.2), x.2.fdiv (Int.gcd x.1 x.2))
theorem lowQ_fr {x : Q2} (h : 0 < x.2) : Fr (lowQ x).1 (lowQ x).2 x.1 x.2 := by
  have es : (Int.gcd x.1 x.2 : Int) = sgn x.2 * (Int.gcd x.1 x.2 : Int) := by
    unfold sgn
    rw [if_pos h, Int.one_mul]
  exact (fr_mk (a := x.1) (b := x.2) (by omega) es).2.2
theorem qat_low {C : Addr} {H : Hp} {p : Addr} {k : Nat} {x : Q2} (a : QAt C H p k x) (k4 : k ≤ 4000) : MAt C H p (lowQ x).1 (lowQ x).2 := by
  obtain ⟨⟨t, u, m, f⟩, h, s1, s2⟩ := a
  obtain ⟨rfl, rfl⟩ := fr_uniq f (lowQ_fr h) (by omega) (s1.mono k4) (s2.mono k4)
  exact m
def mR (x : Q2) : Str := mRep (lowQ x).1 (lowQ x).2
theorem mR_len {x : Q2} {k : Nat} (h : 0 < x.2) (a1 : Sz k x.1) (a2 : Sz k x.2) (k9 : k ≤ 1900) : (mR x).length ≤ 10000 ∧ Sz 1900 (lowQ x).1 ∧ Sz 1900 (lowQ x).2 := by
  have fr := lowQ_fr h
  have st : Sz 1900 (lowQ x).1 := (a1.mono k9).le fr.lt
  have su : Sz 1900 (lowQ x).2 := (a2.mono k9).le fr.lu
  have l1 := iT_len st
  have l2 := iT_len su
  have e0 : Str.empty.length = 0 := rfl
  have e1 : (Str.ofString "Measure(").length = 8 := rfl
  have e2 : (Str.ofString ", ").length = 2 := rfl
  have e3 : (Str.ofString ")").length = 1 := rfl
  refine ⟨?_, st, su⟩
  unfold mR mRep
  simp only [Str.length_append]
  omega
theorem marks_show0 {K : PySem.W.Frag} {C : Addr} {E : XK} {k : Nat} {H : Hp} (k9 : k ≤ 1900) {Q : List Str → Hp → Prop} : ∀ {ps : List V} {zs : List Q2} {acc : List Str}, ps.length = zs.length → (∀ (i : Nat) (v : V) (z : Q2), ps[i]? = some v → zs[i]? = some z → ∃ q, v = .ref q ∧ QAt C H q k z) → Q (acc ++ zs.map mR) H → tShow K C (sp_mrep C) E ps acc H Q
  | [], [], acc, _, _, q => by
    show Q acc H
    simpa using q
  | [], _ :: _, _, h, _, _ => by simp at h
  | _ :: _, [], _, h, _, _ => by simp at h
  | p :: ps, z :: zs, acc, h, hh, q => by
    obtain ⟨a, rfl, qa⟩ := hh 0 p z rfl rfl
    have m := qat_low qa (by omega)
    obtain ⟨l1, l2, l3⟩ := mR_len qa.pos qa.s1 qa.s2 k9
    obtain ⟨dx, ha⟩ := id m
    refine .inr ⟨a, dx, _, rfl, ha, a, _, _, rfl, ⟨dx, ha⟩, l2, l3, _, rfl, _, rfl, l1, ?_⟩
    refine marks_show0 k9 (by simpa using h) (fun i v w e1 e2 => hh (i + 1) v w (by simpa using e1) (by simpa using e2)) ?_
    rw [List.append_assoc]
    exact q
/-- what led answers, as data -/
def ledD : Option (Nat × Nat) → PyData
  | none => .none
  | some (c, d) => intsD [(c : Int), (d : Int)]
theorem ledv_dp {K : PySem.W.Frag} {H : Hp} {v : V} {u : Option (Nat × Nat)} (a : LedV H v u) : Dp K H v (ledD u) := by
  cases u with
  | none => cases a; exact .non
  | some cd =>
    obtain ⟨c, d⟩ := cd
    obtain ⟨T, rfl, h⟩ := a
    exact dpT (zs := [(c : Int), (d : Int)]) h
theorem ledD_ok {F G : Rat → Option Nat} {a n : Nat} {u : Option (Nat × Nat)} (L : LedS F G a n u) (l : n ≤ 1000) : (ledD u).showable = true ∧ (ledD u).hasDict = false ∧ (ledD u).depth ≤ 60 ∧ (ledD u).shown.length ≤ sizeLine := by
  cases u with
  | none => exact ⟨by decide +kernel, by decide +kernel, by decide +kernel, by decide +kernel⟩
  | some cd =>
    obtain ⟨c, d⟩ := cd
    obtain ⟨h1, h2, h3, _⟩ := L
    exact intsD_ok (zs := [(c : Int), (d : Int)]) (by show 2 ≤ 1000; decide) fun z hz => by
      simp only [List.mem_cons, List.not_mem_nil, or_false] at hz
      rcases hz with rfl | rfl <;> omega
theorem paper_zs {CM : Addr} {H : Hp} {k : Nat} {zs zt : List Q2} {r rt : Str} {lo hi lt ht : Option Q2} {a : Nat} : ∀ {ys : List V} {bs : List Nat}, ys.length = bs.length → PapZ CM H k ys bs zs zt r rt lo hi lt ht a → ∃ ws : List Q2, ys.length = ws.length ∧ (∀ (i : Nat) (v : V) (z : Q2), ys[i]? = some v → ws[i]? = some z → ∃ q, v = .ref q ∧ QAt CM H q k z) ∧ ∀ (i : Nat) (b : Nat) (z : Q2), bs[i]? = some b → ws[i]? = some z → ComZ zs zt r rt lo hi lt ht a b z
  | [], [], _, _ => ⟨[], rfl, fun i v z h => by simp at h, fun i b z h => by simp at h⟩
  | [], _ :: _, h, _ => by simp at h
  | _ :: _, [], h, _ => by simp at h
  | y :: ys, b :: bs, h, P => by
    obtain ⟨ws, l, g1, g2⟩ := paper_zs (ys := ys) (bs := bs) (by simpa using h) fun i v b e1 e2 => P (i + 1) v b (by simpa using e1) (by simpa using e2)
    obtain ⟨t, z, e, q, c⟩ := P 0 y b rfl rfl
    refine ⟨z :: ws, by rw [List.length_cons, List.length_cons, l], fun i v x e1 e2 => ?_, fun i b' x e1 e2 => ?_⟩
    · cases i with
      | zero => cases e1; cases e2; exact ⟨t, e, q⟩
      | succ i => exact g1 i v x (by simpa using e1) (by simpa using e2)
    · cases i with
      | zero => cases e1; cases e2; exact c
      | succ i => exact g2 i b' x (by simpa using e1) (by simpa using e2)
theorem com_list {zs zt : List Q2} {r rt : Str} {lo hi lt ht : Option Q2} {a : Nat} : ∀ {bs : List Nat} {ws vs : List Q2}, ws.length = bs.length → vs.length = bs.length → (∀ (i : Nat) (b : Nat) (z : Q2), bs[i]? = some b → ws[i]? = some z → ComZ zs zt r rt lo hi lt ht a b z) → (∀ (i : Nat) (b : Nat) (z : Q2), bs[i]? = some b → vs[i]? = some z → ComZ zs zt r rt lo hi lt ht a b z) → ws = vs
  | [], [], [], _, _, _, _ => rfl
  | b :: bs, w :: ws, v :: vs, h1, h2, g1, g2 => by
    rw [(g1 0 b w rfl rfl).uniq (g2 0 b v rfl rfl), com_list (bs := bs) (ws := ws) (vs := vs) (by simpa using h1) (by simpa using h2) (fun i b z e1 e2 => g1 (i + 1) b z (by simpa using e1) (by simpa using e2)) fun i b z e1 e2 => g2 (i + 1) b z (by simpa using e1) (by simpa using e2)]
  | [], _ :: _, _, h, _, _, _ => by simp at h
  | [], [], _ :: _, _, h, _, _ => by simp at h
  | _ :: _, [], _, h, _, _, _ => by simp at h
  | _ :: _, _ :: _, [], _, h, _, _ => by simp at h
def sp_right26 : Sp := fun vs H Q _ => ∃ (h g p q : Addr) (n : Nat) (d e : LD), vs = [.ref h, .ref p, .ref q] ∧ PotAt H h g n ∧ n < 80000 ∧ LdAt H p d ∧ LdAt H q e ∧ LdG d ∧ LdG e ∧ ∀ H', Kp2 h g H H' → PotAt H' h g (n + 20) → Q (.bl true) H'


theorem b_is_whole_1 {K : PySem.W.Frag} {mg : Str → Option Value} {φ : Fds} (T : Txt P K mg φ) : ∃ ds, Vals ([] : List V) ds ∧ Binds K φ.is_whole p_is_whole ds :=
  ⟨[], .nil, T.f_is_whole.bindsN fun _ _ _ _ _ _ us hl => match us, hl with | [_], _ => rfl⟩
theorem b_common_part_2 {K : PySem.W.Frag} {mg : Str → Option Value} {φ : Fds} (T : Txt P K mg φ) : ∃ ds, Vals ([] : List V) ds ∧ Binds K φ.common_part p_common_part ds :=
  ⟨[], .nil, T.f_common_part.bindsN fun _ _ _ _ _ _ us hl => match us, hl with | [_, _], _ => rfl⟩
theorem b_Measure_is_below_2 {K : PySem.W.Frag} {mg : Str → Option Value} {φ : Fds} (T : Txt P K mg φ) : ∃ ds, Vals ([V.bl false] : List V) ds ∧ Binds K φ.Measure_is_below p_Measure_is_below ds :=
  T.f_Measure_is_below.binds1 2 0 (by simp) rfl fun _ _ _ _ _ _ _ us its h1 h2 => match us, its, h1, h2 with | [_, _], [_], _, _ => ⟨_, rfl, rfl⟩
theorem b_Measure_is_below_3 {K : PySem.W.Frag} {mg : Str → Option Value} {φ : Fds} (T : Txt P K mg φ) : ∃ ds, Vals ([] : List V) ds ∧ Binds K φ.Measure_is_below p_Measure_is_below ds :=
  T.f_Measure_is_below.binds1 3 1 (by simp) rfl fun _ _ _ _ _ _ _ us its h1 h2 => match us, its, h1, h2 with | [_, _, _], [_], _, _ => ⟨_, rfl, rfl⟩
theorem b_are_marks_1 {K : PySem.W.Frag} {mg : Str → Option Value} {φ : Fds} (T : Txt P K mg φ) : ∃ ds, Vals ([] : List V) ds ∧ Binds K φ.are_marks p_are_marks ds :=
  ⟨[], .nil, T.f_are_marks.bindsN fun _ _ _ _ _ _ us hl => match us, hl with | [_], _ => rfl⟩
theorem b_is_rule_1 {K : PySem.W.Frag} {mg : Str → Option Value} {φ : Fds} (T : Txt P K mg φ) : ∃ ds, Vals ([] : List V) ds ∧ Binds K φ.is_rule p_is_rule ds :=
  ⟨[], .nil, T.f_is_rule.bindsN fun _ _ _ _ _ _ us hl => match us, hl with | [_], _ => rfl⟩
theorem b_is_measure_or_none_1 {K : PySem.W.Frag} {mg : Str → Option Value} {φ : Fds} (T : Txt P K mg φ) : ∃ ds, Vals ([] : List V) ds ∧ Binds K φ.is_measure_or_none p_is_measure_or_none ds :=
  ⟨[], .nil, T.f_is_measure_or_none.bindsN fun _ _ _ _ _ _ us hl => match us, hl with | [_], _ => rfl⟩
theorem b_is_span_2 {K : PySem.W.Frag} {mg : Str → Option Value} {φ : Fds} (T : Txt P K mg φ) : ∃ ds, Vals ([] : List V) ds ∧ Binds K φ.is_span p_is_span ds :=
  ⟨[], .nil, T.f_is_span.bindsN fun _ _ _ _ _ _ us hl => match us, hl with | [_, _], _ => rfl⟩
theorem b_slip_of_1 {K : PySem.W.Frag} {mg : Str → Option Value} {φ : Fds} (T : Txt P K mg φ) : ∃ ds, Vals ([] : List V) ds ∧ Binds K φ.slip_of p_slip_of ds :=
  ⟨[], .nil, T.f_slip_of.bindsN fun _ _ _ _ _ _ us hl => match us, hl with | [_], _ => rfl⟩
theorem b_Measure_init_3 {K : PySem.W.Frag} {mg : Str → Option Value} {φ : Fds} (T : Txt P K mg φ) : ∃ ds, Vals ([] : List V) ds ∧ Binds K φ.Measure_init p_Measure_init ds :=
  T.f_Measure_init.binds1 3 1 (by simp) rfl fun _ _ _ _ _ _ _ us its h1 h2 => match us, its, h1, h2 with | [_, _, _], [_], _, _ => ⟨_, rfl, rfl⟩
theorem b_Measure_parted_1 {K : PySem.W.Frag} {mg : Str → Option Value} {φ : Fds} (T : Txt P K mg φ) : ∃ ds, Vals ([V.int 2] : List V) ds ∧ Binds K φ.Measure_parted p_Measure_parted ds :=
  T.f_Measure_parted.binds1 1 0 (by simp) rfl fun _ _ _ _ _ _ _ us its h1 h2 => match us, its, h1, h2 with | [_], [_], _, _ => ⟨_, rfl, rfl⟩
theorem b_Measure_plus_2 {K : PySem.W.Frag} {mg : Str → Option Value} {φ : Fds} (T : Txt P K mg φ) : ∃ ds, Vals ([] : List V) ds ∧ Binds K φ.Measure_plus p_Measure_plus ds :=
  ⟨[], .nil, T.f_Measure_plus.bindsN fun _ _ _ _ _ _ us hl => match us, hl with | [_, _], _ => rfl⟩
theorem b_midsts_of_1 {K : PySem.W.Frag} {mg : Str → Option Value} {φ : Fds} (T : Txt P K mg φ) : ∃ ds, Vals ([] : List V) ds ∧ Binds K φ.midsts_of p_midsts_of ds :=
  ⟨[], .nil, T.f_midsts_of.bindsN fun _ _ _ _ _ _ us hl => match us, hl with | [_], _ => rfl⟩
theorem b_size_by_rule_3 {K : PySem.W.Frag} {mg : Str → Option Value} {φ : Fds} (T : Txt P K mg φ) : ∃ ds, Vals ([] : List V) ds ∧ Binds K φ.size_by_rule p_size_by_rule ds :=
  ⟨[], .nil, T.f_size_by_rule.bindsN fun _ _ _ _ _ _ us hl => match us, hl with | [_, _, _], _ => rfl⟩
theorem b_Measure_eq_2 {K : PySem.W.Frag} {mg : Str → Option Value} {φ : Fds} (T : Txt P K mg φ) : ∃ ds, Vals ([] : List V) ds ∧ Binds K φ.Measure_eq p_Measure_eq ds :=
  ⟨[], .nil, T.f_Measure_eq.bindsN fun _ _ _ _ _ _ us hl => match us, hl with | [_, _], _ => rfl⟩
theorem b_is_empty_4 {K : PySem.W.Frag} {mg : Str → Option Value} {φ : Fds} (T : Txt P K mg φ) : ∃ ds, Vals ([] : List V) ds ∧ Binds K φ.is_empty p_is_empty ds :=
  ⟨[], .nil, T.f_is_empty.bindsN fun _ _ _ _ _ _ us hl => match us, hl with | [_, _, _, _], _ => rfl⟩
theorem b_cut_low_2 {K : PySem.W.Frag} {mg : Str → Option Value} {φ : Fds} (T : Txt P K mg φ) : ∃ ds, Vals ([] : List V) ds ∧ Binds K φ.cut_low p_cut_low ds :=
  ⟨[], .nil, T.f_cut_low.bindsN fun _ _ _ _ _ _ us hl => match us, hl with | [_, _], _ => rfl⟩
theorem b_cut_high_2 {K : PySem.W.Frag} {mg : Str → Option Value} {φ : Fds} (T : Txt P K mg φ) : ∃ ds, Vals ([] : List V) ds ∧ Binds K φ.cut_high p_cut_high ds :=
  ⟨[], .nil, T.f_cut_high.bindsN fun _ _ _ _ _ _ us hl => match us, hl with | [_, _], _ => rfl⟩
theorem b_Stretch_init_5 {K : PySem.W.Frag} {mg : Str → Option Value} {φ : Fds} (T : Txt P K mg φ) : ∃ ds, Vals ([] : List V) ds ∧ Binds K φ.Stretch_init p_Stretch_init ds :=
  T.f_Stretch_init.binds1 5 2 (by simp) rfl fun _ _ _ _ _ _ _ us its h1 h2 => match us, its, h1, h2 with | [_, _, _, _, _], [_, _], _, _ => ⟨_, rfl, rfl⟩
theorem b_Stretch_init_3 {K : PySem.W.Frag} {mg : Str → Option Value} {φ : Fds} (T : Txt P K mg φ) : ∃ ds, Vals ([V.bl false, V.bl true] : List V) ds ∧ Binds K φ.Stretch_init p_Stretch_init ds :=
  T.f_Stretch_init.binds1 3 0 (by simp) rfl fun _ _ _ _ _ _ _ us its h1 h2 => match us, its, h1, h2 with | [_, _, _], [_, _], _, _ => ⟨_, rfl, rfl⟩
theorem b_end_at_2 {K : PySem.W.Frag} {mg : Str → Option Value} {φ : Fds} (T : Txt P K mg φ) : ∃ ds, Vals ([] : List V) ds ∧ Binds K φ.end_at p_end_at ds :=
  ⟨[], .nil, T.f_end_at.bindsN fun _ _ _ _ _ _ us hl => match us, hl with | [_, _], _ => rfl⟩
theorem b_has_size_2 {K : PySem.W.Frag} {mg : Str → Option Value} {φ : Fds} (T : Txt P K mg φ) : ∃ ds, Vals ([] : List V) ds ∧ Binds K φ.has_size p_has_size ds :=
  ⟨[], .nil, T.f_has_size.bindsN fun _ _ _ _ _ _ us hl => match us, hl with | [_, _], _ => rfl⟩
theorem b_Stretch_cut_2 {K : PySem.W.Frag} {mg : Str → Option Value} {φ : Fds} (T : Txt P K mg φ) : ∃ ds, Vals ([] : List V) ds ∧ Binds K φ.Stretch_cut p_Stretch_cut ds :=
  ⟨[], .nil, T.f_Stretch_cut.bindsN fun _ _ _ _ _ _ us hl => match us, hl with | [_, _], _ => rfl⟩
theorem b_stretch_by_rule_3 {K : PySem.W.Frag} {mg : Str → Option Value} {φ : Fds} (T : Txt P K mg φ) : ∃ ds, Vals ([] : List V) ds ∧ Binds K φ.stretch_by_rule p_stretch_by_rule ds :=
  ⟨[], .nil, T.f_stretch_by_rule.bindsN fun _ _ _ _ _ _ us hl => match us, hl with | [_, _, _], _ => rfl⟩
theorem b_Measure_init_2 {K : PySem.W.Frag} {mg : Str → Option Value} {φ : Fds} (T : Txt P K mg φ) : ∃ ds, Vals ([V.int 1] : List V) ds ∧ Binds K φ.Measure_init p_Measure_init ds :=
  T.f_Measure_init.binds1 2 0 (by simp) rfl fun _ _ _ _ _ _ _ us its h1 h2 => match us, its, h1, h2 with | [_, _], [_], _, _ => ⟨_, rfl, rfl⟩
theorem b_Measure_minus_2 {K : PySem.W.Frag} {mg : Str → Option Value} {φ : Fds} (T : Txt P K mg φ) : ∃ ds, Vals ([] : List V) ds ∧ Binds K φ.Measure_minus p_Measure_minus ds :=
  ⟨[], .nil, T.f_Measure_minus.bindsN fun _ _ _ _ _ _ us hl => match us, hl with | [_, _], _ => rfl⟩
theorem b_some_measure_1 {K : PySem.W.Frag} {mg : Str → Option Value} {φ : Fds} (T : Txt P K mg φ) : ∃ ds, Vals ([] : List V) ds ∧ Binds K φ.some_measure p_some_measure ds :=
  ⟨[], .nil, T.f_some_measure.bindsN fun _ _ _ _ _ _ us hl => match us, hl with | [_], _ => rfl⟩
theorem b_Stretch_shared_2 {K : PySem.W.Frag} {mg : Str → Option Value} {φ : Fds} (T : Txt P K mg φ) : ∃ ds, Vals ([] : List V) ds ∧ Binds K φ.Stretch_shared p_Stretch_shared ds :=
  ⟨[], .nil, T.f_Stretch_shared.bindsN fun _ _ _ _ _ _ us hl => match us, hl with | [_, _], _ => rfl⟩
theorem b_Ladder_stretch_2 {K : PySem.W.Frag} {mg : Str → Option Value} {φ : Fds} (T : Txt P K mg φ) : ∃ ds, Vals ([] : List V) ds ∧ Binds K φ.Ladder_stretch p_Ladder_stretch ds :=
  ⟨[], .nil, T.f_Ladder_stretch.bindsN fun _ _ _ _ _ _ us hl => match us, hl with | [_, _], _ => rfl⟩
theorem b_Ladder_len_1 {K : PySem.W.Frag} {mg : Str → Option Value} {φ : Fds} (T : Txt P K mg φ) : ∃ ds, Vals ([] : List V) ds ∧ Binds K φ.Ladder_len p_Ladder_len ds :=
  ⟨[], .nil, T.f_Ladder_len.bindsN fun _ _ _ _ _ _ us hl => match us, hl with | [_], _ => rfl⟩
theorem b_shared_by_2 {K : PySem.W.Frag} {mg : Str → Option Value} {φ : Fds} (T : Txt P K mg φ) : ∃ ds, Vals ([] : List V) ds ∧ Binds K φ.shared_by p_shared_by ds :=
  ⟨[], .nil, T.f_shared_by.bindsN fun _ _ _ _ _ _ us hl => match us, hl with | [_, _], _ => rfl⟩
theorem b_common_measures_3 {K : PySem.W.Frag} {mg : Str → Option Value} {φ : Fds} (T : Txt P K mg φ) : ∃ ds, Vals ([] : List V) ds ∧ Binds K φ.common_measures p_common_measures ds :=
  ⟨[], .nil, T.f_common_measures.bindsN fun _ _ _ _ _ _ us hl => match us, hl with | [_, _, _], _ => rfl⟩
theorem b_Ladder_size_2 {K : PySem.W.Frag} {mg : Str → Option Value} {φ : Fds} (T : Txt P K mg φ) : ∃ ds, Vals ([] : List V) ds ∧ Binds K φ.Ladder_size p_Ladder_size ds :=
  ⟨[], .nil, T.f_Ladder_size.bindsN fun _ _ _ _ _ _ us hl => match us, hl with | [_, _], _ => rfl⟩
theorem b_is_tuple_of_2 {K : PySem.W.Frag} {mg : Str → Option Value} {φ : Fds} (T : Txt P K mg φ) : ∃ ds, Vals ([] : List V) ds ∧ Binds K φ.is_tuple_of p_is_tuple_of ds :=
  ⟨[], .nil, T.f_is_tuple_of.bindsN fun _ _ _ _ _ _ us hl => match us, hl with | [_, _], _ => rfl⟩
theorem b_comes_to_3 {K : PySem.W.Frag} {mg : Str → Option Value} {φ : Fds} (T : Txt P K mg φ) : ∃ ds, Vals ([] : List V) ds ∧ Binds K φ.comes_to p_comes_to ds :=
  ⟨[], .nil, T.f_comes_to.bindsN fun _ _ _ _ _ _ us hl => match us, hl with | [_, _, _], _ => rfl⟩
theorem b_led_3 {K : PySem.W.Frag} {mg : Str → Option Value} {φ : Fds} (T : Txt P K mg φ) : ∃ ds, Vals ([] : List V) ds ∧ Binds K φ.led p_led ds :=
  ⟨[], .nil, T.f_led.bindsN fun _ _ _ _ _ _ us hl => match us, hl with | [_, _, _], _ => rfl⟩
theorem b_is_paper_5 {K : PySem.W.Frag} {mg : Str → Option Value} {φ : Fds} (T : Txt P K mg φ) : ∃ ds, Vals ([] : List V) ds ∧ Binds K φ.is_paper p_is_paper ds :=
  ⟨[], .nil, T.f_is_paper.bindsN fun _ _ _ _ _ _ us hl => match us, hl with | [_, _, _, _, _], _ => rfl⟩
theorem b_are_wholes_1 {K : PySem.W.Frag} {mg : Str → Option Value} {φ : Fds} (T : Txt P K mg φ) : ∃ ds, Vals ([] : List V) ds ∧ Binds K φ.are_wholes p_are_wholes ds :=
  ⟨[], .nil, T.f_are_wholes.bindsN fun _ _ _ _ _ _ us hl => match us, hl with | [_], _ => rfl⟩
theorem b_l_pick_2 {K : PySem.W.Frag} {mg : Str → Option Value} {φ : Fds} (T : Txt P K mg φ) : ∃ ds, Vals ([] : List V) ds ∧ Binds K φ.l_pick p_l_pick ds :=
  ⟨[], .nil, T.f_l_pick.bindsN fun _ _ _ _ _ _ us hl => match us, hl with | [_, _], _ => rfl⟩
theorem b_l_parts_2 {K : PySem.W.Frag} {mg : Str → Option Value} {φ : Fds} (T : Txt P K mg φ) : ∃ ds, Vals ([] : List V) ds ∧ Binds K φ.l_parts p_l_parts ds :=
  ⟨[], .nil, T.f_l_parts.bindsN fun _ _ _ _ _ _ us hl => match us, hl with | [_, _], _ => rfl⟩
theorem b_l_plus_2 {K : PySem.W.Frag} {mg : Str → Option Value} {φ : Fds} (T : Txt P K mg φ) : ∃ ds, Vals ([] : List V) ds ∧ Binds K φ.l_plus p_l_plus ds :=
  ⟨[], .nil, T.f_l_plus.bindsN fun _ _ _ _ _ _ us hl => match us, hl with | [_, _], _ => rfl⟩
theorem b_l_less_2 {K : PySem.W.Frag} {mg : Str → Option Value} {φ : Fds} (T : Txt P K mg φ) : ∃ ds, Vals ([] : List V) ds ∧ Binds K φ.l_less p_l_less ds :=
  ⟨[], .nil, T.f_l_less.bindsN fun _ _ _ _ _ _ us hl => match us, hl with | [_, _], _ => rfl⟩
theorem b_l_mid_2 {K : PySem.W.Frag} {mg : Str → Option Value} {φ : Fds} (T : Txt P K mg φ) : ∃ ds, Vals ([] : List V) ds ∧ Binds K φ.l_mid p_l_mid ds :=
  ⟨[], .nil, T.f_l_mid.bindsN fun _ _ _ _ _ _ us hl => match us, hl with | [_, _], _ => rfl⟩
theorem b_l_cut_2 {K : PySem.W.Frag} {mg : Str → Option Value} {φ : Fds} (T : Txt P K mg φ) : ∃ ds, Vals ([] : List V) ds ∧ Binds K φ.l_cut p_l_cut ds :=
  ⟨[], .nil, T.f_l_cut.bindsN fun _ _ _ _ _ _ us hl => match us, hl with | [_, _], _ => rfl⟩
theorem b_l_part_2 {K : PySem.W.Frag} {mg : Str → Option Value} {φ : Fds} (T : Txt P K mg φ) : ∃ ds, Vals ([] : List V) ds ∧ Binds K φ.l_part p_l_part ds :=
  ⟨[], .nil, T.f_l_part.bindsN fun _ _ _ _ _ _ us hl => match us, hl with | [_, _], _ => rfl⟩
theorem b_Ladder_init_5 {K : PySem.W.Frag} {mg : Str → Option Value} {φ : Fds} (T : Txt P K mg φ) : ∃ ds, Vals ([] : List V) ds ∧ Binds K φ.Ladder_init p_Ladder_init ds :=
  T.f_Ladder_init.binds1 5 3 (by simp) rfl fun _ _ _ _ _ _ _ us its h1 h2 => match us, its, h1, h2 with | [_, _, _, _, _], [_, _, _], _, _ => ⟨_, rfl, rfl⟩
theorem b_l_of_2 {K : PySem.W.Frag} {mg : Str → Option Value} {φ : Fds} (T : Txt P K mg φ) : ∃ ds, Vals ([] : List V) ds ∧ Binds K φ.l_of p_l_of ds :=
  ⟨[], .nil, T.f_l_of.bindsN fun _ _ _ _ _ _ us hl => match us, hl with | [_, _], _ => rfl⟩
theorem b_l_scaled_2 {K : PySem.W.Frag} {mg : Str → Option Value} {φ : Fds} (T : Txt P K mg φ) : ∃ ds, Vals ([] : List V) ds ∧ Binds K φ.l_scaled p_l_scaled ds :=
  ⟨[], .nil, T.f_l_scaled.bindsN fun _ _ _ _ _ _ us hl => match us, hl with | [_, _], _ => rfl⟩
theorem b_l_drawn_2 {K : PySem.W.Frag} {mg : Str → Option Value} {φ : Fds} (T : Txt P K mg φ) : ∃ ds, Vals ([] : List V) ds ∧ Binds K φ.l_drawn p_l_drawn ds :=
  ⟨[], .nil, T.f_l_drawn.bindsN fun _ _ _ _ _ _ us hl => match us, hl with | [_, _], _ => rfl⟩
theorem bs_NoSize_init {P : Program} {K : PySem.W.Frag} {mg : Str → Option Value} {φ : Fds} (T : Txt P K mg φ) : Binds K φ.NoSize_init p_NoSize_init [] :=
  T.su_NoSize_init.bindsA fun _ _ _ _ _ us hl => match us, hl with | [_, _], _ => rfl
theorem b_led_paper_3 {K : PySem.W.Frag} {mg : Str → Option Value} {φ : Fds} (T : Txt P K mg φ) : ∃ ds, Vals ([] : List V) ds ∧ Binds K φ.led_paper p_led_paper ds :=
  ⟨[], .nil, T.f_led_paper.bindsN fun _ _ _ _ _ _ us hl => match us, hl with | [_, _, _], _ => rfl⟩
theorem b_l_asked_4 {K : PySem.W.Frag} {mg : Str → Option Value} {φ : Fds} (T : Txt P K mg φ) : ∃ ds, Vals ([] : List V) ds ∧ Binds K φ.l_asked p_l_asked ds :=
  ⟨[], .nil, T.f_l_asked.bindsN fun _ _ _ _ _ _ us hl => match us, hl with | [_, _, _, _], _ => rfl⟩
theorem b_l_made_1 {K : PySem.W.Frag} {mg : Str → Option Value} {φ : Fds} (T : Txt P K mg φ) : ∃ ds, Vals ([] : List V) ds ∧ Binds K φ.l_made p_l_made ds :=
  ⟨[], .nil, T.f_l_made.bindsN fun _ _ _ _ _ _ us hl => match us, hl with | [_], _ => rfl⟩
theorem b_l_met_2 {K : PySem.W.Frag} {mg : Str → Option Value} {φ : Fds} (T : Txt P K mg φ) : ∃ ds, Vals ([] : List V) ds ∧ Binds K φ.l_met p_l_met ds :=
  ⟨[], .nil, T.f_l_met.bindsN fun _ _ _ _ _ _ us hl => match us, hl with | [_, _], _ => rfl⟩
theorem b_led_0_other_number_one {K : PySem.W.Frag} {mg : Str → Option Value} {φ : Fds} (T : Txt P K mg φ) : ∃ its : List Value, KBn K φ.led p_led 0 ["other", "number", "one"] (fun vs zs => (fun {α : Type} (vs ds zs : List α) => (((vs ++ (zs.drop 2).take 1) ++ (zs.drop 1).take 1) ++ (zs.drop 0).take 1)) vs its zs) (fun vs zs => (fun {α : Type} (vs ds zs : List α) => (((vs ++ (zs.drop 2).take 1) ++ (zs.drop 1).take 1) ++ (zs.drop 0).take 1)) vs ([] : List V) zs) :=
  ⟨[], kb_none T.f_led (fun {α : Type} (vs zs : List α) => (fun (ds : List α) => (((vs ++ (zs.drop 2).take 1) ++ (zs.drop 1).take 1) ++ (zs.drop 0).take 1)) []) (fun a c => (((a.append ((c.drop 2).take 1)).append ((c.drop 1).take 1)).append ((c.drop 0).take 1))) fun _ _ _ _ _ _ us ws h1 h2 => match us, ws, h1, h2 with | [], [_, _, _], _, _ => rfl⟩
theorem b_led_paper_0_other_one_number {K : PySem.W.Frag} {mg : Str → Option Value} {φ : Fds} (T : Txt P K mg φ) : ∃ its : List Value, KBn K φ.led_paper p_led_paper 0 ["other", "one", "number"] (fun vs zs => (fun {α : Type} (vs ds zs : List α) => (((vs ++ (zs.drop 1).take 1) ++ (zs.drop 2).take 1) ++ (zs.drop 0).take 1)) vs its zs) (fun vs zs => (fun {α : Type} (vs ds zs : List α) => (((vs ++ (zs.drop 1).take 1) ++ (zs.drop 2).take 1) ++ (zs.drop 0).take 1)) vs ([] : List V) zs) :=
  ⟨[], kb_none T.f_led_paper (fun {α : Type} (vs zs : List α) => (fun (ds : List α) => (((vs ++ (zs.drop 1).take 1) ++ (zs.drop 2).take 1) ++ (zs.drop 0).take 1)) []) (fun a c => (((a.append ((c.drop 1).take 1)).append ((c.drop 2).take 1)).append ((c.drop 0).take 1))) fun _ _ _ _ _ _ us ws h1 h2 => match us, ws, h1, h2 with | [], [_, _, _], _, _ => rfl⟩
theorem b_Measure_repr_1 {K : PySem.W.Frag} {mg : Str → Option Value} {φ : Fds} (T : Txt P K mg φ) : ∃ ds, Vals ([] : List V) ds ∧ Binds K φ.Measure_repr p_Measure_repr ds :=
  ⟨[], .nil, T.f_Measure_repr.bindsN fun _ _ _ _ _ _ us hl => match us, hl with | [_], _ => rfl⟩
theorem b_shows_led_0_paper_number_run_other_one {K : PySem.W.Frag} {mg : Str → Option Value} {φ : Fds} (T : Txt P K mg φ) : ∃ its : List Value, KBn K φ.shows_led p_shows_led 0 ["paper", "number", "run", "other", "one"] (fun vs zs => (fun {α : Type} (vs ds zs : List α) => (((((vs ++ (zs.drop 4).take 1) ++ (zs.drop 1).take 1) ++ (zs.drop 3).take 1) ++ (zs.drop 2).take 1) ++ (zs.drop 0).take 1)) vs its zs) (fun vs zs => (fun {α : Type} (vs ds zs : List α) => (((((vs ++ (zs.drop 4).take 1) ++ (zs.drop 1).take 1) ++ (zs.drop 3).take 1) ++ (zs.drop 2).take 1) ++ (zs.drop 0).take 1)) vs ([] : List V) zs) :=
  ⟨[], kb_none T.f_shows_led (fun {α : Type} (vs zs : List α) => (fun (ds : List α) => (((((vs ++ (zs.drop 4).take 1) ++ (zs.drop 1).take 1) ++ (zs.drop 3).take 1) ++ (zs.drop 2).take 1) ++ (zs.drop 0).take 1)) []) (fun a c => (((((a.append ((c.drop 4).take 1)).append ((c.drop 1).take 1)).append ((c.drop 3).take 1)).append ((c.drop 2).take 1)).append ((c.drop 0).take 1))) fun _ _ _ _ _ _ us ws h1 h2 => match us, ws, h1, h2 with | [], [_, _, _, _, _], _, _ => rfl⟩
theorem b_l_caught_4 {K : PySem.W.Frag} {mg : Str → Option Value} {φ : Fds} (T : Txt P K mg φ) : ∃ ds, Vals ([] : List V) ds ∧ Binds K φ.l_caught p_l_caught ds :=
  ⟨[], .nil, T.f_l_caught.bindsN fun _ _ _ _ _ _ us hl => match us, hl with | [_, _, _, _], _ => rfl⟩
theorem b_l_begin_1 {K : PySem.W.Frag} {mg : Str → Option Value} {φ : Fds} (T : Txt P K mg φ) : ∃ ds, Vals ([] : List V) ds ∧ Binds K φ.l_begin p_l_begin ds :=
  ⟨[], .nil, T.f_l_begin.bindsN fun _ _ _ _ _ _ us hl => match us, hl with | [_], _ => rfl⟩
theorem b_l_ladders_3 {K : PySem.W.Frag} {mg : Str → Option Value} {φ : Fds} (T : Txt P K mg φ) : ∃ ds, Vals ([] : List V) ds ∧ Binds K φ.l_ladders p_l_ladders ds :=
  ⟨[], .nil, T.f_l_ladders.bindsN fun _ _ _ _ _ _ us hl => match us, hl with | [_, _, _], _ => rfl⟩
theorem b_l_right_3 {K : PySem.W.Frag} {mg : Str → Option Value} {φ : Fds} (T : Txt P K mg φ) : ∃ ds, Vals ([] : List V) ds ∧ Binds K φ.l_right p_l_right ds :=
  ⟨[], .nil, T.f_l_right.bindsN fun _ _ _ _ _ _ us hl => match us, hl with | [_, _, _], _ => rfl⟩
theorem ok_is_whole {P : Program} {w : World} {K : PySem.W.Frag} {mg : Str → Option Value} {base : Heap} {φ : Fds} (T : Txt P K mg φ) : FnOk P w K mg base CX0 1 (He.fAd K ("is_whole", none)) φ.is_whole p_is_whole sp_whole := by
  refine T.f_is_whole.ok sc_is_whole (fun vs H Q E h => ?_) (fun cdv A outer s H vs Q E hr h => ?_)
  · obtain ⟨n, rfl, k⟩ := h; rfl
  · obtain ⟨n, rfl, k⟩ := h
    refine ⟨_, PSs.nox (pss_one (ps_ret (pe_and (pe_callB (id := "isinstance") (isi (K := K)) (by rfl) T.z_isinstance (by decide +kernel) (pa_cons (pv 0) (pa_cons (pe_bltn (v := .ty "int") rfl T.z_int (by decide +kernel) rfl) pa_nil))) (pe_one (pe_not (pe_callB (id := "isinstance") (isi (K := K)) (by rfl) T.z_isinstance (by decide +kernel) (pa_cons (pv 0) (pa_cons (pe_bltn (v := .ty "bool") rfl T.z_bool (by decide +kernel) rfl) pa_nil)))))))), ?_⟩
    refine ⟨_, rfl, _, _, _, _, _, rfl, .ty _, .base (.int _), kit_ty (r := true) (by decide +kernel), _, rfl, ?_⟩
    refine iteT ?_
    refine ⟨_, rfl, _, _, _, _, _, rfl, .ty _, .base (.int _), kit_ty (r := false) (by decide +kernel), _, rfl, ?_⟩
    exact k
theorem ok_common_part {P : Program} {w : World} {K : PySem.W.Frag} {mg : Str → Option Value} {base : Heap} {φ : Fds} (T : Txt P K mg φ) : FnOk P w K mg base CX0 1 (He.fAd K ("common_part", none)) φ.common_part p_common_part sp_common := by
  refine T.f_common_part.ok sc_common_part (fun vs H Q E h => ?_) (fun cdv A outer s H vs Q E hr h => ?_)
  · obtain ⟨a, b, rfl, k⟩ := h; rfl
  · obtain ⟨a, b, rfl, k⟩ := h
    refine ⟨_, PSs.nox (pss_cons (ps_par (i := 2) (j := 3) rfl sc_common_part.nd rfl rfl (by decide) rfl rfl (pa_cons (pe_callB (id := "abs") call_abs (by rfl) T.z_abs (by decide +kernel) (pa_cons (pv 0) pa_nil)) (pa_cons (pe_callB (id := "abs") call_abs (by rfl) T.z_abs (by decide +kernel) (pa_cons (pv 1) pa_nil)) pa_nil)) (by rfl))
      (pss_cons (ps_while PassesOwn.never (pt_cmpR op_gt (pv 3) pe_int (nomark _))
      (pss_one (ps_par (i := 2) (j := 3) rfl sc_common_part.nd rfl rfl (by decide) rfl rfl (pa_cons (pv 3) (pa_cons (pe_op op_mod (pv 2) (pv 3)) pa_nil)) (by rfl))))
      (pss_one (ps_ret (pv 2))))), ?_⟩
    refine ⟨_, rfl, _, rfl, _, rfl, _, rfl, _, _, rfl, ?_⟩
    refine while_by (fun σ H' => H' = H ∧ ∃ g s : Int, σ = [some (.int a), some (.int b), some (.int g), some (.int s)] ∧ 0 ≤ g ∧ 0 ≤ s ∧ Int.gcd g s = Int.gcd a b)
      (fun σ _ => match σ with | [_, _, _, some (.int s)] => s.toNat | _ => 0) ⟨rfl, _, _, rfl, ?_, ?_, ?_⟩ ?_ (fun σ H Q Q' hQ ⟨v, e1, i, j, e2, e3, c, e4, q⟩ => ⟨v, e1, i, j, e2, e3, c, e4, hQ _ _ q⟩)
    · split <;> omega
    · split <;> omega
    · have e1 : (if a < 0 then -a else a) = (a.natAbs : Int) := by split <;> omega
      have e2 : (if b < 0 then -b else b) = (b.natAbs : Int) := by split <;> omega
      rw [e1, e2]
      rfl
    · rintro σ H' ⟨rfl, g, s, rfl, hg, hs, e⟩
      refine ⟨_, rfl, _, _, rfl, rfl, _, rfl, ?_⟩
      refine ite2 (fun c => ?_) (fun c => ?_)
      · have c0 : 0 < s := of_decide_eq_true c
        refine ⟨_, rfl, _, rfl, _, rfl, _, _, rfl, rfl, c0, _, _, rfl, ?_⟩
        refine ⟨⟨rfl, s, g % s, rfl, hs, Int.emod_nonneg _ (by omega), (gcd_step c0 hg).trans e⟩, ?_⟩
        show (g % s).toNat < s.toNat
        have h1 := Int.emod_nonneg g (show s ≠ 0 by omega)
        have h2 := Int.emod_lt_of_pos g c0
        omega
      · have c0 : ¬ 0 < s := fun z => c (decide_eq_true z)
        have s0 : s = 0 := by omega
        subst s0
        refine ⟨_, rfl, ?_⟩
        have eg : g = (Int.gcd a b : Int) := by
          rw [← e, Int.gcd_zero_right]
          omega
        rw [eg]
        exact k
theorem ok_Measure_init {P : Program} {w : World} {K : PySem.W.Frag} {mg : Str → Option Value} {base : Heap} {φ : Fds} (T : Txt P K mg φ) : FnOk P w K mg base CX0 2 (He.fAd K ("Measure", some "__init__")) φ.Measure_init p_Measure_init (sp_minit (He.ga K "Measure")) := by
  obtain ⟨_, B0v, B0⟩ := b_is_whole_1 T
  obtain ⟨_, B1v, B1⟩ := b_common_part_2 T
  refine T.f_Measure_init.ok sc_Measure_init (fun vs H Q E h => ?_) (fun cdv A outer s H vs Q E hr h => ?_)
  · obtain ⟨p, dx, a, b, rfl, hp, hb, hl, k⟩ := h; rfl
  · obtain ⟨p, dx, a, b, rfl, hp, hb, hl, k⟩ := h
    refine ⟨_, PSs.nox (pss_cons (ps_if (PW.pt (pw_or (pt_not (pt_val (pe_call (ok_is_whole (K := K) T) (hr.mono (by decide)) rfl T.g_is_whole T.f_is_whole.kp B0 B0v pass0 (pa_cons (pv 1) pa_nil)))) (pw_or1 (pt_not (pt_val (pe_call (ok_is_whole (K := K) T) (hr.mono (by decide)) rfl T.g_is_whole T.f_is_whole.kp B0 B0v pass0 (pa_cons (pv 2) pa_nil)))))))
      (pss_one ps_never)
      pss_nil)
      (pss_cons (ps_if (pt_cmpR op_eq (pv 2) pe_int (nomark _))
      (pss_one ps_never)
      pss_nil)
      (pss_cons (ps_set (i := 3) sc_Measure_init.nd rfl (Or.inl rfl) (pe_call (ok_common_part (K := K) T) (hr.mono (by decide)) rfl T.g_common_part T.f_common_part.kp B1 B1v pass0 (pa_cons (pv 1) (pa_cons (pv 2) pa_nil))))
      (pss_cons (ps_cut (ps_if (pt_cmpR op_lt (pv 2) pe_int (nomark _))
      (pss_one (ps_set (i := 3) sc_Measure_init.nd rfl (Or.inl rfl) (pe_un un_neg (pv 3))))
      pss_nil))
      (pss_cons (ps_fld (pv 0) (pe_op op_fd (pv 1) (pv 3)) rfl)
      (pss_one (ps_fld (pv 0) (pe_op op_fd (pv 2) (pv 3)) rfl))))))), ?_⟩
    refine ⟨_, rfl, a, rfl, _, rfl, ?_⟩
    refine iteF ?_
    refine ⟨_, rfl, b, rfl, _, rfl, ?_⟩
    refine iteF ?_
    refine ⟨_, rfl, rfl, _, rfl, ?_⟩
    rw [dI]
    refine ite2 (fun e => absurd (of_decide_eq_true e) hb) (fun _ => ?_)
    refine ⟨_, rfl, _, rfl, a, b, rfl, ?_⟩
    refine ⟨fun σ' H' => H' = H ∧ ∃ c : Int, c = sgn b * (Int.gcd a b : Int) ∧ σ' = [some (.ref p), some (.int a), some (.int b), some (.int c)], ?_, ?_⟩
    · refine ⟨_, rfl, _, _, rfl, rfl, _, rfl, ?_⟩
      refine ite2 (fun e => ?_) (fun e => ?_)
      · have e0 : b < 0 := of_decide_eq_true e
        refine ⟨_, rfl, _, rfl, rfl, _, ?_, rfl⟩
        unfold sgn
        rw [if_neg (by omega), Int.neg_one_mul]
      · have e0 : ¬ b < 0 := fun z => e (decide_eq_true z)
        refine ⟨rfl, _, ?_, rfl⟩
        unfold sgn
        rw [if_pos (by omega), Int.one_mul]
    · rintro σ' H' ⟨rfl, c, hc, rfl⟩
      obtain ⟨c0, cl, fr⟩ := fr_mk hb hc
      have c9 : c.natAbs.log2 < 9000 := by
        refine Nat.lt_of_le_of_lt ?_ hl
        exact (Nat.le_log2 (by omega)).mpr (Nat.le_trans (Nat.log2_self_le (by omega)) cl)
      refine ⟨_, rfl, _, rfl, _, _, rfl, rfl, ⟨c0, c9⟩, _, rfl, p, _, dx, _, rfl, hp, T.cl_Measure, T.na_Measure_top, (by show 0 < 1000; decide), ?_⟩
      refine ⟨_, rfl, _, rfl, _, _, rfl, rfl, ⟨c0, c9⟩, _, rfl, p, _, dx, _, rfl, upd_same, T.cl_Measure, T.na_Measure_bottom, (by show 1 < 1000; decide), ?_⟩
      refine k _ _ _ fr ?_ fun q o e nq => ?_
      · rw [upd_same, mf_put]
      · rw [upd_ne nq, upd_ne nq]
        exact e
theorem ok_Measure_is_below {P : Program} {w : World} {K : PySem.W.Frag} {mg : Str → Option Value} {base : Heap} {φ : Fds} (T : Txt P K mg φ) : FnOk P w K mg base CX0 1 (He.fAd K ("Measure", some "is_below")) φ.Measure_is_below p_Measure_is_below (sp_below (He.ga K "Measure")) := by
  refine T.f_Measure_is_below.ok sc_Measure_is_below (fun vs H Q E h => ?_) (fun cdv A outer s H vs Q E hr h => ?_)
  · obtain ⟨p, q, t, u, t', u', al, rfl, ⟨dp, hp⟩, ⟨dq, hq⟩, st, su, st', su', k⟩ := h; rfl
  · obtain ⟨p, q, t, u, t', u', al, rfl, ⟨dp, hp⟩, ⟨dq, hq⟩, st, su, st', su', k⟩ := h
    refine ⟨_, PSs.nox (pss_cons (ps_set (i := 3) sc_Measure_is_below.nd rfl (Or.inl rfl) (pe_op op_mulA (fldK (K := K) (pv 0) rfl) (fldK (K := K) (pv 1) rfl)))
      (pss_cons (ps_set (i := 4) sc_Measure_is_below.nd rfl (Or.inl rfl) (pe_op op_mulA (fldK (K := K) (pv 1) rfl) (fldK (K := K) (pv 0) rfl)))
      (pss_one (ps_ret (pe_or (pe_cmpR op_lt (pv 3) (pv 4) (nomark _)) (pe_one (pe_and (pv 2) (pe_one (pe_cmpR op_eq (pv 3) (pv 4) (nomark _)))))))))), ?_⟩
    refine ⟨_, rfl, _, _, _, _, _, rfl, hp, T.cl_Measure, T.na_Measure_top, mf_top _ _, _, rfl, _, _, _, _, _, rfl, hq, T.cl_Measure, T.na_Measure_bottom, mf_bottom _ _, _, _, rfl, rfl, st.cmul su' (by decide) (by decide) (by decide), ?_⟩
    refine ⟨_, rfl, _, _, _, _, _, rfl, hq, T.cl_Measure, T.na_Measure_top, mf_top _ _, _, rfl, _, _, _, _, _, rfl, hp, T.cl_Measure, T.na_Measure_bottom, mf_bottom _ _, _, _, rfl, rfl, st'.cmul su (by decide) (by decide) (by decide), ?_⟩
    refine ⟨_, rfl, _, rfl, _, _, rfl, rfl, _, rfl, ?_⟩
    have e : ∀ b : Bool, b = lessA t u t' u' al → Q (.bl b) H := fun b z => by rw [z]; exact k
    refine ite2 (fun c => e _ ?_) (fun c => ?_)
    · unfold lessA
      rw [c]
      rfl
    · have c0 : decide (t * u' < t' * u) = false := by simpa using c
      refine ⟨_, rfl, _, rfl, ?_⟩
      cases al with
      | false =>
        refine iteF (e _ ?_)
        unfold lessA
        rw [c0]
        rfl
      | true =>
        refine iteT ?_
        refine ⟨_, rfl, _, rfl, rfl, e _ ?_⟩
        unfold lessA
        rw [c0, dI]
        rfl
theorem ok_slip_of {P : Program} {w : World} {K : PySem.W.Frag} {mg : Str → Option Value} {base : Heap} {φ : Fds} (T : Txt P K mg φ) : FnOk P w K mg base CX0 2 (He.fAd K ("slip_of", none)) φ.slip_of p_slip_of (sp_slip K (He.ga K "Measure")) := by
  obtain ⟨_, B0v, B0⟩ := b_Measure_is_below_2 T
  refine T.f_slip_of.ok sc_slip_of (fun vs H Q E h => ?_) (fun cdv A outer s H vs Q E hr h => ?_)
  · obtain ⟨T', k, ps, zs, rfl, hT, hm, hk, hl, kk⟩ := h; rfl
  · obtain ⟨T', k, ps, zs, rfl, hT, hm, hk, hl, kk⟩ := h
    refine ⟨_, PSs.nox (pss_cons (ps_for PassesOwn.never rfl (pi_range2 rfl T.z_range (pa_cons pe_int (pa_cons (pe_callB (id := "len") (lenS (K := K)) (by rfl) T.z_len PySem.boot_len (pa_cons (pv 0) pa_nil)) pa_nil))) (pg_name (i := 1) sc_slip_of.nd rfl (Or.inl rfl))
      (pss_one (ps_if (pt_not (pt_val (pe_meth (pe_ix (ixt (K := K)) (pv 0) (pe_op op_sub (pv 1) pe_int) (fun _ _ => rfl)) T.cl_Measure T.me_Measure_is_below (ok_Measure_is_below (K := K) T) (hr.mono (by decide)) B0 B0v pass0 (pa_cons (pe_ix (ixt (K := K)) (pv 0) (pv 1) (fun _ _ => rfl)) pa_nil))))
      (pss_one (ps_ret (pv 1)))
      pss_nil)))
      (pss_one (ps_ret pe_non))), ?_⟩
    have el : ((ps.length : Nat) : Int) = (zs.length : Int) := by rw [hm.len]
    walk_at "w"
    refine for_range (fun i σ H' => H' = H ∧ (∃ v, σ = [some (.ref T'), v]) ∧ ∀ j a b, j < i → zs[j]? = some a → zs[j + 1]? = some b → ltq a b = true) ⟨rfl, ⟨_, rfl⟩, fun j a b z => by omega⟩ ?_ ?_
    · rintro i σ H1 hi ⟨rfl, ⟨v, rfl⟩, hp⟩
      obtain ⟨a, ha⟩ := ge2 (zs := zs) (n := i) (by omega)
      obtain ⟨b, hb⟩ := ge2 (zs := zs) (n := i + 1) (by omega)
      obtain ⟨p, ep, qp⟩ := hm.at ha
      obtain ⟨q, eq, qq⟩ := hm.at hb
      walk_at "w"
      refine ⟨atI_of (n := i) (by omega) ep, ?_⟩
      walk_at "w"
      refine ⟨atI_of (n := i + 1) (by omega) eq, ?_⟩
      walk_at "w"
      cases e : ltq a b with
      | false =>
        refine iteT ⟨_, rfl, ?_⟩
        have z : (1 : Int) + i = ((i + 1 : Nat) : Int) := by omega
        rw [z]
        refine kk (some (i + 1)) ⟨by omega, by omega, fun a' b' h1 h2 => ?_, fun j a' b' hj h1 h2 => hp j a' b' (by omega) h1 h2⟩
        rw [Nat.add_sub_cancel, ha] at h1
        rw [hb] at h2
        cases h1; cases h2
        exact e
      | true =>
        refine iteF ⟨rfl, ⟨_, rfl⟩, fun j a' b' hj h1 h2 => ?_⟩
        by_cases hji : j < i
        · exact hp j a' b' hji h1 h2
        · have : j = i := by omega
          subst this
          rw [ha] at h1
          rw [hb] at h2
          cases h1; cases h2
          exact e
    · rintro σ H1 ⟨rfl, ⟨v, rfl⟩, hp⟩
      refine kk none fun j a b h1 h2 => hp j a b ?_ h1 h2
      have := (List.getElem?_eq_some_iff.mp h2).1
      omega
theorem ok_is_measure_or_none {P : Program} {w : World} {K : PySem.W.Frag} {mg : Str → Option Value} {base : Heap} {φ : Fds} (T : Txt P K mg φ) : FnOk P w K mg base CX0 1 (He.fAd K ("is_measure_or_none", none)) φ.is_measure_or_none p_is_measure_or_none (sp_isend (He.ga K "Measure")) := by
  refine T.f_is_measure_or_none.ok sc_is_measure_or_none (fun vs H Q E h => ?_) (fun cdv A outer s H vs Q E hr h => ?_)
  · obtain ⟨v, m, rfl, hv, k⟩ := h; rfl
  · obtain ⟨v, m, rfl, hv, k⟩ := h
    refine ⟨_, PSs.nox (pss_one (ps_ret (pe_or (pe_cmpR op_isN (pv 0) pe_non (nomark _)) (pe_one (pe_callB (id := "isinstance") (isi (K := K)) (by rfl) T.z_isinstance (by decide +kernel) (pa_cons (pv 0) (pa_cons (pe_glob (v := .ref (He.ga K "Measure")) rfl T.g_Measure rfl) pa_nil))))))), ?_⟩
    refine ⟨_, rfl, rfl, _, rfl, ?_⟩
    cases m with
    | none => cases hv; exact iteT k
    | some a =>
      obtain ⟨p, rfl, dx, hp⟩ := hv
      refine iteF ?_
      exact ⟨_, rfl, _, _, _, _, true, rfl, .own _, tyM hp T.cl_Measure T.ii_Measure, T.k_Measure_Measure, k⟩
theorem ok_are_marks {P : Program} {w : World} {K : PySem.W.Frag} {mg : Str → Option Value} {base : Heap} {φ : Fds} (T : Txt P K mg φ) : FnOk P w K mg base CX0 1 (He.fAd K ("are_marks", none)) φ.are_marks p_are_marks (sp_arem K (He.ga K "Measure")) := by
  refine T.f_are_marks.ok sc_are_marks (fun vs H Q E h => ?_) (fun cdv A outer s H vs Q E hr h => ?_)
  · obtain ⟨T', k, ps, zs, rfl, hT, hm, h0, h1, kk⟩ := h; rfl
  · obtain ⟨T', k, ps, zs, rfl, hT, hm, h0, h1, kk⟩ := h
    refine ⟨_, PSs.nox (pss_cons (ps_if (PW.pt (pw_or (pt_not (pt_val (pe_callB (id := "isinstance") (isi (K := K)) (by rfl) T.z_isinstance (by decide +kernel) (pa_cons (pv 0) (pa_cons (pe_bltn (v := .ty "tuple") rfl T.z_tuple (by decide +kernel) rfl) pa_nil))))) (pw_or1 (pt_not (pt_chain op_le op_le pe_int (pe_callB (id := "len") (lenS (K := K)) (by rfl) T.z_len PySem.boot_len (pa_cons (pv 0) pa_nil)) (C8.pe_gc (v := .int 24) rfl (T.v_MOST_MARKS.elim fun t e => ⟨_, e, ⟨t, rfl⟩⟩)))))))
      (pss_one (ps_ret pe_bl))
      pss_nil)
      (pss_one (ps_ret (pe_callB (id := "all") (allK (K := K)) (by rfl) T.z_all (by decide +kernel) (pa_cons (pe_lc (own := [("mark", 1)]) (g := gName 1) rfl sc_are_marks.nd (pi_tup (pv 0)) (blkOk_by (own := [("mark", 1)]) (N := N_are_marks) (sc := (defScope s_are_marks)) (by decide +kernel)) (fun _ _ _ _ _ => (pg_name (i := 1) sc_are_marks.nd rfl (Or.inl rfl))) (fun _ _ _ _ _ => pts_nil) (fun _ _ _ _ _ => (pe_callB (id := "isinstance") (isi (K := K)) (by rfl) T.z_isinstance (by decide +kernel) (pa_cons (pv 1) (pa_cons (pe_glob (v := .ref (He.ga K "Measure")) rfl T.g_Measure rfl) pa_nil))))) pa_nil))))), ?_⟩
    have el : ps.length = zs.length := hm.len
    refine ⟨_, rfl, _, _, _, _, _, rfl, .ty _, tyTup hT, kit_ty (r := true) (by decide +kernel), _, rfl, iteF ?_⟩
    walk_at "w"
    refine ⟨⟨_, hT⟩, fun D nD => ?_⟩
    refine lcz (n := ps.length) walk_tup (fun _ _ g s => s.sqt g) (List.replicate ps.length (some (V.bl true))) (by simp) (by rw [sizeLine_eq]; omega) hT nD (fun i x H1 H2 z N M hi hz s1 y hN hM => ?_) (fun H1 s1 hD => ?_)
    · obtain ⟨rfl, hx⟩ := y
      obtain ⟨p, z1, rfl, _, qz⟩ := (hm.same s1).of hx
      obtain ⟨⟨t, u, ⟨dx, hp⟩, _⟩, _⟩ := qz
      rw [List.getElem?_replicate, if_pos hi] at hz
      cases hz
      refine ⟨rfl, yesT ?_⟩
      exact ⟨_, rfl, _, _, _, _, _, rfl, .own _, tyM hp T.cl_Measure T.ii_Measure, T.k_Measure_Measure, hN _ _ rfl (Same.refl _)⟩
    have e : (List.replicate ps.length (some (V.bl true))).filterMap _root_.id = (List.replicate ps.length true).map V.bl := by
      generalize ps.length = n
      induction n with
      | zero => rfl
      | succ n ih => rw [List.replicate_succ, List.replicate_succ]; simpa using ih
    rw [e] at hD
    refine ⟨D, _, rfl, SqL.of hD, ?_⟩
    have e2 : (List.replicate ps.length true).all _root_.id = true := by
      generalize ps.length = n
      induction n with
      | zero => rfl
      | succ n ih => rw [List.replicate_succ]; simpa using ih
    rw [e2]
    exact kk _ s1
theorem ok_is_rule {P : Program} {w : World} {K : PySem.W.Frag} {mg : Str → Option Value} {base : Heap} {φ : Fds} (T : Txt P K mg φ) : FnOk P w K mg base CX0 1 (He.fAd K ("is_rule", none)) φ.is_rule p_is_rule sp_isrule := by
  refine T.f_is_rule.ok sc_is_rule (fun vs H Q E h => ?_) (fun cdv A outer s H vs Q E hr h => ?_)
  · obtain ⟨r, rfl, hr', kk⟩ := h; rfl
  · obtain ⟨r, rfl, hr', kk⟩ := h
    refine ⟨_, PSs.nox (pss_one (ps_ret (pe_and (pe_callB (id := "isinstance") (isi (K := K)) (by rfl) T.z_isinstance (by decide +kernel) (pa_cons (pv 0) (pa_cons (pe_bltn (v := .ty "str") rfl T.z_str (by decide +kernel) rfl) pa_nil))) (pe_one (pe_cmpR (inK (K := K)) (pv 0) (pe_glob (v := .ref (He.ga K "RULES")) rfl T.g_RULES rfl) (by rfl)))))), ?_⟩
    refine ⟨_, rfl, _, _, _, _, _, rfl, .ty _, .base (.str _), kit_ty (r := true) (by decide +kernel), _, rfl, iteT ?_⟩
    refine ⟨_, rfl, _, _, rfl, .inr (T.tp_RULES H), rfl, rfl, ?_⟩
    have e : inV (.str r) (([Str.ofString "up", Str.ofString "down", Str.ofString "near"] : List Str).map V.str) = true := by
      rcases hr' with rfl | rfl | rfl <;> decide +kernel
    simp only [Bool.false_eq_true, if_false]
    rw [e]
    exact kk
theorem ok_is_span {P : Program} {w : World} {K : PySem.W.Frag} {mg : Str → Option Value} {base : Heap} {φ : Fds} (T : Txt P K mg φ) : FnOk P w K mg base CX0 2 (He.fAd K ("is_span", none)) φ.is_span p_is_span (sp_span (He.ga K "Measure")) := by
  obtain ⟨_, B0v, B0⟩ := b_Measure_is_below_3 T
  refine T.f_is_span.ok sc_is_span (fun vs H Q E h => ?_) (fun cdv A outer s H vs Q E hr h => ?_)
  · obtain ⟨l, h, k, lo, hi, rfl, ql, qh, hk, kk⟩ := h; rfl
  · obtain ⟨l, h, k, lo, hi, rfl, ql, qh, hk, kk⟩ := h
    refine ⟨_, PSs.nox (pss_one (ps_ret (pe_or (pe_cmpR op_isN (pv 0) pe_non (nomark _)) (pe_or (pe_cmpR op_isN (pv 1) pe_non (nomark _)) (pe_one (pe_meth (pv 0) T.cl_Measure T.me_Measure_is_below (ok_Measure_is_below (K := K) T) (hr.mono (by decide)) B0 B0v pass0 (pa_cons (pv 1) (pa_cons pe_bl pa_nil)))))))), ?_⟩
    cases lo with
    | none =>
      cases ql
      walk_at "w"
      exact kk
    | some a =>
      obtain ⟨pl, rfl, qa⟩ := ql
      cases hi with
      | none =>
        cases qh
        walk_at "w"
        exact kk
      | some b =>
        obtain ⟨ph, rfl, qb⟩ := qh
        rw [span_leq] at kk
        walk_at "w"
        exact kk
theorem ok_Ladder_init {P : Program} {w : World} {K : PySem.W.Frag} {mg : Str → Option Value} {base : Heap} {φ : Fds} (T : Txt P K mg φ) : FnOk P w K mg base CX0 3 (He.fAd K ("Ladder", some "__init__")) φ.Ladder_init p_Ladder_init (sp_linit K (He.ga K "Measure") (He.ga K "Ladder")) := by
  obtain ⟨_, B0v, B0⟩ := b_are_marks_1 T
  obtain ⟨_, B1v, B1⟩ := b_is_rule_1 T
  obtain ⟨_, B2v, B2⟩ := b_is_measure_or_none_1 T
  obtain ⟨_, B3v, B3⟩ := b_is_span_2 T
  obtain ⟨_, B4v, B4⟩ := b_slip_of_1 T
  refine T.f_Ladder_init.ok sc_Ladder_init (fun vs H Q E h => ?_) (fun cdv A outer s H vs Q E hr h => ?_)
  · obtain ⟨p, dx, T', k, ps, zs, r, l, h, lo, hi, rfl, hp, hT, hm, hk, h0, h1, hri, hru, ql, qh, hsp, kk⟩ := h; rfl
  · obtain ⟨p, dx, T', k, ps, zs, r, l, h, lo, hi, rfl, hp, hT, hm, hk, h0, h1, hri, hru, ql, qh, hsp, kk⟩ := h
    refine ⟨_, PSs.nox (pss_cons (ps_if (pt_not (pt_val (pe_call (ok_are_marks (K := K) T) (hr.mono (by decide)) rfl T.g_are_marks T.f_are_marks.kp B0 B0v pass0 (pa_cons (pv 1) pa_nil))))
      (pss_one ps_never)
      pss_nil)
      (pss_cons (ps_if (pt_not (pt_val (pe_call (ok_is_rule (K := K) T) (hr.mono (by decide)) rfl T.g_is_rule T.f_is_rule.kp B1 B1v pass0 (pa_cons (pv 2) pa_nil))))
      (pss_one ps_never)
      pss_nil)
      (pss_cons (ps_if (PW.pt (pw_or (pt_not (pt_val (pe_call (ok_is_measure_or_none (K := K) T) (hr.mono (by decide)) rfl T.g_is_measure_or_none T.f_is_measure_or_none.kp B2 B2v pass0 (pa_cons (pv 3) pa_nil)))) (pw_or1 (pt_not (pt_val (pe_call (ok_is_measure_or_none (K := K) T) (hr.mono (by decide)) rfl T.g_is_measure_or_none T.f_is_measure_or_none.kp B2 B2v pass0 (pa_cons (pv 4) pa_nil)))))))
      (pss_one ps_never)
      pss_nil)
      (pss_cons (ps_if (pt_not (pt_val (pe_call (ok_is_span (K := K) T) (hr.mono (by decide)) rfl T.g_is_span T.f_is_span.kp B3 B3v pass0 (pa_cons (pv 3) (pa_cons (pv 4) pa_nil)))))
      (pss_one ps_never)
      pss_nil)
      (pss_cons (ps_set (i := 5) sc_Ladder_init.nd rfl (Or.inl rfl) (pe_call (ok_slip_of (K := K) T) (hr.mono (by decide)) rfl T.g_slip_of T.f_slip_of.kp B4 B4v pass0 (pa_cons (pv 1) pa_nil)))
      (pss_cons (ps_if (pt_cmpR op_notN (pv 5) pe_non (nomark _))
      (pss_one ps_never)
      pss_nil)
      (pss_cons (ps_fld (pv 0) (pv 1) rfl)
      (pss_cons (ps_fld (pv 0) (pv 2) rfl)
      (pss_cons (ps_fld (pv 0) (pv 3) rfl)
      (pss_one (ps_fld (pv 0) (pv 4) rfl))))))))))), ?_⟩
    obtain ⟨mlo, mql, _, _⟩ := ql.low hk
    obtain ⟨mhi, mqh, _, _⟩ := qh.low hk
    have cl_Ladder := T.cl_Ladder
    have na_Ladder_marks := T.na_Ladder_marks
    have na_Ladder_rule := T.na_Ladder_rule
    have na_Ladder_least := T.na_Ladder_least
    have na_Ladder_most := T.na_Ladder_most
    
    walk_at "w"
    refine ⟨zs, rfl, hT, hm, h0, h1, fun H1 s1 => ?_⟩
    walk_at "w"
    refine ⟨mlo, rfl, mql.same s1, ?_⟩
    walk_at "w"
    refine ⟨mhi, rfl, mqh.same s1, ?_⟩
    have hT1 := s1.sqt hT
    have hm1 := hm.same s1
    replace ql := ql.same s1
    replace qh := qh.same s1
    have hp1 := s1 _ _ hp
    walk_at "w"
    refine ⟨lo, hi, rfl, ql, qh, by omega, ?_⟩
    rw [hsp]
    walk_at "w"
    refine ⟨zs, rfl, hT1, hm1, by omega, by omega, fun o ho => ?_⟩
    have eo : o = none := by
      cases o with
      | none => rfl
      | some n =>
        obtain ⟨n1, n2, n3, _⟩ := ho
        obtain ⟨a, ha⟩ := ge2 (zs := zs) (n := n - 1) (by omega)
        obtain ⟨b, hb⟩ := ge2 (zs := zs) (n := n) n2
        have z1 := n3 a b ha hb
        have z2 := hri (n - 1) a b ha (by rw [Nat.sub_add_cancel n1]; exact hb)
        rw [z1] at z2
        cases z2
    subst eo
    walk_at "w"
    refine ⟨by show 0 < 1000; decide, ?_⟩
    refine ⟨_, rfl, _, rfl, p, _, dx, _, rfl, upd_same, cl_Ladder, na_Ladder_rule, by show 1 < 1000; decide, ?_⟩
    refine ⟨_, rfl, _, rfl, p, _, dx, _, rfl, upd_same, cl_Ladder, na_Ladder_least, by show 2 < 1000; decide, ?_⟩
    refine ⟨_, rfl, _, rfl, p, _, dx, _, rfl, upd_same, cl_Ladder, na_Ladder_most, by show 3 < 1000; decide, ?_⟩
    refine kk _ ?_ fun c o ec nc => ?_
    · rw [upd_same, lf_put]
    · rw [upd_ne nc, upd_ne nc, upd_ne nc, upd_ne nc]
      exact s1 _ _ ec
theorem ok_Measure_plus {P : Program} {w : World} {K : PySem.W.Frag} {mg : Str → Option Value} {base : Heap} {φ : Fds} (T : Txt P K mg φ) : FnOk P w K mg base CX0 4 (He.fAd K ("Measure", some "plus")) φ.Measure_plus p_Measure_plus (sp_bin2 (He.ga K "Measure") (fun t u t' u' => t * u' + t' * u) (fun t u t' u' => u * u')) := by
  obtain ⟨_, B0v, B0⟩ := b_Measure_init_3 T
  refine T.f_Measure_plus.ok sc_Measure_plus (fun vs H Q E h => ?_) (fun cdv A outer s H vs Q E hr h => ?_)
  · obtain ⟨p, q, t, u, t', u', rfl, ⟨dp, hp⟩, ⟨dq, hq⟩, hu, hu', st, su, st', su', sg, k⟩ := h; rfl
  · obtain ⟨p, q, t, u, t', u', rfl, ⟨dp, hp⟩, ⟨dq, hq⟩, hu, hu', st, su, st', su', sg, k⟩ := h
    refine ⟨_, PSs.nox (pss_one (ps_ret (pe_make T.mk_Measure (ok_Measure_init (K := K) T) (hr.mono (by decide)) rfl T.g_Measure B0 B0v pass0 (pa_cons (pe_op op_add (pe_op op_mulA (fldK (K := K) (pv 0) rfl) (fldK (K := K) (pv 1) rfl)) (pe_op op_mulA (fldK (K := K) (pv 1) rfl) (fldK (K := K) (pv 0) rfl))) (pa_cons (pe_op op_mulA (fldK (K := K) (pv 0) rfl) (fldK (K := K) (pv 1) rfl)) pa_nil))))), ?_⟩
    refine ⟨_, rfl, _, _, _, _, _, rfl, hp, T.cl_Measure, T.na_Measure_top, mf_top _ _, _, rfl, _, _, _, _, _, rfl, hq, T.cl_Measure, T.na_Measure_bottom, mf_bottom _ _, _, _, rfl, rfl, st.cmul su' (by decide) (by decide) (by decide), _, rfl, _, _, _, _, _, rfl, hq, T.cl_Measure, T.na_Measure_top, mf_top _ _, _, rfl, _, _, _, _, _, rfl, hp, T.cl_Measure, T.na_Measure_bottom, mf_bottom _ _, _, _, rfl, rfl, st'.cmul su (by decide) (by decide) (by decide), _, _, rfl, rfl, _, rfl, _, _, _, _, _, rfl, hp, T.cl_Measure, T.na_Measure_bottom, mf_bottom _ _, _, rfl, _, _, _, _, _, rfl, hq, T.cl_Measure, T.na_Measure_bottom, mf_bottom _ _, _, _, rfl, rfl, su.cmul su' (by decide) (by decide) (by decide), ?_⟩
    intro x dx nx nd ne
    refine ⟨x, dx, _, _, rfl, upd_same, Int.mul_ne_zero (by omega) (by omega), sg.log (by decide) (by decide), fun t2 u2 H' fr hx kp => ⟨rfl, ?_⟩⟩
    exact k x t2 u2 H' nx (made_same nx nd kp) ⟨_, hx⟩ fr
theorem ok_Measure_parted {P : Program} {w : World} {K : PySem.W.Frag} {mg : Str → Option Value} {base : Heap} {φ : Fds} (T : Txt P K mg φ) : FnOk P w K mg base CX0 4 (He.fAd K ("Measure", some "parted")) φ.Measure_parted p_Measure_parted (sp_part2 (He.ga K "Measure")) := by
  obtain ⟨_, B0v, B0⟩ := b_Measure_init_3 T
  refine T.f_Measure_parted.ok sc_Measure_parted (fun vs H Q E h => ?_) (fun cdv A outer s H vs Q E hr h => ?_)
  · obtain ⟨p, t, u, m, rfl, ⟨dp, hp⟩, hu, hm, st, su, sm, sg, k⟩ := h; rfl
  · obtain ⟨p, t, u, m, rfl, ⟨dp, hp⟩, hu, hm, st, su, sm, sg, k⟩ := h
    refine ⟨_, PSs.nox (pss_one (ps_ret (pe_make T.mk_Measure (ok_Measure_init (K := K) T) (hr.mono (by decide)) rfl T.g_Measure B0 B0v pass0 (pa_cons (fldK (K := K) (pv 0) rfl) (pa_cons (pe_op op_mulA (fldK (K := K) (pv 0) rfl) (pv 1)) pa_nil))))), ?_⟩
    refine ⟨_, rfl, _, _, _, _, _, rfl, hp, T.cl_Measure, T.na_Measure_top, mf_top _ _, _, rfl, _, _, _, _, _, rfl, hp, T.cl_Measure, T.na_Measure_bottom, mf_bottom _ _, _, rfl, _, _, rfl, rfl, su.cmul sm (by decide) (by decide) (by decide), ?_⟩
    intro x dx nx nd ne
    refine ⟨x, dx, _, _, rfl, upd_same, Int.mul_ne_zero (by omega) hm, sg.log (by decide) (by decide), fun t2 u2 H' fr hx kp => ⟨rfl, ?_⟩⟩
    exact k x t2 u2 H' nx (made_same nx nd kp) ⟨_, hx⟩ fr
theorem ok_midsts_of {P : Program} {w : World} {K : PySem.W.Frag} {mg : Str → Option Value} {base : Heap} {φ : Fds} (T : Txt P K mg φ) : FnOk P w K mg base CX0 5 (He.fAd K ("midsts_of", none)) φ.midsts_of p_midsts_of (sp_mids K (He.ga K "Measure")) := by
  obtain ⟨_, B0v, B0⟩ := b_Measure_parted_1 T
  obtain ⟨_, B1v, B1⟩ := b_Measure_plus_2 T
  refine T.f_midsts_of.ok sc_midsts_of (fun vs H Q E h => ?_) (fun cdv A outer s H vs Q E hr h => ?_)
  · obtain ⟨T', k, ps, zs, rfl, hT, hm, h0, h1, l0, l1, kk⟩ := h; rfl
  · obtain ⟨T', k, ps, zs, rfl, hT, hm, h0, h1, l0, l1, kk⟩ := h
    refine ⟨_, PSs.nox (pss_one (ps_ret (pe_lc (own := [("at", 1)]) (g := gName 1) rfl sc_midsts_of.nd (pi_range2 rfl T.z_range (pa_cons pe_int (pa_cons (pe_callB (id := "len") (lenS (K := K)) (by rfl) T.z_len PySem.boot_len (pa_cons (pv 0) pa_nil)) pa_nil))) (blkOk_by (own := [("at", 1)]) (N := N_midsts_of) (sc := (defScope s_midsts_of)) (by decide +kernel)) (fun _ _ _ _ _ => (pg_name (i := 1) sc_midsts_of.nd rfl (Or.inl rfl))) (fun _ _ _ _ _ => pts_nil) (fun _ _ _ _ _ => (pe_meth0 (pe_meth (pe_ix (ixt (K := K)) (pv 0) (pe_op op_sub (pv 1) pe_int) (fun _ _ => rfl)) T.cl_Measure T.me_Measure_plus (ok_Measure_plus (K := K) T) (hr.mono (by decide)) B1 B1v pass0 (pa_cons (pe_ix (ixt (K := K)) (pv 0) (pv 1) (fun _ _ => rfl)) pa_nil)) T.cl_Measure T.me_Measure_parted (ok_Measure_parted (K := K) T) (hr.mono (by decide)) B0 B0v pass0))))), ?_⟩
    have el : ps.length = zs.length := hm.len
    walk_at "w"
    intro D nD
    refine lcr walk_range (fun _ _ _ _ => trivial) (fun i H v => ∃ p z, v = .ref p ∧ (midq zs)[i]? = some z ∧ QAt (He.ga K "Measure") H p (k + k + 1 + 10 + 1) z) (fun i H H' y ⟨p, z, e1, e2, q⟩ n => ⟨p, z, e1, e2, q.nl n⟩) (by rw [sizeLine_eq]; omega) trivial nD (fun i x H1 H2 N M hi s1 y hN => ?_) (fun H1 ys s1 hD ly hy => ?_)
    · obtain ⟨rfl, rfl⟩ := y
      obtain ⟨a, ha⟩ := ge2 (zs := zs) (n := i) (by omega)
      obtain ⟨b, hb⟩ := ge2 (zs := zs) (n := i + 1) (by omega)
      obtain ⟨p, ep, qp⟩ := (hm.same s1).at ha
      obtain ⟨q, eq, qq⟩ := (hm.same s1).at hb
      have hT1 := s1.sqt hT
      refine ⟨rfl, yesT ?_⟩
      walk_at "w"
      refine ⟨atI_of (n := i) (by omega) ep, ?_⟩
      walk_at "w"
      refine ⟨atI_of (n := i + 1) (by omega) eq, q_addT qp qq (by omega) h0 h0 fun r H3 s3 R => ?_⟩
      refine meth_q R (by decide +kernel) (by decide +kernel) (q_prt2T R (by omega) (by omega) fun r2 H4 s4 R2 => ?_)
      exact hN _ _ (s3.trans s4) ⟨r2, qhalf a b, rfl, midq_get zs i a b ha hb, R2⟩
    refine kk D ys H1 s1 hD ⟨?_, fun i v z h1 h2 => ?_⟩
    · rw [midq_len, ly]; omega
    · obtain ⟨p, z', e1, e2, q⟩ := hy i v h1
      rw [h2] at e2
      cases e2
      exact ⟨p, e1, q⟩
theorem ok_size_by_rule {P : Program} {w : World} {K : PySem.W.Frag} {mg : Str → Option Value} {base : Heap} {φ : Fds} (T : Txt P K mg φ) : FnOk P w K mg base CX0 6 (He.fAd K ("size_by_rule", none)) φ.size_by_rule p_size_by_rule (sp_sizeR K (He.ga K "Measure")) := by
  obtain ⟨_, B0v, B0⟩ := b_Measure_is_below_2 T
  obtain ⟨_, B1v, B1⟩ := b_Measure_is_below_3 T
  obtain ⟨_, B2v, B2⟩ := b_midsts_of_1 T
  refine T.f_size_by_rule.ok sc_size_by_rule (fun vs H Q E h => ?_) (fun cdv A outer s H vs Q E hr h => ?_)
  · obtain ⟨T', q, k, ps, zs, r, x, rfl, hT, hm, qx, h0, h1, l0, l1, kk⟩ := h; rfl
  · obtain ⟨T', q, k, ps, zs, r, x, rfl, hT, hm, qx, h0, h1, l0, l1, kk⟩ := h
    refine ⟨_, PSs.nox (pss_cons (ps_if (pt_cmpR op_eq (pv 1) pe_str (nomark _))
      (pss_one (ps_ret (pe_callB (id := "len") (lenS (K := K)) (by rfl) T.z_len PySem.boot_len (pa_cons (pe_lc (own := [("mark", 3)]) (g := gName 3) rfl sc_size_by_rule.nd (pi_tup (pv 0)) (blkOk_by (own := [("mark", 3)]) (N := N_size_by_rule) (sc := (defScope s_size_by_rule)) (by decide +kernel)) (fun _ _ _ _ _ => (pg_name (i := 3) sc_size_by_rule.nd rfl (Or.inl rfl))) (fun _ _ _ _ _ => (pts_one (pt_val (pe_meth (pv 3) T.cl_Measure T.me_Measure_is_below (ok_Measure_is_below (K := K) T) (hr.mono (by decide)) B0 B0v pass0 (pa_cons (pv 2) pa_nil))))) (fun _ _ _ _ _ => (pv 3))) pa_nil))))
      pss_nil)
      (pss_cons (ps_if (pt_cmpR op_eq (pv 1) pe_str (nomark _))
      (pss_one (ps_ret (pe_op op_sub (pe_callB (id := "len") (lenS (K := K)) (by rfl) T.z_len PySem.boot_len (pa_cons (pe_lc (own := [("mark", 3)]) (g := gName 3) rfl sc_size_by_rule.nd (pi_tup (pv 0)) (blkOk_by (own := [("mark", 3)]) (N := N_size_by_rule) (sc := (defScope s_size_by_rule)) (by decide +kernel)) (fun _ _ _ _ _ => (pg_name (i := 3) sc_size_by_rule.nd rfl (Or.inl rfl))) (fun _ _ _ _ _ => (pts_one (pt_val (pe_meth (pv 3) T.cl_Measure T.me_Measure_is_below (ok_Measure_is_below (K := K) T) (hr.mono (by decide)) B1 B1v pass0 (pa_cons (pv 2) (pa_cons pe_bl pa_nil)))))) (fun _ _ _ _ _ => (pv 3))) pa_nil)) pe_int)))
      pss_nil)
      (pss_one (ps_ret (pe_callB (id := "len") (lenS (K := K)) (by rfl) T.z_len PySem.boot_len (pa_cons (pe_lc (own := [("midst", 4)]) (g := gName 4) rfl sc_size_by_rule.nd (pi_list (pe_call (ok_midsts_of (K := K) T) (hr.mono (by decide)) rfl T.g_midsts_of T.f_midsts_of.kp B2 B2v pass0 (pa_cons (pv 0) pa_nil))) (blkOk_by (own := [("midst", 4)]) (N := N_size_by_rule) (sc := (defScope s_size_by_rule)) (by decide +kernel)) (fun _ _ _ _ _ => (pg_name (i := 4) sc_size_by_rule.nd rfl (Or.inl rfl))) (fun _ _ _ _ _ => (pts_one (pt_val (pe_meth (pv 4) T.cl_Measure T.me_Measure_is_below (ok_Measure_is_below (K := K) T) (hr.mono (by decide)) B1 B1v pass0 (pa_cons (pv 2) (pa_cons pe_bl pa_nil)))))) (fun _ _ _ _ _ => (pv 4))) pa_nil)))))), ?_⟩
    have el : ps.length = zs.length := hm.len
    have fin : ∀ z H', z = sizeR zs r x → Same H H' → Q (.int z) H' := fun z H' e s => by rw [e]; exact kk H' s
    refine ⟨_, rfl, rfl, _, rfl, ?_⟩
    refine ite2 (fun e => ?_) (fun e => ?_)
    · have er : r = "up" := V.str.inj (of_decide_eq_true e)
      walk_at "w"
      refine ⟨⟨_, hT⟩, fun D nD => ?_⟩
      refine lcz (n := ps.length) walk_tup (fun _ _ g s => s.sqt g) (List.zipWith (fun (p : V) (z : Q2) => if ltq z x then some p else none) ps zs) (by rw [List.length_zipWith]; omega) (by rw [sizeLine_eq]; omega) hT nD (fun i v H1 H2 z N M hi hz s1 y hN hM => ?_) (fun H1 s1 hD => ?_)
      · obtain ⟨rfl, hx⟩ := y
        obtain ⟨p, z1, rfl, hz1, qz⟩ := (hm.same s1).of hx
        have ez := zipF_get (f := fun z => ltq z x) hx hz1 hz
        have qx1 := qx.same s1
        refine ⟨rfl, ?_⟩
        walk_at "w"
        show if ltq z1 x = true then _ else _
        cases e : ltq z1 x with
        | true => exact iteT ⟨_, rfl, hN _ _ (by simp [ez, e]) (Same.refl _)⟩
        | false => exact iteF (hM _ (by simp [ez, e]) (Same.refl _))
      have el2 := zipF_len (f := fun z => ltq z x) hm.len
    
      walk_at "w"
      refine fin _ _ ?_ s1
      unfold sizeR
      rw [if_pos er, el2]
    have er : ¬ r = "up" := fun z => e (decide_eq_true (congrArg V.str z))
    refine ⟨_, rfl, rfl, _, rfl, ?_⟩
    refine ite2 (fun e => ?_) (fun e => ?_)
    · have er2 : r = "down" := V.str.inj (of_decide_eq_true e)
      walk_at "w"
      refine ⟨⟨_, hT⟩, fun D nD => ?_⟩
      refine lcz (n := ps.length) walk_tup (fun _ _ g s => s.sqt g) (List.zipWith (fun (p : V) (z : Q2) => if leq z x then some p else none) ps zs) (by rw [List.length_zipWith]; omega) (by rw [sizeLine_eq]; omega) hT nD (fun i v H1 H2 z N M hi hz s1 y hN hM => ?_) (fun H1 s1 hD => ?_)
      · obtain ⟨rfl, hx⟩ := y
        obtain ⟨p, z1, rfl, hz1, qz⟩ := (hm.same s1).of hx
        have ez := zipF_get (f := fun z => leq z x) hx hz1 hz
        have qx1 := qx.same s1
        refine ⟨rfl, ?_⟩
        walk_at "w"
        show if leq z1 x = true then _ else _
        cases e : leq z1 x with
        | true => exact iteT ⟨_, rfl, hN _ _ (by simp [ez, e]) (Same.refl _)⟩
        | false => exact iteF (hM _ (by simp [ez, e]) (Same.refl _))
      have el2 := zipF_len (f := fun z => leq z x) hm.len
    
      walk_at "w"
      refine fin _ _ ?_ s1
      unfold sizeR
      rw [if_neg er, if_pos er2, el2]
    have er2 : ¬ r = "down" := fun z => e (decide_eq_true (congrArg V.str z))
    refine ⟨_, rfl, T', k, ps, zs, rfl, hT, hm, h0, h1, l0, l1, fun D2 ys H0 s0 hD0 hm0 => ?_⟩
    have len0 : ys.length ≤ 24 := by rw [hm0.len, midq_len]; omega
    have qx0 := qx.same s0
    refine ⟨D2, rfl, ⟨_, SqL.of hD0⟩, fun D nD => ?_⟩
    refine lcz (n := ys.length) walk_list (fun _ _ g s => s.seq g) (List.zipWith (fun (p : V) (z : Q2) => if leq z x then some p else none) ys (midq zs)) (by rw [List.length_zipWith, hm0.len, Nat.min_self]) (by rw [sizeLine_eq]; omega) (SqL.of hD0) nD (fun i v H1 H2 z N M hi hz s1 y hN hM => ?_) (fun H1 s1 hD => ?_)
    · obtain ⟨rfl, hx⟩ := y
      obtain ⟨p, z1, rfl, hz1, qz⟩ := (hm0.same s1).of hx
      have ez := zipF_get (f := fun z => leq z x) hx hz1 hz
      have qx1 := qx0.same s1
      refine ⟨rfl, ?_⟩
      walk_at "w"
      show if leq z1 x = true then _ else _
      cases e : leq z1 x with
      | true => exact iteT ⟨_, rfl, hN _ _ (by simp [ez, e]) (Same.refl _)⟩
      | false => exact iteF (hM _ (by simp [ez, e]) (Same.refl _))
    have el2 := zipF_len (f := fun z => leq z x) hm0.len
    walk_at "w"
    refine fin _ _ ?_ (s0.trans s1)
    unfold sizeR
    rw [if_neg er, if_neg er2, el2]
theorem ok_Ladder_size {P : Program} {w : World} {K : PySem.W.Frag} {mg : Str → Option Value} {base : Heap} {φ : Fds} (T : Txt P K mg φ) : FnOk P w K mg base CX0 7 (He.fAd K ("Ladder", some "size")) φ.Ladder_size p_Ladder_size (sp_size K (He.ga K "Measure") (He.ga K "Ladder")) := by
  obtain ⟨_, B0v, B0⟩ := b_Measure_is_below_2 T
  obtain ⟨_, B1v, B1⟩ := b_size_by_rule_3 T
  refine T.f_Ladder_size.ok sc_Ladder_size (fun vs H Q E h => ?_) (fun cdv A outer s H vs Q E hr h => ?_)
  · obtain ⟨p, q, k, zs, r, lo, hi, x, rfl, hL, qx, h0, h1, kk⟩ := h; rfl
  · obtain ⟨p, q, k, zs, r, lo, hi, x, rfl, hL, qx, h0, h1, kk⟩ := h
    refine ⟨_, PSs.nox (pss_cons (ps_cut (ps_if (PW.pt (pw_and (pt_cmpR op_notN (fldK (K := K) (pv 0) rfl) pe_non (nomark _)) (pw_and1 (pt_val (pe_meth (pv 1) T.cl_Measure T.me_Measure_is_below (ok_Measure_is_below (K := K) T) (hr.mono (by decide)) B0 B0v pass0 (pa_cons (fldK (K := K) (pv 0) rfl) pa_nil))))))
      (pss_one (ps_ret pe_non))
      pss_nil))
      (pss_cons (ps_cut (ps_if (PW.pt (pw_and (pt_cmpR op_notN (fldK (K := K) (pv 0) rfl) pe_non (nomark _)) (pw_and1 (pt_val (pe_meth (fldK (K := K) (pv 0) rfl) T.cl_Measure T.me_Measure_is_below (ok_Measure_is_below (K := K) T) (hr.mono (by decide)) B0 B0v pass0 (pa_cons (pv 1) pa_nil))))))
      (pss_one (ps_ret pe_non))
      pss_nil))
      (pss_cons (ps_set (i := 2) sc_Ladder_size.nd rfl (Or.inl rfl) (pe_call (ok_size_by_rule (K := K) T) (hr.mono (by decide)) rfl T.g_size_by_rule T.f_size_by_rule.kp B1 B1v pass0 (pa_cons (fldK (K := K) (pv 0) rfl) (pa_cons (fldK (K := K) (pv 0) rfl) (pa_cons (pv 1) pa_nil)))))
      (pss_cons (ps_if (pt_chain op_le op_lt pe_int (pv 2) (pe_callB (id := "len") (lenS (K := K)) (by rfl) T.z_len PySem.boot_len (pa_cons (fldK (K := K) (pv 0) rfl) pa_nil)))
      (pss_one (ps_ret (pv 2)))
      pss_nil)
      (pss_one (ps_ret pe_non)))))), ?_⟩
    have cl_Ladder := T.cl_Ladder
    have na_Ladder_marks := T.na_Ladder_marks
    have na_Ladder_rule := T.na_Ladder_rule
    have na_Ladder_least := T.na_Ladder_least
    have na_Ladder_most := T.na_Ladder_most
    
    obtain ⟨⟨dx, T', ps, l, h, hp, hT, hm, ql, qh⟩, l0, l1, hri, hru, hsp⟩ := hL
    have fin : ∀ o H', o = sizeQ zs r lo hi x → Same H H' → Q (optI o) H' := fun z H' e s => by rw [e]; exact kk H' s
    refine ⟨fun σ' H' => σ' = [some (.ref p), some (.ref q), none] ∧ H' = H ∧ loOk lo x = true, ?_, ?_⟩
    · cases lo with
      | none =>
        cases ql
        walk_at "w"
        walk_at "e"
      | some a =>
        obtain ⟨pl, rfl, qa⟩ := ql
        walk_at "w"
        refine ite2 (fun e => ?_) (fun e => ?_)
        · exact fin none _ (sizeQ_out (inO_lo e)) (Same.refl _)
        · exact ⟨rfl, rfl, by show (!ltq x a) = true; simpa using e⟩
    rintro σ' H' ⟨rfl, rfl, hlo⟩
    refine ⟨fun σ' H'' => σ' = [some (.ref p), some (.ref q), none] ∧ H'' = H' ∧ hiOk hi x = true, ?_, ?_⟩
    · cases hi with
      | none =>
        cases qh
        walk_at "w"
        walk_at "e"
      | some a =>
        obtain ⟨pl, rfl, qa⟩ := qh
        walk_at "w"
        refine ite2 (fun e => ?_) (fun e => ?_)
        · exact fin none _ (sizeQ_out (inO_hi e)) (Same.refl _)
        · exact ⟨rfl, rfl, by show (!ltq a x) = true; simpa using e⟩
    rintro σ' H'' ⟨rfl, rfl, hhi⟩
    have hin : inO lo hi x = true := by unfold inO; rw [hlo, hhi]; rfl
    walk_at "w"
    refine ⟨zs, _, x, rfl, hT, hm, qx, h0, h1, l0, l1, fun H1 s1 => ?_⟩
    have hp1 := s1 _ _ hp
    have hT1 := s1.sqt hT
    have el : ps.length = zs.length := hm.len
    have e0 : sizeQ zs r lo hi x = if 0 ≤ sizeR zs r x ∧ sizeR zs r x < zs.length then some (sizeR zs r x).toNat else none := by
      unfold sizeQ
      rw [if_pos hin]
    walk_at "w"
    by_cases c1 : 0 ≤ sizeR zs r x
    · walk_at "w"
      by_cases c2 : sizeR zs r x < zs.length
      · walk_at "w"
        have e1 : sizeQ zs r lo hi x = some (sizeR zs r x).toNat := by rw [e0, if_pos ⟨c1, c2⟩]
        have z : Q (.int ((sizeR zs r x).toNat : Int)) H1 := fin _ H1 e1.symm s1
        rw [Int.toNat_of_nonneg c1] at z
        exact z
      · walk_at "w"
        refine fin none _ ?_ s1
        rw [e0, if_neg (fun z => c2 z.2)]
    · walk_at "w"
      refine fin none _ ?_ s1
      rw [e0, if_neg (fun z => c1 z.1)]
theorem ok_Measure_eq {P : Program} {w : World} {K : PySem.W.Frag} {mg : Str → Option Value} {base : Heap} {φ : Fds} (T : Txt P K mg φ) : FnOk P w K mg base CX0 1 (He.fAd K ("Measure", some "__eq__")) φ.Measure_eq p_Measure_eq (sp_meq (He.ga K "Measure")) := by
  refine T.f_Measure_eq.ok sc_Measure_eq (fun vs H Q E h => ?_) (fun cdv A outer s H vs Q E hr h => ?_)
  · obtain ⟨p, q, a, b, rfl, ⟨dp, hp⟩, ⟨dq, hq⟩, k⟩ := h; rfl
  · obtain ⟨p, q, a, b, rfl, ⟨dp, hp⟩, ⟨dq, hq⟩, k⟩ := h
    refine ⟨_, PSs.nox (pss_one (ps_ret (pe_and (pe_callB (id := "isinstance") (isi (K := K)) (by rfl) T.z_isinstance (by decide +kernel) (pa_cons (pv 1) (pa_cons (pe_glob (v := .ref (He.ga K "Measure")) rfl T.g_Measure rfl) pa_nil))) (pe_and (pe_cmpR op_eq (fldK (K := K) (pv 0) rfl) (fldK (K := K) (pv 1) rfl) (nomark _)) (pe_one (pe_cmpR op_eq (fldK (K := K) (pv 0) rfl) (fldK (K := K) (pv 1) rfl) (nomark _))))))), ?_⟩
    refine ⟨_, rfl, _, _, _, _, true, rfl, .own _, tyM hq T.cl_Measure T.ii_Measure, T.k_Measure_Measure, _, rfl, iteT ?_⟩
    refine ⟨_, rfl, _, _, _, _, _, rfl, hp, T.cl_Measure, T.na_Measure_top, mf_top _ _, _, rfl, _, _, _, _, _, rfl, hq, T.cl_Measure, T.na_Measure_top, mf_top _ _, rfl, _, rfl, ?_⟩
    rw [dI]
    refine ite2 (fun e => ?_) (fun e => ?_)
    · rw [e] at k
      refine ⟨_, rfl, _, _, _, _, _, rfl, hp, T.cl_Measure, T.na_Measure_bottom, mf_bottom _ _, _, rfl, _, _, _, _, _, rfl, hq, T.cl_Measure, T.na_Measure_bottom, mf_bottom _ _, rfl, ?_⟩
      rw [dI]
      exact k
    · rw [isTrueN e] at k
      exact k
theorem ok_is_empty {P : Program} {w : World} {K : PySem.W.Frag} {mg : Str → Option Value} {base : Heap} {φ : Fds} (T : Txt P K mg φ) : FnOk P w K mg base CX0 2 (He.fAd K ("is_empty", none)) φ.is_empty p_is_empty (sp_empty (He.ga K "Measure")) := by
  obtain ⟨_, B0v, B0⟩ := b_Measure_eq_2 T
  obtain ⟨_, B1v, B1⟩ := b_Measure_is_below_2 T
  refine T.f_is_empty.ok sc_is_empty (fun vs H Q E h => ?_) (fun cdv A outer s H vs Q E hr h => ?_)
  · obtain ⟨l, h, lo, hi, li, hj, rfl, ml, mh, l1, l2, k⟩ := h; rfl
  · obtain ⟨l, h, lo, hi, li, hj, rfl, ml, mh, l1, l2, k⟩ := h
    refine ⟨_, PSs.nox (pss_cons (ps_if (PW.pt (pw_or (pt_cmpR op_isN (pv 0) pe_non (nomark _)) (pw_or1 (pt_cmpR op_isN (pv 1) pe_non (nomark _)))))
      (pss_one (ps_ret pe_bl))
      pss_nil)
      (pss_cons (ps_if (pt_cmpR (op_eqI (ok_Measure_eq T) (hr.mono (by decide)) T.me_Measure_eq B0 B0v pass0) (pv 0) (pv 1) (nomark _))
      (pss_one (ps_ret (pe_not (pe_cut (pe_and (pv 2) (pe_one (pv 3)))))))
      pss_nil)
      (pss_one (ps_ret (pe_meth (pv 1) T.cl_Measure T.me_Measure_is_below (ok_Measure_is_below (K := K) T) (hr.mono (by decide)) B1 B1v pass0 (pa_cons (pv 0) pa_nil)))))), ?_⟩
    refine ⟨_, rfl, rfl, _, rfl, ?_⟩
    cases lo with
    | none =>
      cases ml
      exact iteT (iteT k)
    | some a =>
      have ml0 := ml
      obtain ⟨p, rfl, dp, hp⟩ := ml
      refine iteF ?_
      refine ⟨_, rfl, rfl, _, rfl, ?_⟩
      cases hi with
      | none =>
        cases mh
        exact iteT k
      | some b =>
        obtain ⟨q, rfl, dq, hq⟩ := mh
        refine iteF ?_
        have k : Q (.bl (!(ltq a b || (eqq a b && li && hj)))) H := k
        refine ⟨_, rfl, _, rfl, p, q, _, _, _, _, rfl, rfl, hp, hq, p, q, a, b, rfl, ⟨_, hp⟩, ⟨_, hq⟩, _, rfl, ?_⟩
        rw [low_eqq l1 l2]
        refine ite2 (fun e => ?_) (fun e => ?_)
        · refine ⟨fun v H' => H = H' ∧ v = .bl (li && hj), ?_, ?_⟩
          · refine ⟨_, rfl, _, rfl, ?_⟩
            cases li with
            | true => exact iteT ⟨_, rfl, rfl, rfl⟩
            | false => exact iteF ⟨rfl, rfl⟩
          rintro v H' ⟨rfl, rfl⟩
          refine ⟨_, rfl, ?_⟩
          rcases lt_tri a b with ⟨h1, h2, h3⟩ | ⟨h1, h2, h3⟩ | ⟨h1, h2, h3⟩
          · rw [h2] at e; cases e
          · rw [h1, h2] at k
            exact k
          · rw [h2] at e; cases e
        · refine ⟨_, rfl, q, _, _, rfl, hq, mf_no _ _ (by decide +kernel) (by decide +kernel), _, rfl, q, p, b.1, b.2, a.1, a.2, false, rfl, ⟨_, hq⟩, ⟨_, hp⟩, l2.s1.mono (by decide), l2.s2.mono (by decide), l1.s1.mono (by decide), l1.s2.mono (by decide), ?_⟩
          have e3 : lessA b.1 b.2 a.1 a.2 false = ltq b a := by unfold lessA ltq; simp
          rw [e3]
          rcases lt_tri a b with ⟨h1, h2, h3⟩ | ⟨h1, h2, h3⟩ | ⟨h1, h2, h3⟩
          · rw [h3]; rw [h1] at k; exact k
          · exact absurd h2 e
          · rw [h3]; rw [h1, h2] at k; exact k
theorem ok_Stretch_init {P : Program} {w : World} {K : PySem.W.Frag} {mg : Str → Option Value} {base : Heap} {φ : Fds} (T : Txt P K mg φ) : FnOk P w K mg base CX0 3 (He.fAd K ("Stretch", some "__init__")) φ.Stretch_init p_Stretch_init (sp_sinit (He.ga K "Measure") (He.ga K "Stretch")) := by
  obtain ⟨_, B0v, B0⟩ := b_is_measure_or_none_1 T
  obtain ⟨_, B1v, B1⟩ := b_is_empty_4 T
  refine T.f_Stretch_init.ok sc_Stretch_init (fun vs H Q E h => ?_) (fun cdv A outer s H vs Q E hr h => ?_)
  · obtain ⟨p, dx, l, h, lo, hi, li, hj, rfl, hp, ml, mh, l1, l2, so, k⟩ := h; rfl
  · obtain ⟨p, dx, l, h, lo, hi, li, hj, rfl, hp, ml, mh, l1, l2, so, k⟩ := h
    refine ⟨_, PSs.nox (pss_cons (ps_if (PW.pt (pw_or (pt_not (pt_val (pe_call (ok_is_measure_or_none (K := K) T) (hr.mono (by decide)) rfl T.g_is_measure_or_none T.f_is_measure_or_none.kp B0 B0v pass0 (pa_cons (pv 1) pa_nil)))) (pw_or1 (pt_not (pt_val (pe_call (ok_is_measure_or_none (K := K) T) (hr.mono (by decide)) rfl T.g_is_measure_or_none T.f_is_measure_or_none.kp B0 B0v pass0 (pa_cons (pv 2) pa_nil)))))))
      (pss_one ps_never)
      pss_nil)
      (pss_cons (ps_if (PW.pt (pw_or (pt_not (pt_val (pe_callB (id := "isinstance") (isi (K := K)) (by rfl) T.z_isinstance (by decide +kernel) (pa_cons (pv 3) (pa_cons (pe_bltn (v := .ty "bool") rfl T.z_bool (by decide +kernel) rfl) pa_nil))))) (pw_or1 (pt_not (pt_val (pe_callB (id := "isinstance") (isi (K := K)) (by rfl) T.z_isinstance (by decide +kernel) (pa_cons (pv 4) (pa_cons (pe_bltn (v := .ty "bool") rfl T.z_bool (by decide +kernel) rfl) pa_nil))))))))
      (pss_one ps_never)
      pss_nil)
      (pss_cons (ps_if (pt_val (pe_call (ok_is_empty (K := K) T) (hr.mono (by decide)) rfl T.g_is_empty T.f_is_empty.kp B1 B1v pass0 (pa_cons (pv 1) (pa_cons (pv 2) (pa_cons (pv 3) (pa_cons (pv 4) pa_nil))))))
      (pss_one ps_never)
      pss_nil)
      (pss_cons (ps_fld (pv 0) (pv 1) rfl)
      (pss_cons (ps_fld (pv 0) (pv 2) rfl)
      (pss_cons (ps_fld (pv 0) (pe_cut (pe_and (pv 3) (pe_one (pe_cmpR op_notN (pv 1) pe_non (nomark _))))) rfl)
      (pss_one (ps_fld (pv 0) (pe_cut (pe_and (pv 4) (pe_one (pe_cmpR op_notN (pv 2) pe_non (nomark _))))) rfl)))))))), ?_⟩
    refine ⟨_, rfl, l, lo, rfl, ml, _, rfl, iteF ?_⟩
    refine ⟨_, rfl, h, hi, rfl, mh, _, rfl, iteF ?_⟩
    refine ⟨_, rfl, _, _, _, _, true, rfl, .ty _, .base (.bl _), kit_ty (r := true) (by decide +kernel), _, rfl, iteF ?_⟩
    refine ⟨_, rfl, _, _, _, _, true, rfl, .ty _, .base (.bl _), kit_ty (r := true) (by decide +kernel), _, rfl, iteF ?_⟩
    refine ⟨_, rfl, _, rfl, _, rfl, _, rfl, l, h, lo, hi, li, hj, rfl, ml, mh, l1, l2, _, rfl, ?_⟩
    rw [so]
    refine iteF ?_
    refine ⟨_, rfl, _, rfl, p, _, dx, _, rfl, hp, T.cl_Stretch, T.na_Stretch_low, (by show 0 < 1000; decide), ?_⟩
    refine ⟨_, rfl, _, rfl, p, _, dx, _, rfl, upd_same, T.cl_Stretch, T.na_Stretch_high, (by show 1 < 1000; decide), ?_⟩
    have nl : decide (l = V.non) = !lo.isSome := by
      cases lo with
      | none => cases ml; rfl
      | some a => obtain ⟨q, rfl, _⟩ := ml; rfl
    have nh : decide (h = V.non) = !hi.isSome := by
      cases hi with
      | none => cases mh; rfl
      | some a => obtain ⟨q, rfl, _⟩ := mh; rfl
    generalize hJ : upd (upd H p _) p _ = HJ
    refine ⟨fun v H' => HJ = H' ∧ v = .bl (li && lo.isSome), ?_, ?_⟩
    · refine ⟨_, rfl, _, rfl, ?_⟩
      cases li with
      | true =>
        refine iteT ⟨_, rfl, rfl, rfl, ?_⟩
        rw [nl]; simp
      | false => exact iteF ⟨rfl, rfl⟩
    rintro v H' ⟨rfl, rfl⟩
    refine ⟨_, rfl, p, _, dx, _, rfl, (by rw [← hJ]; exact upd_same), T.cl_Stretch, T.na_Stretch_low_in, ?_, ?_⟩
    · exact Nat.lt_of_le_of_lt (length_putF _ _ _) (by show 1 + 1 < 1000; decide)
    generalize hG : upd HJ p _ = HG
    refine ⟨fun v H' => HG = H' ∧ v = .bl (hj && hi.isSome), ?_, ?_⟩
    · refine ⟨_, rfl, _, rfl, ?_⟩
      cases hj with
      | true =>
        refine iteT ⟨_, rfl, rfl, rfl, ?_⟩
        rw [nh]; simp
      | false => exact iteF ⟨rfl, rfl⟩
    rintro v H' ⟨rfl, rfl⟩
    refine ⟨_, rfl, p, _, dx, _, rfl, (by rw [← hG]; exact upd_same), T.cl_Stretch, T.na_Stretch_high_in, ?_, ?_⟩
    · exact Nat.lt_of_le_of_lt (length_putF _ _ _) (Nat.lt_of_le_of_lt (Nat.succ_le_succ (length_putF _ _ _)) (by show 1 + 1 + 1 < 1000; decide))
    refine k _ ?_ fun q o e nq => ?_
    · rw [upd_same, sf_put]
    · rw [upd_ne nq, ← hG, upd_ne nq, ← hJ, upd_ne nq, upd_ne nq]
      exact e
theorem ok_cut_low {P : Program} {w : World} {K : PySem.W.Frag} {mg : Str → Option Value} {base : Heap} {φ : Fds} (T : Txt P K mg φ) : FnOk P w K mg base CX0 2 (He.fAd K ("cut_low", none)) φ.cut_low p_cut_low (sp_cutEnd (He.ga K "Measure") (He.ga K "Stretch") (fun m1 m2 i1 i2 n1 n2 j1 j2 => cutLo m1 i1 n1 j1)) := by
  obtain ⟨_, B0v, B0⟩ := b_Measure_is_below_2 T
  refine T.f_cut_low.ok sc_cut_low (fun vs H Q E h => ?_) (fun cdv A outer s H vs Q E hr h => ?_)
  · obtain ⟨p, q, m1, m2, n1, n2, i1, i2, j1, j2, rfl, ⟨⟨dp, pl, ph, hp, ml, mh⟩, a1, a2, _, _⟩, ⟨⟨dq, ql, qh, hq, nl, nh⟩, b1, b2, _, _⟩, k⟩ := h; rfl
  · obtain ⟨p, q, m1, m2, n1, n2, i1, i2, j1, j2, rfl, ⟨⟨dp, pl, ph, hp, ml, mh⟩, a1, a2, _, _⟩, ⟨⟨dq, ql, qh, hq, nl, nh⟩, b1, b2, _, _⟩, k⟩ := h
    refine ⟨_, PSs.nox (pss_cons (ps_if (pt_cmpR op_isN (fldK (K := K) (pv 0) rfl) pe_non (nomark _))
      (pss_one (ps_ret (pe_tup (pa_cons (fldK (K := K) (pv 1) rfl) (pa_cons (fldK (K := K) (pv 1) rfl) pa_nil)))))
      pss_nil)
      (pss_cons (ps_if (PW.pt (pw_or (pt_cmpR op_isN (fldK (K := K) (pv 1) rfl) pe_non (nomark _)) (pw_or1 (pt_val (pe_meth (fldK (K := K) (pv 1) rfl) T.cl_Measure T.me_Measure_is_below (ok_Measure_is_below (K := K) T) (hr.mono (by decide)) B0 B0v pass0 (pa_cons (fldK (K := K) (pv 0) rfl) pa_nil))))))
      (pss_one (ps_ret (pe_tup (pa_cons (fldK (K := K) (pv 0) rfl) (pa_cons (fldK (K := K) (pv 0) rfl) pa_nil)))))
      pss_nil)
      (pss_cons (ps_if (pt_val (pe_meth (fldK (K := K) (pv 0) rfl) T.cl_Measure T.me_Measure_is_below (ok_Measure_is_below (K := K) T) (hr.mono (by decide)) B0 B0v pass0 (pa_cons (fldK (K := K) (pv 1) rfl) pa_nil)))
      (pss_one (ps_ret (pe_tup (pa_cons (fldK (K := K) (pv 1) rfl) (pa_cons (fldK (K := K) (pv 1) rfl) pa_nil)))))
      pss_nil)
      (pss_one (ps_ret (pe_tup (pa_cons (fldK (K := K) (pv 0) rfl) (pa_cons (pe_cut (pe_and (fldK (K := K) (pv 0) rfl) (pe_one (fldK (K := K) (pv 1) rfl)))) pa_nil)))))))), ?_⟩
    refine ⟨_, rfl, _, _, _, _, _, rfl, hp, T.cl_Stretch, T.na_Stretch_low, sf_low _ _ _ _, rfl, _, rfl, ?_⟩
    have LA : ∀ x y : Q2, lessA x.1 x.2 y.1 y.2 false = ltq x y := fun x y => by unfold lessA ltq; simp
    cases m1 with
    | none =>
      cases ml
      refine iteT ?_
      exact ⟨_, rfl, _, _, _, _, _, rfl, hq, T.cl_Stretch, T.na_Stretch_low, sf_low _ _ _ _, _, rfl, _, _, _, _, _, rfl, hq, T.cl_Stretch, T.na_Stretch_low_in, sf_low_in _ _ _ _, by show 2 ≤ sizeLine; decide, fun r nr => k r _ _ (same1 nr) upd_same (nl.same (same1 nr))⟩
    | some a =>
      have ma0 := ml
      obtain ⟨pa, rfl, da, hpa⟩ := ml
      refine iteF ?_
      refine ⟨_, rfl, _, _, _, _, _, rfl, hq, T.cl_Stretch, T.na_Stretch_low, sf_low _ _ _ _, rfl, _, rfl, ?_⟩
      cases n1 with
      | none =>
        cases nl
        refine iteT ?_
        refine iteT ?_
        exact ⟨_, rfl, _, _, _, _, _, rfl, hp, T.cl_Stretch, T.na_Stretch_low, sf_low _ _ _ _, _, rfl, _, _, _, _, _, rfl, hp, T.cl_Stretch, T.na_Stretch_low_in, sf_low_in _ _ _ _, by show 2 ≤ sizeLine; decide, fun r nr => k r _ _ (same1 nr) upd_same (ma0.same (same1 nr))⟩
      | some b =>
        have mb0 := nl
        obtain ⟨pb, rfl, db, hpb⟩ := nl
        refine iteF ?_
        refine ⟨_, rfl, _, _, _, _, _, rfl, hq, T.cl_Stretch, T.na_Stretch_low, sf_low _ _ _ _, pb, _, _, rfl, hpb, mf_no _ _ (by decide +kernel) (by decide +kernel), _, rfl, _, _, _, _, _, rfl, hp, T.cl_Stretch, T.na_Stretch_low, sf_low _ _ _ _, pb, pa, b.1, b.2, a.1, a.2, false, rfl, ⟨_, hpb⟩, ⟨_, hpa⟩, b1.s1.mono (by decide), b1.s2.mono (by decide), a1.s1.mono (by decide), a1.s2.mono (by decide), _, rfl, ?_⟩
        have k : ∀ (r : Addr) (v : V) (H' : Hp), Same H H' → H' r = some (.tup [v, .bl (if ltq a b then (some b, j1) else if eqq a b then (some a, i1 && j1) else (some a, i1)).2]) → MsV (He.ga K "Measure") H' v (if ltq a b then (some b, j1) else if eqq a b then (some a, i1 && j1) else (some a, i1)).1 → Q (.ref r) H' := k
        rcases lt_tri a b with ⟨h1, h2, h3⟩ | ⟨h1, h2, h3⟩ | ⟨h1, h2, h3⟩
        · rw [h1] at k
          · rw [show lessA b.1 b.2 a.1 a.2 false = false from (LA _ _).trans h3]
            refine iteF ?_
            refine ⟨_, rfl, _, _, _, _, _, rfl, hp, T.cl_Stretch, T.na_Stretch_low, sf_low _ _ _ _, pa, _, _, rfl, hpa, mf_no _ _ (by decide +kernel) (by decide +kernel), _, rfl, _, _, _, _, _, rfl, hq, T.cl_Stretch, T.na_Stretch_low, sf_low _ _ _ _, pa, pb, a.1, a.2, b.1, b.2, false, rfl, ⟨_, hpa⟩, ⟨_, hpb⟩, a1.s1.mono (by decide), a1.s2.mono (by decide), b1.s1.mono (by decide), b1.s2.mono (by decide), _, rfl, ?_⟩
            rw [show lessA a.1 a.2 b.1 b.2 false = true from (LA _ _).trans h1]
            exact iteT ⟨_, rfl, _, _, _, _, _, rfl, hq, T.cl_Stretch, T.na_Stretch_low, sf_low _ _ _ _, _, rfl, _, _, _, _, _, rfl, hq, T.cl_Stretch, T.na_Stretch_low_in, sf_low_in _ _ _ _, by show 2 ≤ sizeLine; decide, fun r nr => k r _ _ (same1 nr) upd_same (mb0.same (same1 nr))⟩
        · rw [h1, h2] at k
          · rw [show lessA b.1 b.2 a.1 a.2 false = false from (LA _ _).trans h3]
            refine iteF ?_
            refine ⟨_, rfl, _, _, _, _, _, rfl, hp, T.cl_Stretch, T.na_Stretch_low, sf_low _ _ _ _, pa, _, _, rfl, hpa, mf_no _ _ (by decide +kernel) (by decide +kernel), _, rfl, _, _, _, _, _, rfl, hq, T.cl_Stretch, T.na_Stretch_low, sf_low _ _ _ _, pa, pb, a.1, a.2, b.1, b.2, false, rfl, ⟨_, hpa⟩, ⟨_, hpb⟩, a1.s1.mono (by decide), a1.s2.mono (by decide), b1.s1.mono (by decide), b1.s2.mono (by decide), _, rfl, ?_⟩
            rw [show lessA a.1 a.2 b.1 b.2 false = false from (LA _ _).trans h1]
            refine iteF ?_
            refine ⟨_, rfl, _, _, _, _, _, rfl, hp, T.cl_Stretch, T.na_Stretch_low, sf_low _ _ _ _, ?_⟩
            refine ⟨fun v H' => H = H' ∧ v = .bl (i1 && j1), ?_, ?_⟩
            · refine ⟨_, rfl, _, _, _, _, _, rfl, hp, T.cl_Stretch, T.na_Stretch_low_in, sf_low_in _ _ _ _, _, rfl, ?_⟩
              cases i1 with
              | true => exact iteT ⟨_, rfl, _, _, _, _, _, rfl, hq, T.cl_Stretch, T.na_Stretch_low_in, sf_low_in _ _ _ _, rfl, rfl⟩
              | false => exact iteF ⟨rfl, rfl⟩
            rintro v H' ⟨rfl, rfl⟩
            exact ⟨by show 2 ≤ sizeLine; decide, fun r nr => k r _ _ (same1 nr) upd_same (ma0.same (same1 nr))⟩
        · rw [h1, h2] at k
          · rw [show lessA b.1 b.2 a.1 a.2 false = true from (LA _ _).trans h3]
            exact iteT ⟨_, rfl, _, _, _, _, _, rfl, hp, T.cl_Stretch, T.na_Stretch_low, sf_low _ _ _ _, _, rfl, _, _, _, _, _, rfl, hp, T.cl_Stretch, T.na_Stretch_low_in, sf_low_in _ _ _ _, by show 2 ≤ sizeLine; decide, fun r nr => k r _ _ (same1 nr) upd_same (ma0.same (same1 nr))⟩
theorem ok_cut_high {P : Program} {w : World} {K : PySem.W.Frag} {mg : Str → Option Value} {base : Heap} {φ : Fds} (T : Txt P K mg φ) : FnOk P w K mg base CX0 2 (He.fAd K ("cut_high", none)) φ.cut_high p_cut_high (sp_cutEnd (He.ga K "Measure") (He.ga K "Stretch") (fun m1 m2 i1 i2 n1 n2 j1 j2 => cutHi m2 i2 n2 j2)) := by
  obtain ⟨_, B0v, B0⟩ := b_Measure_is_below_2 T
  refine T.f_cut_high.ok sc_cut_high (fun vs H Q E h => ?_) (fun cdv A outer s H vs Q E hr h => ?_)
  · obtain ⟨p, q, m1, m2, n1, n2, i1, i2, j1, j2, rfl, ⟨⟨dp, pl, ph, hp, ml, mh⟩, a1, a2, _, _⟩, ⟨⟨dq, ql, qh, hq, nl, nh⟩, b1, b2, _, _⟩, k⟩ := h; rfl
  · obtain ⟨p, q, m1, m2, n1, n2, i1, i2, j1, j2, rfl, ⟨⟨dp, pl, ph, hp, ml, mh⟩, a1, a2, _, _⟩, ⟨⟨dq, ql, qh, hq, nl, nh⟩, b1, b2, _, _⟩, k⟩ := h
    refine ⟨_, PSs.nox (pss_cons (ps_if (pt_cmpR op_isN (fldK (K := K) (pv 0) rfl) pe_non (nomark _))
      (pss_one (ps_ret (pe_tup (pa_cons (fldK (K := K) (pv 1) rfl) (pa_cons (fldK (K := K) (pv 1) rfl) pa_nil)))))
      pss_nil)
      (pss_cons (ps_if (PW.pt (pw_or (pt_cmpR op_isN (fldK (K := K) (pv 1) rfl) pe_non (nomark _)) (pw_or1 (pt_val (pe_meth (fldK (K := K) (pv 0) rfl) T.cl_Measure T.me_Measure_is_below (ok_Measure_is_below (K := K) T) (hr.mono (by decide)) B0 B0v pass0 (pa_cons (fldK (K := K) (pv 1) rfl) pa_nil))))))
      (pss_one (ps_ret (pe_tup (pa_cons (fldK (K := K) (pv 0) rfl) (pa_cons (fldK (K := K) (pv 0) rfl) pa_nil)))))
      pss_nil)
      (pss_cons (ps_if (pt_val (pe_meth (fldK (K := K) (pv 1) rfl) T.cl_Measure T.me_Measure_is_below (ok_Measure_is_below (K := K) T) (hr.mono (by decide)) B0 B0v pass0 (pa_cons (fldK (K := K) (pv 0) rfl) pa_nil)))
      (pss_one (ps_ret (pe_tup (pa_cons (fldK (K := K) (pv 1) rfl) (pa_cons (fldK (K := K) (pv 1) rfl) pa_nil)))))
      pss_nil)
      (pss_one (ps_ret (pe_tup (pa_cons (fldK (K := K) (pv 0) rfl) (pa_cons (pe_cut (pe_and (fldK (K := K) (pv 0) rfl) (pe_one (fldK (K := K) (pv 1) rfl)))) pa_nil)))))))), ?_⟩
    refine ⟨_, rfl, _, _, _, _, _, rfl, hp, T.cl_Stretch, T.na_Stretch_high, sf_high _ _ _ _, rfl, _, rfl, ?_⟩
    have LA : ∀ x y : Q2, lessA x.1 x.2 y.1 y.2 false = ltq x y := fun x y => by unfold lessA ltq; simp
    cases m2 with
    | none =>
      cases mh
      refine iteT ?_
      exact ⟨_, rfl, _, _, _, _, _, rfl, hq, T.cl_Stretch, T.na_Stretch_high, sf_high _ _ _ _, _, rfl, _, _, _, _, _, rfl, hq, T.cl_Stretch, T.na_Stretch_high_in, sf_high_in _ _ _ _, by show 2 ≤ sizeLine; decide, fun r nr => k r _ _ (same1 nr) upd_same (nh.same (same1 nr))⟩
    | some a =>
      have ma0 := mh
      obtain ⟨pa, rfl, da, hpa⟩ := mh
      refine iteF ?_
      refine ⟨_, rfl, _, _, _, _, _, rfl, hq, T.cl_Stretch, T.na_Stretch_high, sf_high _ _ _ _, rfl, _, rfl, ?_⟩
      cases n2 with
      | none =>
        cases nh
        refine iteT ?_
        refine iteT ?_
        exact ⟨_, rfl, _, _, _, _, _, rfl, hp, T.cl_Stretch, T.na_Stretch_high, sf_high _ _ _ _, _, rfl, _, _, _, _, _, rfl, hp, T.cl_Stretch, T.na_Stretch_high_in, sf_high_in _ _ _ _, by show 2 ≤ sizeLine; decide, fun r nr => k r _ _ (same1 nr) upd_same (ma0.same (same1 nr))⟩
      | some b =>
        have mb0 := nh
        obtain ⟨pb, rfl, db, hpb⟩ := nh
        refine iteF ?_
        refine ⟨_, rfl, _, _, _, _, _, rfl, hp, T.cl_Stretch, T.na_Stretch_high, sf_high _ _ _ _, pa, _, _, rfl, hpa, mf_no _ _ (by decide +kernel) (by decide +kernel), _, rfl, _, _, _, _, _, rfl, hq, T.cl_Stretch, T.na_Stretch_high, sf_high _ _ _ _, pa, pb, a.1, a.2, b.1, b.2, false, rfl, ⟨_, hpa⟩, ⟨_, hpb⟩, a2.s1.mono (by decide), a2.s2.mono (by decide), b2.s1.mono (by decide), b2.s2.mono (by decide), _, rfl, ?_⟩
        have k : ∀ (r : Addr) (v : V) (H' : Hp), Same H H' → H' r = some (.tup [v, .bl (if ltq b a then (some b, j2) else if eqq a b then (some a, i2 && j2) else (some a, i2)).2]) → MsV (He.ga K "Measure") H' v (if ltq b a then (some b, j2) else if eqq a b then (some a, i2 && j2) else (some a, i2)).1 → Q (.ref r) H' := k
        rcases lt_tri a b with ⟨h1, h2, h3⟩ | ⟨h1, h2, h3⟩ | ⟨h1, h2, h3⟩
        · rw [h3, h2] at k
          · rw [show lessA a.1 a.2 b.1 b.2 false = true from (LA _ _).trans h1]
            exact iteT ⟨_, rfl, _, _, _, _, _, rfl, hp, T.cl_Stretch, T.na_Stretch_high, sf_high _ _ _ _, _, rfl, _, _, _, _, _, rfl, hp, T.cl_Stretch, T.na_Stretch_high_in, sf_high_in _ _ _ _, by show 2 ≤ sizeLine; decide, fun r nr => k r _ _ (same1 nr) upd_same (ma0.same (same1 nr))⟩
        · rw [h3, h2] at k
          · rw [show lessA a.1 a.2 b.1 b.2 false = false from (LA _ _).trans h1]
            refine iteF ?_
            refine ⟨_, rfl, _, _, _, _, _, rfl, hq, T.cl_Stretch, T.na_Stretch_high, sf_high _ _ _ _, pb, _, _, rfl, hpb, mf_no _ _ (by decide +kernel) (by decide +kernel), _, rfl, _, _, _, _, _, rfl, hp, T.cl_Stretch, T.na_Stretch_high, sf_high _ _ _ _, pb, pa, b.1, b.2, a.1, a.2, false, rfl, ⟨_, hpb⟩, ⟨_, hpa⟩, b2.s1.mono (by decide), b2.s2.mono (by decide), a2.s1.mono (by decide), a2.s2.mono (by decide), _, rfl, ?_⟩
            rw [show lessA b.1 b.2 a.1 a.2 false = false from (LA _ _).trans h3]
            refine iteF ?_
            refine ⟨_, rfl, _, _, _, _, _, rfl, hp, T.cl_Stretch, T.na_Stretch_high, sf_high _ _ _ _, ?_⟩
            refine ⟨fun v H' => H = H' ∧ v = .bl (i2 && j2), ?_, ?_⟩
            · refine ⟨_, rfl, _, _, _, _, _, rfl, hp, T.cl_Stretch, T.na_Stretch_high_in, sf_high_in _ _ _ _, _, rfl, ?_⟩
              cases i2 with
              | true => exact iteT ⟨_, rfl, _, _, _, _, _, rfl, hq, T.cl_Stretch, T.na_Stretch_high_in, sf_high_in _ _ _ _, rfl, rfl⟩
              | false => exact iteF ⟨rfl, rfl⟩
            rintro v H' ⟨rfl, rfl⟩
            exact ⟨by show 2 ≤ sizeLine; decide, fun r nr => k r _ _ (same1 nr) upd_same (ma0.same (same1 nr))⟩
        · rw [h3] at k
          · rw [show lessA a.1 a.2 b.1 b.2 false = false from (LA _ _).trans h1]
            refine iteF ?_
            refine ⟨_, rfl, _, _, _, _, _, rfl, hq, T.cl_Stretch, T.na_Stretch_high, sf_high _ _ _ _, pb, _, _, rfl, hpb, mf_no _ _ (by decide +kernel) (by decide +kernel), _, rfl, _, _, _, _, _, rfl, hp, T.cl_Stretch, T.na_Stretch_high, sf_high _ _ _ _, pb, pa, b.1, b.2, a.1, a.2, false, rfl, ⟨_, hpb⟩, ⟨_, hpa⟩, b2.s1.mono (by decide), b2.s2.mono (by decide), a2.s1.mono (by decide), a2.s2.mono (by decide), _, rfl, ?_⟩
            rw [show lessA b.1 b.2 a.1 a.2 false = true from (LA _ _).trans h3]
            exact iteT ⟨_, rfl, _, _, _, _, _, rfl, hq, T.cl_Stretch, T.na_Stretch_high, sf_high _ _ _ _, _, rfl, _, _, _, _, _, rfl, hq, T.cl_Stretch, T.na_Stretch_high_in, sf_high_in _ _ _ _, by show 2 ≤ sizeLine; decide, fun r nr => k r _ _ (same1 nr) upd_same (mb0.same (same1 nr))⟩
theorem ok_Stretch_cut {P : Program} {w : World} {K : PySem.W.Frag} {mg : Str → Option Value} {base : Heap} {φ : Fds} (T : Txt P K mg φ) : FnOk P w K mg base CX0 5 (He.fAd K ("Stretch", some "cut")) φ.Stretch_cut p_Stretch_cut (sp_cutS (He.ga K "Measure") (He.ga K "Stretch")) := by
  obtain ⟨_, B0v, B0⟩ := b_cut_low_2 T
  obtain ⟨_, B1v, B1⟩ := b_cut_high_2 T
  obtain ⟨_, B2v, B2⟩ := b_is_empty_4 T
  obtain ⟨_, B3v, B3⟩ := b_Stretch_init_5 T
  refine T.f_Stretch_cut.ok sc_Stretch_cut (fun vs H Q E h => ?_) (fun cdv A outer s H vs Q E hr h => ?_)
  · obtain ⟨p, q, m1, m2, n1, n2, i1, i2, j1, j2, rfl, sp, sq, k⟩ := h; rfl
  · obtain ⟨p, q, m1, m2, n1, n2, i1, i2, j1, j2, rfl, sp, sq, k⟩ := h
    refine ⟨_, PSs.nox (pss_cons (ps_asg (pe_call (ok_cut_low (K := K) T) (hr.mono (by decide)) rfl T.g_cut_low T.f_cut_low.kp B0 B0v pass0 (pa_cons (pv 0) (pa_cons (pv 1) pa_nil))) (pg_tup rfl (pgs_cons (pg_name (i := 2) sc_Stretch_cut.nd rfl (Or.inl rfl)) (pgs_cons (pg_name (i := 3) sc_Stretch_cut.nd rfl (Or.inl rfl)) pgs_nil))))
      (pss_cons (ps_asg (pe_call (ok_cut_high (K := K) T) (hr.mono (by decide)) rfl T.g_cut_high T.f_cut_high.kp B1 B1v pass0 (pa_cons (pv 0) (pa_cons (pv 1) pa_nil))) (pg_tup rfl (pgs_cons (pg_name (i := 4) sc_Stretch_cut.nd rfl (Or.inl rfl)) (pgs_cons (pg_name (i := 5) sc_Stretch_cut.nd rfl (Or.inl rfl)) pgs_nil))))
      (pss_cons (ps_if (pt_val (pe_call (ok_is_empty (K := K) T) (hr.mono (by decide)) rfl T.g_is_empty T.f_is_empty.kp B2 B2v pass0 (pa_cons (pv 2) (pa_cons (pv 4) (pa_cons (pv 3) (pa_cons (pv 5) pa_nil))))))
      (pss_one (ps_ret pe_non))
      pss_nil)
      (pss_one (ps_ret (pe_make T.mk_Stretch (ok_Stretch_init (K := K) T) (hr.mono (by decide)) rfl T.g_Stretch B3 B3v pass0 (pa_cons (pv 2) (pa_cons (pv 4) (pa_cons (pv 3) (pa_cons (pv 5) pa_nil)))))))))), ?_⟩
    refine ⟨_, rfl, _, rfl, p, q, m1, m2, n1, n2, i1, i2, j1, j2, rfl, sp, sq, fun r v H1 s1 hr1 mv => ?_⟩
    refine ⟨r, _, rfl, SqT.of hr1, rfl, _, _, rfl, _, _, rfl, rfl, ?_⟩
    refine ⟨_, rfl, _, rfl, p, q, m1, m2, n1, n2, i1, i2, j1, j2, rfl, sp.same s1, sq.same s1, fun r2 w H2 s2 hr2 mw => ?_⟩
    refine ⟨r2, _, rfl, SqT.of hr2, rfl, _, _, rfl, _, _, rfl, rfl, ?_⟩
    have mv2 := mv.same s2
    have lv : LowO (cutLo m1 i1 n1 j1).1 := cutLo_low sp.l1 sq.l1
    have lw : LowO (cutHi m2 i2 n2 j2).1 := cutHi_low sp.l2 sq.l2
    refine ⟨_, rfl, _, rfl, _, rfl, _, rfl, v, w, _, _, _, _, rfl, mv2, mw, lv, lw, _, rfl, ?_⟩
    cases e : someB (cutLo m1 i1 n1 j1).1 (cutHi m2 i2 n2 j2).1 (cutLo m1 i1 n1 j1).2 (cutHi m2 i2 n2 j2).2 with
    | false =>
      refine iteT ?_
      exact k _ H2 (s1.trans s2) (.inr ⟨e, rfl⟩)
    | true =>
      refine iteF ?_
      refine ⟨_, rfl, _, rfl, _, rfl, _, rfl, ?_⟩
      intro x dx nx nd ne
      have sx : Same H2 (upd (upd H2 dx (.own x)) x (.ins (He.ga K "Stretch") dx [])) := fun c o e => by
        rw [upd_ne (ne_of_none e nx)]; exact up1 nd e
      refine ⟨x, dx, v, w, _, _, _, _, rfl, upd_same, mv2.same sx, mw.same sx, lv, lw, e, fun H' hx kp => ⟨rfl, ?_⟩⟩
      have s' : Same H2 H' := made_same nx nd kp
      exact k _ H' ((s1.trans s2).trans s') (.inl ⟨e, x, rfl, StAt.mk' hx s' mv2 mw lv lw⟩)
theorem ok_end_at {P : Program} {w : World} {K : PySem.W.Frag} {mg : Str → Option Value} {base : Heap} {φ : Fds} (T : Txt P K mg φ) : FnOk P w K mg base CX0 1 (He.fAd K ("end_at", none)) φ.end_at p_end_at (sp_endat K (He.ga K "Measure")) := by
  refine T.f_end_at.ok sc_end_at (fun vs H Q E h => ?_) (fun cdv A outer s H vs Q E hr h => ?_)
  · obtain ⟨T', k, ps, zs, i, rfl, hq, hm, kk⟩ := h; rfl
  · obtain ⟨T', k, ps, zs, i, rfl, hq, hm, kk⟩ := h
    refine ⟨_, PSs.nox (pss_cons (ps_if (pt_chain op_le op_lt pe_int (pv 1) (pe_callB (id := "len") (lenS (K := K)) (by rfl) T.z_len PySem.boot_len (pa_cons (pv 0) pa_nil)))
      (pss_one (ps_ret (pe_ix (ixs (K := K)) (pv 0) (pv 1) (fun _ _ => rfl))))
      pss_nil)
      (pss_one (ps_ret pe_non))), ?_⟩
    have el : ps.length = zs.length := hm.len
    walk_at "w"
    by_cases c1 : 0 ≤ i
    · obtain ⟨n, rfl⟩ := Int.eq_ofNat_of_zero_le c1
      walk_at "w"
      rw [endQ_in rfl] at kk
      by_cases c2 : n < zs.length
      · obtain ⟨a, ha⟩ := ge2 c2
        obtain ⟨p, ep, qp⟩ := hm.at ha
        rw [ha] at kk
        walk_at "w"
        exact kk _ ⟨p, rfl, qp⟩
      · walk_at "w"
        refine kk _ ?_
        rw [List.getElem?_eq_none (by omega)]
        rfl
    · walk_at "w"
      refine kk _ ?_
      rw [endQ_none (by omega)]
      rfl
theorem ok_has_size {P : Program} {w : World} {K : PySem.W.Frag} {mg : Str → Option Value} {base : Heap} {φ : Fds} (T : Txt P K mg φ) : FnOk P w K mg base CX0 2 (He.fAd K ("has_size", none)) φ.has_size p_has_size (sp_hassz K (He.ga K "Measure") (He.ga K "Ladder")) := by
  obtain ⟨_, B0v, B0⟩ := b_is_whole_1 T
  refine T.f_has_size.ok sc_has_size (fun vs H Q E h => ?_) (fun cdv A outer s H vs Q E hr h => ?_)
  · obtain ⟨p, k, zs, r, lo, hi, n, rfl, hL, hn, kk⟩ := h; rfl
  · obtain ⟨p, k, zs, r, lo, hi, n, rfl, hL, hn, kk⟩ := h
    refine ⟨_, PSs.nox (pss_one (ps_ret (pe_and (pe_call (ok_is_whole (K := K) T) (hr.mono (by decide)) rfl T.g_is_whole T.f_is_whole.kp B0 B0v pass0 (pa_cons (pv 1) pa_nil)) (pe_one (pe_chain op_le op_lt pe_int (pv 1) (pe_callB (id := "len") (lenS (K := K)) (by rfl) T.z_len PySem.boot_len (pa_cons (fldK (K := K) (pv 0) rfl) pa_nil))))))), ?_⟩
    have cl_Ladder := T.cl_Ladder
    have na_Ladder_marks := T.na_Ladder_marks
    have na_Ladder_rule := T.na_Ladder_rule
    have na_Ladder_least := T.na_Ladder_least
    have na_Ladder_most := T.na_Ladder_most
    
    obtain ⟨⟨dx, T', ps, l, h, hp, hT, hm, ql, qh⟩, l0, l1, hri, hru, hsp⟩ := hL
    have el : ps.length = zs.length := hm.len
    walk_at "w"
    show Q (.bl (decide ((n : Int) < (ps.length : Int)))) H
    rw [decide_eq_true (by omega)]
    exact kk
theorem ok_Ladder_len {P : Program} {w : World} {K : PySem.W.Frag} {mg : Str → Option Value} {base : Heap} {φ : Fds} (T : Txt P K mg φ) : FnOk P w K mg base CX0 1 (He.fAd K ("Ladder", some "__len__")) φ.Ladder_len p_Ladder_len (sp_llen K (He.ga K "Measure") (He.ga K "Ladder")) := by
  refine T.f_Ladder_len.ok sc_Ladder_len (fun vs H Q E h => ?_) (fun cdv A outer s H vs Q E hr h => ?_)
  · obtain ⟨p, k, zs, r, lo, hi, rfl, hL, kk⟩ := h; rfl
  · obtain ⟨p, k, zs, r, lo, hi, rfl, hL, kk⟩ := h
    refine ⟨_, PSs.nox (pss_one (ps_ret (pe_callB (id := "len") (lenS (K := K)) (by rfl) T.z_len PySem.boot_len (pa_cons (fldK (K := K) (pv 0) rfl) pa_nil)))), ?_⟩
    have cl_Ladder := T.cl_Ladder
    have na_Ladder_marks := T.na_Ladder_marks
    have na_Ladder_rule := T.na_Ladder_rule
    have na_Ladder_least := T.na_Ladder_least
    have na_Ladder_most := T.na_Ladder_most
    
    obtain ⟨⟨dx, T', ps, l, h, hp, hT, hm, ql, qh⟩, l0, l1, hri, hru, hsp⟩ := hL
    have el : ps.length = zs.length := hm.len
    walk_at "w"
    rw [el]
    exact kk
theorem ok_stretch_by_rule {P : Program} {w : World} {K : PySem.W.Frag} {mg : Str → Option Value} {base : Heap} {φ : Fds} (T : Txt P K mg φ) : FnOk P w K mg base CX0 6 (He.fAd K ("stretch_by_rule", none)) φ.stretch_by_rule p_stretch_by_rule (sp_strR K (He.ga K "Measure") (He.ga K "Stretch")) := by
  obtain ⟨_, B0v, B0⟩ := b_Stretch_init_3 T
  obtain ⟨_, B1v, B1⟩ := b_end_at_2 T
  obtain ⟨_, B2v, B2⟩ := b_Stretch_init_5 T
  obtain ⟨_, B3v, B3⟩ := b_midsts_of_1 T
  refine T.f_stretch_by_rule.ok sc_stretch_by_rule (fun vs H Q E h => ?_) (fun cdv A outer s H vs Q E hr h => ?_)
  · obtain ⟨T', k, ps, zs, r, n, rfl, hT, hm, k0, k1, l1, hn, hr', kk⟩ := h; rfl
  · obtain ⟨T', k, ps, zs, r, n, rfl, hT, hm, k0, k1, l1, hn, hr', kk⟩ := h
    refine ⟨_, PSs.nox (pss_cons (ps_if (pt_cmpR op_eq (pv 1) pe_str (nomark _))
      (pss_one (ps_ret (pe_make T.mk_Stretch (ok_Stretch_init (K := K) T) (hr.mono (by decide)) rfl T.g_Stretch B0 B0v pass0 (pa_cons (pe_call (ok_end_at (K := K) T) (hr.mono (by decide)) rfl T.g_end_at T.f_end_at.kp B1 B1v pass0 (pa_cons (pv 0) (pa_cons (pe_op op_sub (pv 2) pe_int) pa_nil))) (pa_cons (pe_ix (ixt (K := K)) (pv 0) (pv 2) (fun _ _ => rfl)) pa_nil)))))
      pss_nil)
      (pss_cons (ps_if (pt_cmpR op_eq (pv 1) pe_str (nomark _))
      (pss_one (ps_ret (pe_make T.mk_Stretch (ok_Stretch_init (K := K) T) (hr.mono (by decide)) rfl T.g_Stretch B2 B2v pass0 (pa_cons (pe_ix (ixt (K := K)) (pv 0) (pv 2) (fun _ _ => rfl)) (pa_cons (pe_call (ok_end_at (K := K) T) (hr.mono (by decide)) rfl T.g_end_at T.f_end_at.kp B1 B1v pass0 (pa_cons (pv 0) (pa_cons (pe_op op_add (pv 2) pe_int) pa_nil))) (pa_cons pe_bl (pa_cons pe_bl pa_nil)))))))
      pss_nil)
      (pss_cons (ps_set (i := 3) sc_stretch_by_rule.nd rfl (Or.inl rfl) (pe_call (ok_midsts_of (K := K) T) (hr.mono (by decide)) rfl T.g_midsts_of T.f_midsts_of.kp B3 B3v pass0 (pa_cons (pv 0) pa_nil)))
      (pss_one (ps_ret (pe_make T.mk_Stretch (ok_Stretch_init (K := K) T) (hr.mono (by decide)) rfl T.g_Stretch B2 B2v pass0 (pa_cons (pe_call (ok_end_at (K := K) T) (hr.mono (by decide)) rfl T.g_end_at T.f_end_at.kp B1 B1v pass0 (pa_cons (pv 3) (pa_cons (pe_op op_sub (pv 2) pe_int) pa_nil))) (pa_cons (pe_call (ok_end_at (K := K) T) (hr.mono (by decide)) rfl T.g_end_at T.f_end_at.kp B1 B1v pass0 (pa_cons (pv 3) (pa_cons (pv 2) pa_nil))) (pa_cons pe_bl (pa_cons pe_bl pa_nil)))))))))), ?_⟩
    obtain ⟨a, ha⟩ := ge2 hn
    obtain ⟨pa, ea, qa⟩ := hm.at ha
    have l0 : 0 < zs.length := by omega
    refine ⟨_, rfl, rfl, _, rfl, ?_⟩
    refine ite2 (fun e => ?_) (fun e => ?_)
    · have er : r = "up" := V.str.inj (of_decide_eq_true e)
      have ee : rulE zs r n = ((endQ zs ((n : Int) - 1), false), (zs[n]?, true)) := by unfold rulE; rw [if_pos er]
      rw [ee, ha] at kk
      walk_at "w"
      refine ⟨zs, _, rfl, .inr hT, hm, fun v1 q1 => ?_⟩
      walk_at "w"
      have so := some_up (n := n) hr' (i := false) (j := true)
      rw [ha] at so
      exact stq_made (a := endQ zs ((n : Int) - 1)) (b := some a) (ia := false) (ib := true) q1 ⟨pa, rfl, qa⟩ (by omega) (by omega) so fun p H' s S => kk p H' s S
    have er : ¬ r = "up" := fun z => e (decide_eq_true (congrArg V.str z))
    refine ⟨_, rfl, rfl, _, rfl, ?_⟩
    refine ite2 (fun e => ?_) (fun e => ?_)
    · have er2 : r = "down" := V.str.inj (of_decide_eq_true e)
      have ee : rulE zs r n = ((zs[n]?, true), (endQ zs ((n : Int) + 1), false)) := by unfold rulE; rw [if_neg er, if_pos er2]
      rw [ee, ha] at kk
      walk_at "w"
      refine ⟨zs, _, rfl, .inr hT, hm, fun v1 q1 => ?_⟩
      walk_at "w"
      have so := some_dn (n := n) hr' (i := true) (j := false)
      rw [ha] at so
      exact stq_made (b := endQ zs ((n : Int) + 1)) (a := some a) (ia := true) (ib := false) ⟨pa, rfl, qa⟩ q1 (by omega) (by omega) so fun p H' s S => kk p H' s S
    have er2 : ¬ r = "down" := fun z => e (decide_eq_true (congrArg V.str z))
    have ee : rulE zs r n = ((endQ (midq zs) ((n : Int) - 1), true), (endQ (midq zs) n, false)) := by unfold rulE; rw [if_neg er, if_neg er2]
    rw [ee] at kk
    refine ⟨_, rfl, T', k, ps, zs, rfl, hT, hm, k0, k1, l0, l1, fun D ys H1 s1 hD hm1 => ?_⟩
    walk_at "w"
    refine ⟨midq zs, _, rfl, .inl (SqL.of hD), hm1, fun v1 q1 => ?_⟩
    walk_at "w"
    refine ⟨midq zs, _, rfl, .inl (SqL.of hD), hm1, fun v2 q2 => ?_⟩
    exact stq_made (a := endQ (midq zs) ((n : Int) - 1)) (b := endQ (midq zs) n) (ia := true) (ib := false) q1 q2 (by omega) (by omega) (some_nr (midq_rise hr' hm.posL)) fun p H' s S => kk p H' (s1.trans s) S
theorem ok_Ladder_stretch {P : Program} {w : World} {K : PySem.W.Frag} {mg : Str → Option Value} {base : Heap} {φ : Fds} (T : Txt P K mg φ) : FnOk P w K mg base CX0 7 (He.fAd K ("Ladder", some "stretch")) φ.Ladder_stretch p_Ladder_stretch (sp_stretch K (He.ga K "Measure") (He.ga K "Ladder") (He.ga K "Stretch")) := by
  obtain ⟨_, B0v, B0⟩ := b_has_size_2 T
  obtain ⟨_, B1v, B1⟩ := b_Stretch_init_5 T
  obtain ⟨_, B2v, B2⟩ := b_Stretch_cut_2 T
  obtain ⟨_, B3v, B3⟩ := b_stretch_by_rule_3 T
  refine T.f_Ladder_stretch.ok sc_Ladder_stretch (fun vs H Q E h => ?_) (fun cdv A outer s H vs Q E hr h => ?_)
  · obtain ⟨p, k, zs, r, lo, hi, n, rfl, hL, k0, k1, hn, kk⟩ := h; rfl
  · obtain ⟨p, k, zs, r, lo, hi, n, rfl, hL, k0, k1, hn, kk⟩ := h
    refine ⟨_, PSs.nox (pss_cons (ps_if (pt_not (pt_val (pe_call (ok_has_size (K := K) T) (hr.mono (by decide)) rfl T.g_has_size T.f_has_size.kp B0 B0v pass0 (pa_cons (pv 0) (pa_cons (pv 1) pa_nil)))))
      (pss_one ps_never)
      pss_nil)
      (pss_cons (ps_set (i := 2) sc_Ladder_stretch.nd rfl (Or.inl rfl) (pe_make T.mk_Stretch (ok_Stretch_init (K := K) T) (hr.mono (by decide)) rfl T.g_Stretch B1 B1v pass0 (pa_cons (fldK (K := K) (pv 0) rfl) (pa_cons (fldK (K := K) (pv 0) rfl) (pa_cons pe_bl (pa_cons pe_bl pa_nil))))))
      (pss_one (ps_ret (pe_meth (pe_call (ok_stretch_by_rule (K := K) T) (hr.mono (by decide)) rfl T.g_stretch_by_rule T.f_stretch_by_rule.kp B3 B3v pass0 (pa_cons (fldK (K := K) (pv 0) rfl) (pa_cons (fldK (K := K) (pv 0) rfl) (pa_cons (pv 1) pa_nil)))) T.cl_Stretch T.me_Stretch_cut (ok_Stretch_cut (K := K) T) (hr.mono (by decide)) B2 B2v pass0 (pa_cons (pv 2) pa_nil)))))), ?_⟩
    have cl_Ladder := T.cl_Ladder
    have na_Ladder_marks := T.na_Ladder_marks
    have na_Ladder_rule := T.na_Ladder_rule
    have na_Ladder_least := T.na_Ladder_least
    have na_Ladder_most := T.na_Ladder_most
    
    have hL0 := hL
    obtain ⟨⟨dx, T', ps, l, h, hp, hT, hm, ql, qh⟩, l0, l1, hri, hru, hsp⟩ := hL
    have el : ps.length = zs.length := hm.len
    walk_at "w"
    refine ⟨zs, _, lo, hi, n, rfl, hL0, hn, _, rfl, iteF ?_⟩
    walk_at "w"
    change ∀ (x dx : Addr), _
    refine stq_made (a := lo) (b := hi) (ia := true) (ib := true) ql qh (by omega) (by omega) (some_tt hsp) (fun B H1 s1 SB => ?_)
    have hp1 := s1 _ _ hp
    have hT1 := s1.sqt hT
    have hm1 := hm.same s1
    walk_at "w"
    refine ⟨zs, _, n, rfl, hT1, hm1, k0, k1, l1, hn, hri, fun S H2 s2 SS => ?_⟩
    obtain ⟨a1, b1, St1, ra, rb⟩ := SS
    obtain ⟨a2, b2, St2, rc, rd⟩ := SB.same s2
    refine meth_s St1 (by decide +kernel) (by decide +kernel) (by decide +kernel) (by decide +kernel) ?_
    refine ⟨_, rfl, S, B, _, _, _, _, _, _, _, _, rfl, St1, St2, fun v H3 s3 C => ?_⟩
    have A1 : Alike (a1, (rulE zs r n).1.2 && (rulE zs r n).1.1.isSome) (rulE zs r n).1 := Alike.norm (i := (rulE zs r n).1.2) ra
    have A2 : Alike (a2, true && lo.isSome) (lo, true) := Alike.norm rc
    have B1 : Alike (b1, (rulE zs r n).2.2 && (rulE zs r n).2.1.isSome) (rulE zs r n).2 := Alike.norm (i := (rulE zs r n).2.2) rb
    have B2 : Alike (b2, true && hi.isSome) (hi, true) := Alike.norm rd
    exact kk v H3 ((s1.trans s2).trans s3) ⟨_, _, C, cutLo_alike A1 A2, cutHi_alike B1 B2⟩
theorem ok_Measure_minus {P : Program} {w : World} {K : PySem.W.Frag} {mg : Str → Option Value} {base : Heap} {φ : Fds} (T : Txt P K mg φ) : FnOk P w K mg base CX0 4 (He.fAd K ("Measure", some "minus")) φ.Measure_minus p_Measure_minus (sp_bin2 (He.ga K "Measure") (fun t u t' u' => t * u' - t' * u) (fun t u t' u' => u * u')) := by
  obtain ⟨_, B0v, B0⟩ := b_Measure_init_3 T
  refine T.f_Measure_minus.ok sc_Measure_minus (fun vs H Q E h => ?_) (fun cdv A outer s H vs Q E hr h => ?_)
  · obtain ⟨p, q, t, u, t', u', rfl, ⟨dp, hp⟩, ⟨dq, hq⟩, hu, hu', st, su, st', su', sg, k⟩ := h; rfl
  · obtain ⟨p, q, t, u, t', u', rfl, ⟨dp, hp⟩, ⟨dq, hq⟩, hu, hu', st, su, st', su', sg, k⟩ := h
    refine ⟨_, PSs.nox (pss_one (ps_ret (pe_make T.mk_Measure (ok_Measure_init (K := K) T) (hr.mono (by decide)) rfl T.g_Measure B0 B0v pass0 (pa_cons (pe_op op_sub (pe_op op_mulA (fldK (K := K) (pv 0) rfl) (fldK (K := K) (pv 1) rfl)) (pe_op op_mulA (fldK (K := K) (pv 1) rfl) (fldK (K := K) (pv 0) rfl))) (pa_cons (pe_op op_mulA (fldK (K := K) (pv 0) rfl) (fldK (K := K) (pv 1) rfl)) pa_nil))))), ?_⟩
    refine ⟨_, rfl, _, _, _, _, _, rfl, hp, T.cl_Measure, T.na_Measure_top, mf_top _ _, _, rfl, _, _, _, _, _, rfl, hq, T.cl_Measure, T.na_Measure_bottom, mf_bottom _ _, _, _, rfl, rfl, st.cmul su' (by decide) (by decide) (by decide), _, rfl, _, _, _, _, _, rfl, hq, T.cl_Measure, T.na_Measure_top, mf_top _ _, _, rfl, _, _, _, _, _, rfl, hp, T.cl_Measure, T.na_Measure_bottom, mf_bottom _ _, _, _, rfl, rfl, st'.cmul su (by decide) (by decide) (by decide), _, _, rfl, rfl, _, rfl, _, _, _, _, _, rfl, hp, T.cl_Measure, T.na_Measure_bottom, mf_bottom _ _, _, rfl, _, _, _, _, _, rfl, hq, T.cl_Measure, T.na_Measure_bottom, mf_bottom _ _, _, _, rfl, rfl, su.cmul su' (by decide) (by decide) (by decide), ?_⟩
    intro x dx nx nd ne
    refine ⟨x, dx, _, _, rfl, upd_same, Int.mul_ne_zero (by omega) (by omega), sg.log (by decide) (by decide), fun t2 u2 H' fr hx kp => ⟨rfl, ?_⟩⟩
    exact k x t2 u2 H' nx (made_same nx nd kp) ⟨_, hx⟩ fr
theorem ok_some_measure {P : Program} {w : World} {K : PySem.W.Frag} {mg : Str → Option Value} {base : Heap} {φ : Fds} (T : Txt P K mg φ) : FnOk P w K mg base CX0 5 (He.fAd K ("some_measure", none)) φ.some_measure p_some_measure (sp_some26 (He.ga K "Measure") (He.ga K "Stretch")) := by
  obtain ⟨_, B0v, B0⟩ := b_Measure_init_2 T
  obtain ⟨_, B1v, B1⟩ := b_Measure_minus_2 T
  obtain ⟨_, B2v, B2⟩ := b_Measure_plus_2 T
  obtain ⟨_, B3v, B3⟩ := b_Measure_parted_1 T
  refine T.f_some_measure.ok sc_some_measure (fun vs H Q E h => ?_) (fun cdv A outer s H vs Q E hr h => ?_)
  · obtain ⟨p, k, lo, hi, li, hj, rfl, S, sl, sh, so, k0, k1, kk⟩ := h; rfl
  · obtain ⟨p, k, lo, hi, li, hj, rfl, S, sl, sh, so, k0, k1, kk⟩ := h
    refine ⟨_, PSs.nox (pss_cons (ps_if (pt_val (fldK (K := K) (pv 0) rfl))
      (pss_one (ps_ret (fldK (K := K) (pv 0) rfl)))
      pss_nil)
      (pss_cons (ps_if (pt_val (fldK (K := K) (pv 0) rfl))
      (pss_one (ps_ret (fldK (K := K) (pv 0) rfl)))
      pss_nil)
      (pss_cons (ps_if (PW.pt (pw_and (pt_cmpR op_isN (fldK (K := K) (pv 0) rfl) pe_non (nomark _)) (pw_and1 (pt_cmpR op_isN (fldK (K := K) (pv 0) rfl) pe_non (nomark _)))))
      (pss_one (ps_ret (pe_make T.mk_Measure (ok_Measure_init (K := K) T) (hr.mono (by decide)) rfl T.g_Measure B0 B0v pass0 (pa_cons pe_int pa_nil))))
      pss_nil)
      (pss_cons (ps_if (pt_cmpR op_isN (fldK (K := K) (pv 0) rfl) pe_non (nomark _))
      (pss_one (ps_ret (pe_meth (fldK (K := K) (pv 0) rfl) T.cl_Measure T.me_Measure_minus (ok_Measure_minus (K := K) T) (hr.mono (by decide)) B1 B1v pass0 (pa_cons (pe_make T.mk_Measure (ok_Measure_init (K := K) T) (hr.mono (by decide)) rfl T.g_Measure B0 B0v pass0 (pa_cons pe_int pa_nil)) pa_nil))))
      pss_nil)
      (pss_cons (ps_if (pt_cmpR op_isN (fldK (K := K) (pv 0) rfl) pe_non (nomark _))
      (pss_one (ps_ret (pe_meth (fldK (K := K) (pv 0) rfl) T.cl_Measure T.me_Measure_plus (ok_Measure_plus (K := K) T) (hr.mono (by decide)) B2 B2v pass0 (pa_cons (pe_make T.mk_Measure (ok_Measure_init (K := K) T) (hr.mono (by decide)) rfl T.g_Measure B0 B0v pass0 (pa_cons pe_int pa_nil)) pa_nil))))
      pss_nil)
      (pss_one (ps_ret (pe_meth0 (pe_meth (fldK (K := K) (pv 0) rfl) T.cl_Measure T.me_Measure_plus (ok_Measure_plus (K := K) T) (hr.mono (by decide)) B2 B2v pass0 (pa_cons (fldK (K := K) (pv 0) rfl) pa_nil)) T.cl_Measure T.me_Measure_parted (ok_Measure_parted (K := K) T) (hr.mono (by decide)) B3 B3v pass0)))))))), ?_⟩
    have cl_Stretch := T.cl_Stretch
    have na_Stretch_low := T.na_Stretch_low
    have na_Stretch_high := T.na_Stretch_high
    have na_Stretch_low_in := T.na_Stretch_low_in
    have na_Stretch_high_in := T.na_Stretch_high_in
    have cl_Measure := T.cl_Measure
    have na_Measure_top := T.na_Measure_top
    have na_Measure_bottom := T.na_Measure_bottom
    
    obtain ⟨⟨dp, l, h, hp, ml, mh⟩, l1, l2, n1, n2⟩ := S
    have ql : QO (He.ga K "Measure") H k l lo := qo_of ml l1 (reO_self l1.posO) sl
    have qh : QO (He.ga K "Measure") H k h hi := qo_of mh l2 (reO_self l2.posO) sh
    cases li with
    | true =>
      cases lo with
      | none => cases n1 rfl
      | some a =>
        obtain ⟨pa, rfl, qa⟩ := ql
        walk_at "w"
        refine kk pa a H (Same.refl _) (qa.mono (by omega)) rfl ?_ ?_
        · show (ltq a a || (true && eqq a a)) = true
          rw [eqq_self]; simp
        · cases hi with
          | none => rfl
          | some b =>
            show (ltq a b || (hj && eqq a b)) = true
            have so : (ltq a b || (eqq a b && true && hj)) = true := so
            revert so
            cases ltq a b <;> cases eqq a b <;> cases hj <;> simp
    | false =>
      cases hj with
      | true =>
        cases hi with
        | none => cases n2 rfl
        | some b =>
          obtain ⟨pb, rfl, qb⟩ := qh
          walk_at "w"
          refine kk pb b H (Same.refl _) (qb.mono (by omega)) rfl ?_ ?_
          · cases lo with
            | none => rfl
            | some a =>
              show (ltq a b || (false && eqq a b)) = true
              have so : (ltq a b || (eqq a b && false && true)) = true := so
              revert so
              cases ltq a b <;> cases eqq a b <;> simp
          · show (ltq b b || (true && eqq b b)) = true
            rw [eqq_self]; simp
      | false =>
        refine ⟨_, rfl, p, _, dp, _, _, rfl, hp, cl_Stretch, na_Stretch_low_in, sf_low_in _ _ _ _, _, rfl, iteF ?_⟩
        refine ⟨_, rfl, p, _, dp, _, _, rfl, hp, cl_Stretch, na_Stretch_high_in, sf_high_in _ _ _ _, _, rfl, iteF ?_⟩
        cases lo with
        | none =>
          cases ql
          refine ⟨_, rfl, p, _, dp, _, _, rfl, hp, cl_Stretch, na_Stretch_low, sf_low _ _ _ _, rfl, _, rfl, iteDT rfl ?_⟩
          cases hi with
          | none =>
            cases qh
            refine ⟨_, rfl, p, _, dp, _, _, rfl, hp, cl_Stretch, na_Stretch_high, sf_high _ _ _ _, rfl, _, rfl, iteDT rfl ?_⟩
            refine q_made (k := 1) (by decide) (by decide) (by decide) (by decide) (by decide) fun q H1 s1 R => kk q (0, 1) H1 s1 (R.mono (by omega)) rfl rfl rfl
          | some b =>
            obtain ⟨pb, rfl, qb⟩ := qh
            refine ⟨_, rfl, p, _, dp, _, _, rfl, hp, cl_Stretch, na_Stretch_high, sf_high _ _ _ _, rfl, _, rfl, iteDF (fun e => by cases e) ?_⟩
            refine ⟨_, rfl, p, _, dp, _, _, rfl, hp, cl_Stretch, na_Stretch_low, sf_low _ _ _ _, rfl, _, rfl, iteDT rfl ?_⟩
            refine ⟨_, rfl, p, _, dp, _, _, rfl, hp, cl_Stretch, na_Stretch_high, sf_high _ _ _ _, meth_q qb (by decide +kernel) (by decide +kernel) ?_⟩
            refine q_made (k := 1) (by decide) (by decide) (by decide) (by decide) (by decide) fun q H1 s1 R => ?_
            refine q_subT (qb.same s1) R (by omega) k0 (by decide) fun r H2 s2 R2 => ?_
            refine kk r (qsub b (1, 1)) H2 (s1.trans s2) (R2.mono (by omega)) rfl rfl ?_
            show (ltq (qsub b (1, 1)) b || (false && eqq (qsub b (1, 1)) b)) = true
            have e := sub_R qb.pos (show 0 < ((1, 1) : Q2).2 by decide)
            have e1 : toR (1, 1) = 1 := by unfold toR; grind
            rw [(ltq_R R2.pos qb.pos).mpr (by rw [e, e1]; grind)]
            rfl
        | some a =>
          obtain ⟨pa, rfl, qa⟩ := ql
          refine ⟨_, rfl, p, _, dp, _, _, rfl, hp, cl_Stretch, na_Stretch_low, sf_low _ _ _ _, rfl, _, rfl, iteDF (fun e => by cases e) (iteF ?_)⟩
          refine ⟨_, rfl, p, _, dp, _, _, rfl, hp, cl_Stretch, na_Stretch_low, sf_low _ _ _ _, rfl, _, rfl, iteDF (fun e => by cases e) ?_⟩
          cases hi with
          | none =>
            cases qh
            refine ⟨_, rfl, p, _, dp, _, _, rfl, hp, cl_Stretch, na_Stretch_high, sf_high _ _ _ _, rfl, _, rfl, iteDT rfl ?_⟩
            refine ⟨_, rfl, p, _, dp, _, _, rfl, hp, cl_Stretch, na_Stretch_low, sf_low _ _ _ _, meth_q qa (by decide +kernel) (by decide +kernel) ?_⟩
            refine q_made (k := 1) (by decide) (by decide) (by decide) (by decide) (by decide) fun q H1 s1 R => ?_
            refine q_addT (qa.same s1) R (by omega) k0 (by decide) fun r H2 s2 R2 => ?_
            refine kk r (qadd a (1, 1)) H2 (s1.trans s2) (R2.mono (by omega)) rfl ?_ rfl
            show (ltq a (qadd a (1, 1)) || (false && eqq a (qadd a (1, 1)))) = true
            have e := add_R qa.pos (show 0 < ((1, 1) : Q2).2 by decide)
            have e1 : toR (1, 1) = 1 := by unfold toR; grind
            rw [(ltq_R qa.pos R2.pos).mpr (by rw [e, e1]; grind)]
            rfl
          | some b =>
            obtain ⟨pb, rfl, qb⟩ := qh
            have so : (ltq a b || (eqq a b && false && false)) = true := so
            have lt : ltq a b = true := by
              revert so
              cases ltq a b <;> cases eqq a b <;> simp
            have ltR := (ltq_R qa.pos qb.pos).mp lt
            refine ⟨_, rfl, p, _, dp, _, _, rfl, hp, cl_Stretch, na_Stretch_high, sf_high _ _ _ _, rfl, _, rfl, iteDF (fun e => by cases e) ?_⟩
            refine ⟨_, rfl, p, _, dp, _, _, rfl, hp, cl_Stretch, na_Stretch_low, sf_low _ _ _ _, meth_q qa (by decide +kernel) (by decide +kernel) ?_⟩
            refine ⟨_, rfl, p, _, dp, _, _, rfl, hp, cl_Stretch, na_Stretch_high, sf_high _ _ _ _, ?_⟩
            refine q_addT qa qb (by omega) k0 k0 fun r H2 s2 R2 => ?_
            refine meth_q R2 (by decide +kernel) (by decide +kernel) ?_
            refine q_prt2T R2 (by omega) (by omega) fun r3 H3 s3 R3 => ?_
            have m := midR ltR
            have e : toR (qprt (qadd a b) 2) = (toR a + toR b) / 2 := half_R qa.pos qb.pos
            refine kk r3 _ H3 (s2.trans s3) (R3.mono (by omega)) rfl ?_ ?_
            · show (ltq a (qprt (qadd a b) 2) || (false && eqq a (qprt (qadd a b) 2))) = true
              rw [(ltq_R qa.pos R3.pos).mpr (by rw [e]; exact m.1)]
              rfl
            · show (ltq (qprt (qadd a b) 2) b || (false && eqq (qprt (qadd a b) 2) b)) = true
              rw [(ltq_R R3.pos qb.pos).mpr (by rw [e]; exact m.2)]
              rfl
theorem ok_Stretch_shared {P : Program} {w : World} {K : PySem.W.Frag} {mg : Str → Option Value} {base : Heap} {φ : Fds} (T : Txt P K mg φ) : FnOk P w K mg base CX0 6 (He.fAd K ("Stretch", some "shared")) φ.Stretch_shared p_Stretch_shared (sp_sh26 (He.ga K "Measure") (He.ga K "Stretch")) := by
  obtain ⟨_, B0v, B0⟩ := b_Stretch_cut_2 T
  obtain ⟨_, B1v, B1⟩ := b_some_measure_1 T
  refine T.f_Stretch_shared.ok sc_Stretch_shared (fun vs H Q E h => ?_) (fun cdv A outer s H vs Q E hr h => ?_)
  · obtain ⟨p, q, k, m1, m2, n1, n2, i1, i2, j1, j2, rfl, sp, sq, z1, z2, z3, z4, k0, k1, kk⟩ := h; rfl
  · obtain ⟨p, q, k, m1, m2, n1, n2, i1, i2, j1, j2, rfl, sp, sq, z1, z2, z3, z4, k0, k1, kk⟩ := h
    refine ⟨_, PSs.nox (pss_cons (ps_set (i := 2) sc_Stretch_shared.nd rfl (Or.inl rfl) (pe_meth (pv 0) T.cl_Stretch T.me_Stretch_cut (ok_Stretch_cut (K := K) T) (hr.mono (by decide)) B0 B0v pass0 (pa_cons (pv 1) pa_nil)))
      (pss_cons (ps_if (pt_cmpR op_isN (pv 2) pe_non (nomark _))
      (pss_one (ps_ret pe_non))
      pss_nil)
      (pss_one (ps_ret (pe_call (ok_some_measure (K := K) T) (hr.mono (by decide)) rfl T.g_some_measure T.f_some_measure.kp B1 B1v pass0 (pa_cons (pv 2) pa_nil)))))), ?_⟩
    have cl_Stretch := T.cl_Stretch
    have na_Stretch_low := T.na_Stretch_low
    have na_Stretch_high := T.na_Stretch_high
    have na_Stretch_low_in := T.na_Stretch_low_in
    have na_Stretch_high_in := T.na_Stretch_high_in
    
    obtain ⟨dx, fs, hx, no⟩ := sp.raw (m := "cut") (by decide +kernel) (by decide +kernel) (by decide +kernel) (by decide +kernel)
    refine ⟨_, rfl, p, dx, fs, rfl, hx, no, _, rfl, p, q, m1, m2, n1, n2, i1, i2, j1, j2, rfl, sp, sq, fun v H1 s1 c => ?_⟩
    refine ⟨_, rfl, rfl, _, rfl, ?_⟩
    rcases c with ⟨e, r, rfl, S⟩ | ⟨e, rfl⟩
    · refine iteDF (fun e => by cases e) ?_
      have so : someB (cutLo m1 i1 n1 j1).1 (cutHi m2 i2 n2 j2).1 ((cutLo m1 i1 n1 j1).2 && (cutLo m1 i1 n1 j1).1.isSome) ((cutHi m2 i2 n2 j2).2 && (cutHi m2 i2 n2 j2).1.isSome) = true := by
        revert e
        generalize cutLo m1 i1 n1 j1 = c
        generalize cutHi m2 i2 n2 j2 = d
        obtain ⟨c, i⟩ := c
        obtain ⟨d, j⟩ := d
        cases c <;> cases d <;> simp [someB]
      refine ⟨_, rfl, r, k, _, _, _, _, rfl, S, cutLo_sze z1 z3, cutHi_sze z2 z4, so, k0, k1, fun t z H2 s2 qz ez g1 g2 => ?_⟩
      rw [loIn_flag (x := cutLo m1 i1 n1 j1), cutLo_in sp.l1.posO sq.l1.posO qz.pos, Bool.and_eq_true] at g1
      rw [hiIn_flag (x := cutHi m2 i2 n2 j2), cutHi_in sp.l2.posO sq.l2.posO qz.pos, Bool.and_eq_true] at g2
      exact kk _ H2 (s1.trans s2) (.inl ⟨t, z, rfl, qz, ez, g1.1, g2.1, g1.2, g2.2⟩)
    · refine iteDT rfl ?_
      exact kk _ H1 s1 (.inr ⟨e, rfl⟩)
theorem ok_shared_by {P : Program} {w : World} {K : PySem.W.Frag} {mg : Str → Option Value} {base : Heap} {φ : Fds} (T : Txt P K mg φ) : FnOk P w K mg base CX0 7 (He.fAd K ("shared_by", none)) φ.shared_by p_shared_by (sp_shby26 (He.ga K "Measure") (He.ga K "Stretch")) := by
  obtain ⟨_, B0v, B0⟩ := b_Stretch_shared_2 T
  refine T.f_shared_by.ok sc_shared_by (fun vs H Q E h => ?_) (fun cdv A outer s H vs Q E hr h => ?_)
  · obtain ⟨v, w', k, zs, zt, r, rt, lo, hi, lt, ht, a, b, rfl, rv, rw', L, M, ha, hb, z1, z2, z3, z4, k0, k1, kk⟩ := h; rfl
  · obtain ⟨v, w', k, zs, zt, r, rt, lo, hi, lt, ht, a, b, rfl, rv, rw', L, M, ha, hb, z1, z2, z3, z4, k0, k1, kk⟩ := h
    refine ⟨_, PSs.nox (pss_cons (ps_if (PW.pt (pw_or (pt_cmpR op_isN (pv 0) pe_non (nomark _)) (pw_or1 (pt_cmpR op_isN (pv 1) pe_non (nomark _)))))
      (pss_one (ps_ret pe_non))
      pss_nil)
      (pss_one (ps_ret (pe_meth (pv 0) T.cl_Stretch T.me_Stretch_shared (ok_Stretch_shared (K := K) T) (hr.mono (by decide)) B0 B0v pass0 (pa_cons (pv 1) pa_nil))))), ?_⟩
    have cl_Stretch := T.cl_Stretch
    have na_Stretch_low := T.na_Stretch_low
    have na_Stretch_high := T.na_Stretch_high
    have na_Stretch_low_in := T.na_Stretch_low_in
    have na_Stretch_high_in := T.na_Stretch_high_in
    
    rcases rv with ⟨s1, p, rfl, m1, m2, S, r1, r2⟩ | ⟨s1, rfl⟩
    · rcases rw' with ⟨s2, q, rfl, n1, n2, S2, q1, q2⟩ | ⟨s2, rfl⟩
      · obtain ⟨dx, fs, hx, no⟩ := S.raw (m := "shared") (by decide +kernel) (by decide +kernel) (by decide +kernel) (by decide +kernel)
        refine ⟨_, rfl, rfl, _, rfl, iteDF (fun e => by cases e) ?_⟩
        refine ⟨_, rfl, rfl, _, rfl, iteDF (fun e => by cases e) ?_⟩
        obtain ⟨d1, va, vb, h1, ma, mb⟩ := S.ob
        obtain ⟨d2, vc, vd, h2, mc, md⟩ := S2.ob
        refine ⟨_, rfl, p, dx, fs, rfl, hx, no, _, rfl, p, q, k, m1, m2, n1, n2, _, _, _, _, rfl, S, S2, raw_sze ma S.l1 r1 z1, raw_sze mb S.l2 r2 z2, raw_sze mc S2.l1 q1 z3, raw_sze md S2.l2 q2 z4, k0, k1, fun u H' s m => ?_⟩
        exact kk u H' s (met_ofW L M ha hb S.l1 S.l2 S2.l1 S2.l2 r1 r2 q1 q2 m)
      · refine ⟨_, rfl, rfl, _, rfl, iteDF (fun e => by cases e) ?_⟩
        refine ⟨_, rfl, rfl, _, rfl, iteDT rfl ?_⟩
        exact kk _ H (Same.refl _) (.inr ⟨rfl, fun x f g => none_met M hb s2 g⟩)
    · refine ⟨_, rfl, rfl, _, rfl, iteDT rfl (iteT ?_)⟩
      exact kk _ H (Same.refl _) (.inr ⟨rfl, fun x f g => none_met L ha s1 f⟩)
theorem ok_common_measures {P : Program} {w : World} {K : PySem.W.Frag} {mg : Str → Option Value} {base : Heap} {φ : Fds} (T : Txt P K mg φ) : FnOk P w K mg base CX0 8 (He.fAd K ("common_measures", none)) φ.common_measures p_common_measures (sp_common26 K (He.ga K "Measure") (He.ga K "Ladder")) := by
  obtain ⟨_, B0v, B0⟩ := b_Ladder_stretch_2 T
  obtain ⟨_, B1v, B1⟩ := b_Ladder_len_1 T
  obtain ⟨_, B2v, B2⟩ := b_shared_by_2 T
  refine T.f_common_measures.ok sc_common_measures (fun vs H Q E h => ?_) (fun cdv A outer s H vs Q E hr h => ?_)
  · obtain ⟨p, q, k, zs, zt, r, rt, lo, hi, lt, ht, a, rfl, hp, hq, ha, k0, k1, kk⟩ := h; rfl
  · obtain ⟨p, q, k, zs, zt, r, rt, lo, hi, lt, ht, a, rfl, hp, hq, ha, k0, k1, kk⟩ := h
    refine ⟨_, PSs.nox (pss_cons (ps_set (i := 3) sc_common_measures.nd rfl (Or.inr rfl) (pe_meth (pv 0) T.cl_Ladder T.me_Ladder_stretch (ok_Ladder_stretch (K := K) T) (hr.mono (by decide)) B0 B0v pass0 (pa_cons (pv 1) pa_nil)))
      (pss_one (ps_ret (pe_lc (own := [("size", 4)]) (g := gName 4) rfl sc_common_measures.nd (pi_range1 rfl T.z_range (pa_cons (pe_callB (id := "len") (call_lenO (ok_Ladder_len (K := K) T) T.me_Ladder_len (bnil B1v B1) pass0 (hr.mono (by decide))) (by rfl) T.z_len PySem.boot_len (pa_cons (pv 2) pa_nil)) pa_nil)) (blkOk_by (own := [("size", 4)]) (N := N_common_measures) (sc := (defScope s_common_measures)) (by decide +kernel)) (fun _ _ _ _ _ => (pg_name (i := 4) sc_common_measures.nd rfl (Or.inl rfl))) (fun _ _ _ _ _ => pts_nil) (fun _ _ _ _ _ => (pe_call (ok_shared_by (K := K) T) (hr.mono (by decide)) rfl T.g_shared_by T.f_shared_by.kp B2 B2v pass0 (pa_cons (pv 3) (pa_cons (pe_meth (pv 2) T.cl_Ladder T.me_Ladder_stretch (ok_Ladder_stretch (K := K) T) (hr.mono (by decide)) B0 B0v pass0 (pa_cons (pv 4) pa_nil)) pa_nil)))))))), ?_⟩
    have cl_Ladder := T.cl_Ladder
    have na_Ladder_marks := T.na_Ladder_marks
    have na_Ladder_rule := T.na_Ladder_rule
    have na_Ladder_least := T.na_Ladder_least
    have na_Ladder_most := T.na_Ladder_most
    
    obtain ⟨⟨dx, T', ps, l, h, hpp, hT, hm, ql, qh⟩, _⟩ := id hp
    obtain ⟨⟨dx2, T2, ps2, l2, h2, hqp, hT2, hm2, ql2, qh2⟩, _⟩ := id hq
    have sz1 := fun n => sizE_sz (n := n) (r := r) (szL_of hm) (szE_of ql) (szE_of qh)
    have sz2 := fun n => sizE_sz (n := n) (r := rt) (szL_of hm2) (szE_of ql2) (szE_of qh2)
    have l24 := hq.len1
    refine ⟨_, rfl, meth_l hp (by decide +kernel) (by decide +kernel) (by decide +kernel) (by decide +kernel) ⟨_, rfl, p, k, zs, r, lo, hi, a, rfl, hp, k0, by omega, ha, fun v H1 s1 c => ?_⟩⟩
    have rv := run_of c
    have hq1 := hq.same s1
    refine ⟨_, rfl, _, q, dx2, _, rfl, rfl, s1 _ _ hqp, q, k, zt, rt, lt, ht, rfl, hq1, zt.length, rfl, by omega, ?_⟩
    walk_at "w"
    intro D nD
    refine lcr (n := zt.length) walk_range (fun _ _ _ _ => trivial) (fun i H v => MetW (He.ga K "Measure") H (4 * k + 36) v zs zt r rt lo hi lt ht a i) (fun i H H' v q n => q.nl n) (szs (by omega)) trivial nD (fun i x H2 H3 N M hi' s2 yy hN => ?_) (fun H2 us s2 hD ly hy => ?_)
    · obtain ⟨rfl, rfl⟩ := yy
      have hq2 := hq1.same s2
      refine ⟨rfl, yesT ?_⟩
      refine ⟨_, rfl, _, rfl, meth_l hq2 (by decide +kernel) (by decide +kernel) (by decide +kernel) (by decide +kernel) ⟨_, rfl, q, k, zt, rt, lt, ht, i, by show [V.ref q, V.int (0 + (i : Int))] = _; rw [Int.zero_add], hq2, k0, by omega, hi', fun w' H4 s4 c2 => ?_⟩⟩
      refine ⟨v, w', k + k + 12, zs, zt, r, rt, lo, hi, lt, ht, a, i, rfl, (rv.same s2).same s4, run_of c2, ladq_of hp, ladq_of hq, ha, hi', (sz1 a).1, (sz1 a).2, (sz2 i).1, (sz2 i).2, by omega, by omega, fun u H5 s5 m => ?_⟩
      exact hN _ _ (s4.trans s5) ((show k + k + 12 + (k + k + 12) + 12 = 4 * k + 36 by omega) ▸ m)
    exact kk D us H2 (s1.trans s2) hD ly (fun b u hu => hy b u hu)
theorem ok_led {P : Program} {w : World} {K : PySem.W.Frag} {mg : Str → Option Value} {base : Heap} {φ : Fds} (T : Txt P K mg φ) : FnOk P w K mg base CX0 9 (He.fAd K ("led", none)) φ.led p_led (sp_led K (He.ga K "Measure") (He.ga K "Ladder")) := by
  obtain ⟨_, B0v, B0⟩ := b_common_measures_3 T
  refine T.f_led.ok sc_led (fun vs H Q E h => ?_) (fun cdv A outer s H vs Q E hr h => ?_)
  · obtain ⟨p, q, k, zs, zt, r, rt, lo, hi, lt, ht, a, rfl, hp, hq, ha, k0, k1, kk⟩ := h; rfl
  · obtain ⟨p, q, k, zs, zt, r, rt, lo, hi, lt, ht, a, rfl, hp, hq, ha, k0, k1, kk⟩ := h
    refine ⟨_, PSs.nox (pss_cons (ps_set (i := 3) sc_led.nd rfl (Or.inl rfl) (pe_call (ok_common_measures (K := K) T) (hr.mono (by decide)) rfl T.g_common_measures T.f_common_measures.kp B0 B0v pass0 (pa_cons (pv 0) (pa_cons (pv 1) (pa_cons (pv 2) pa_nil)))))
      (pss_cons (ps_setLc (i := 4) (own := [("size", 5), ("measure", 6)]) (g := gTup K 2 (gCons (gName 5) (gCons (gName 6) (gNil)))) rfl sc_led.nd rfl rfl (sw_true rfl rfl rfl (by decide +kernel)) (pi_enum (by rfl) T.z_enumerate (pa_cons (pv 3) pa_nil)) (blkOk_by (own := [("size", 5), ("measure", 6)]) (N := N_led) (sc := (defScope s_led)) (by decide +kernel)) (fun _ _ _ _ _ => (pg_tup rfl (pgs_cons (pg_name (i := 5) sc_led.nd rfl (Or.inl rfl)) (pgs_cons (pg_name (i := 6) sc_led.nd rfl (Or.inl rfl)) pgs_nil)))) (fun _ _ _ _ _ => (pts_one (pt_cmpR op_notN (pv 6) pe_non (nomark _)))) (fun _ _ _ _ _ => (pv 5)))
      (pss_cons (ps_if (pt_cmpR op_eq (pe_callB (id := "len") (lenS (K := K)) (by rfl) T.z_len PySem.boot_len (pa_cons (pv 4) pa_nil)) pe_int (nomark _))
      (pss_one (ps_ret pe_non))
      pss_nil)
      (pss_one (ps_ret (pe_tup (pa_cons (pe_ix (ixl (K := K)) (pv 4) pe_int (fun _ _ => rfl)) (pa_cons (pe_ix (ixl (K := K)) (pv 4) (pe_un un_neg pe_int) (fun _ _ => rfl)) pa_nil)))))))), ?_⟩
    have cl_Ladder := T.cl_Ladder
    have na_Ladder_marks := T.na_Ladder_marks
    have na_Ladder_rule := T.na_Ladder_rule
    have na_Ladder_least := T.na_Ladder_least
    have na_Ladder_most := T.na_Ladder_most
    
    have l24 := hq.len1
    have LQ := ladq_of hq
    refine ⟨_, rfl, _, rfl, _, rfl, p, q, k, zs, zt, r, rt, lo, hi, lt, ht, a, rfl, hp, hq, ha, k0, k1, fun D us H1 s1 hD ly hus => ?_⟩
    refine ⟨_, rfl, D, _, rfl, SqL.of hD, ?_⟩
    intro E nE
    refine lcz (n := us.length) walk_enum (fun _ _ g s => s.seq g) (oIdx us.length (metC us)) (oIdx_len _ _) (szs (by omega)) (SqL.of hD) nE (fun i x H2 H3 o N M hi' ho s2 y hN hM => ?_) (fun H2 s2 hE => ?_)
    · obtain ⟨t, a0, b0, rfl, nt, rfl, ha0, hb0⟩ := y
      cases ha0
      have eo := oIdx_get ho
      replace hb0 : us[i]? = some b0 := hb0
      rw [metC_at hb0] at eo
      refine ⟨t, _, rfl, SqT.of upd_same, rfl, _, _, rfl, _, _, rfl, rfl, rfl, ?_⟩
      refine ⟨_, rfl, rfl, _, rfl, ?_⟩
      show if (!decide (b0 = V.non)) = true then _ else _
      refine ite2 (fun e => ?_) (fun e => ?_)
      · exact ⟨_, rfl, hN _ _ (by rw [eo, if_pos e]) (same1 nt)⟩
      · exact hM _ (by rw [eo, if_neg e]) (same1 nt)
    rw [oIdx_fm] at hE
    have s02 := s1.trans s2
    have metx : ∀ b, metC us b = true ↔ b < zt.length ∧ ∃ x, sizF zs r lo hi x = some a ∧ sizF zt rt lt ht x = some b := fun b => by
      by_cases hb : b < us.length
      · have hu : us[b]? = some us[b] := List.getElem?_eq_getElem hb
        rw [metC_at hu, met_non (hus b _ hu).met]
        exact ⟨fun h => ⟨by omega, h⟩, fun h => h.2⟩
      · constructor
        · intro h
          unfold metC at h
          rw [List.getElem?_eq_none (by omega)] at h
          cases h
        · intro h
          exact absurd h.1 (by omega)
    have below : ∀ b x, sizF zt rt lt ht x = some b → b < zt.length := fun b x h => sizeQ_lt h
    refine ⟨_, rfl, E, _, rfl, .inl (SqL.of hE), rfl, _, rfl, ?_⟩
    by_cases ne : idx us.length (metC us) = []
    · rw [ne]
      refine iteDT rfl ?_
      refine kk _ none H2 s02 rfl fun b hb x f g => ?_
      have hm := (metx b).mpr ⟨hb, x, f, g⟩
      have : ((b : Nat) : Int) ∈ idx us.length (metC us) := idx_mem.mpr ⟨b, by omega, hm, rfl⟩
      rw [ne] at this
      cases this
    · obtain ⟨c, hc0, lc, mc, hmin⟩ := idx_first ne
      obtain ⟨d, hd0, ld, md, hmax⟩ := idx_last ne
      have l0 := List.length_pos_iff.mpr ne
      refine iteDF (fun e => by have e := V.int.inj e; rw [List.length_map] at e; omega) ?_
      have hat0 : atI ((idx us.length (metC us)).map V.int) 0 = some (.int (c : Int)) := atI_nat (j := 0) (mapI hc0)
      have hat1 : atI ((idx us.length (metC us)).map V.int) (-1) = some (.int (d : Int)) := atI_end (n := (idx us.length (metC us)).length - 1) (by have h9 : ((idx us.length (metC us)).map V.int).length = (idx us.length (metC us)).length := List.length_map ..; omega) (mapI hd0)
      refine ⟨_, rfl, E, _, _, _, rfl, rfl, SqL.of hE, hat0, _, rfl, _, rfl, E, _, _, _, rfl, rfl, SqL.of hE, hat1, szl (Nat.le_of_ble_eq_true rfl), fun t nt => ?_⟩
      refine kk (.ref t) (some (c, d)) _ (s02.up nt) ⟨t, rfl, upd_same⟩ ⟨by omega, by omega, hmin d ld md, ((metx c).mp mc).2, ((metx d).mp md).2, fun b x f g => ?_⟩
      have hb := below b x g
      have hm := (metx b).mpr ⟨hb, x, f, g⟩
      exact ⟨hmin b (by omega) hm, hmax b (by omega) hm⟩
theorem ok_led_paper {P : Program} {w : World} {K : PySem.W.Frag} {mg : Str → Option Value} {base : Heap} {φ : Fds} (T : Txt P K mg φ) : FnOk P w K mg base CX0 9 (He.fAd K ("led_paper", none)) φ.led_paper p_led_paper (sp_ledpap26 K (He.ga K "Measure") (He.ga K "Ladder")) := by
  obtain ⟨_, B0v, B0⟩ := b_common_measures_3 T
  refine T.f_led_paper.ok sc_led_paper (fun vs H Q E h => ?_) (fun cdv A outer s H vs Q E hr h => ?_)
  · obtain ⟨p, q, k, zs, zt, r, rt, lo, hi, lt, ht, a, rfl, hp, hq, ha, k0, k1, kk⟩ := h; rfl
  · obtain ⟨p, q, k, zs, zt, r, rt, lo, hi, lt, ht, a, rfl, hp, hq, ha, k0, k1, kk⟩ := h
    refine ⟨_, PSs.nox (pss_one (ps_ret (pe_callTy (T := "tuple") (tupleL (K := K)) (by rfl) T.z_tuple (by decide +kernel) (pa_cons (pe_lc (own := [("measure", 3)]) (g := gName 3) rfl sc_led_paper.nd (pi_list (pe_call (ok_common_measures (K := K) T) (hr.mono (by decide)) rfl T.g_common_measures T.f_common_measures.kp B0 B0v pass0 (pa_cons (pv 0) (pa_cons (pv 1) (pa_cons (pv 2) pa_nil))))) (blkOk_by (own := [("measure", 3)]) (N := N_led_paper) (sc := (defScope s_led_paper)) (by decide +kernel)) (fun _ _ _ _ _ => (pg_name (i := 3) sc_led_paper.nd rfl (Or.inl rfl))) (fun _ _ _ _ _ => (pts_one (pt_cmpR op_notN (pv 3) pe_non (nomark _)))) (fun _ _ _ _ _ => (pv 3))) pa_nil)))), ?_⟩
    have cl_Ladder := T.cl_Ladder
    have na_Ladder_marks := T.na_Ladder_marks
    have na_Ladder_rule := T.na_Ladder_rule
    have na_Ladder_least := T.na_Ladder_least
    have na_Ladder_most := T.na_Ladder_most
    
    have l24 := hq.len1
    refine ⟨_, rfl, _, rfl, _, rfl, p, q, k, zs, zt, r, rt, lo, hi, lt, ht, a, rfl, hp, hq, ha, k0, k1, fun D us H1 s1 hD ly hus => ?_⟩
    refine ⟨D, rfl, ⟨_, SqL.of hD⟩, fun E nE => ?_⟩
    refine lcz (n := us.length) walk_list (fun _ _ g s => s.seq g) (us.map fun v => if (!decide (v = V.non)) = true then some v else none) (by rw [List.length_map]) (szs (by omega)) (SqL.of hD) nE (fun i x H4 H5 z N M hi' hz s4 yy hy hn => ?_) (fun H4 s4 hE => ?_)
    · obtain ⟨rfl, hx⟩ := yy
      rw [List.getElem?_map, hx] at hz
      have hz : (if (!decide (x = V.non)) = true then some x else none) = z := Option.some.inj hz
      refine ⟨rfl, _, rfl, rfl, _, rfl, ?_⟩
      show if (!decide (x = V.non)) = true then _ else _
      refine ite2 (fun e => ?_) (fun e => ?_)
      · exact ⟨_, rfl, hy _ _ (by rw [← hz, if_pos e]) (Same.refl _)⟩
      · exact hn _ (by rw [← hz, if_neg e]) (Same.refl _)
    rw [nn_fm] at hE
    obtain ⟨bs, P⟩ := pap_of (us := us) (off := 0) (fun i u e => by rw [Nat.zero_add]; exact ((hus i u e).nl (Nl.of s4)).met)
    have lf := List.length_filter_le (fun v => !decide (v = V.non)) us
    refine ⟨E, _, rfl, .inl (Rd.of hE), fun T' nT => ?_⟩
    refine kk T' _ bs _ ((s1.trans s4).up nT) upd_same (by omega) ?_ ?_
    all_goals rw [ly] at P
    exact PapS.same P (same1 nT)
    exact PapZ.same (papz_of (by omega) (fun b u e => (hus b u e).nl (Nl.of s4)) (fun y hy => (List.mem_filter.mp hy).1) P) (same1 nT)
theorem ok_comes_to {P : Program} {w : World} {K : PySem.W.Frag} {mg : Str → Option Value} {base : Heap} {φ : Fds} (T : Txt P K mg φ) : FnOk P w K mg base CX0 8 (He.fAd K ("comes_to", none)) φ.comes_to p_comes_to (sp_comes K (He.ga K "Measure") (He.ga K "Ladder")) := by
  obtain ⟨_, B0v, B0⟩ := b_Ladder_size_2 T
  refine T.f_comes_to.ok sc_comes_to (fun vs H Q E h => ?_) (fun cdv A outer s H vs Q E hr h => ?_)
  · obtain ⟨q, t, k, zs, r, lo, hi, z, n, rfl, hq, qz, k0, k1, f, kk⟩ := h; rfl
  · obtain ⟨q, t, k, zs, r, lo, hi, z, n, rfl, hq, qz, k0, k1, f, kk⟩ := h
    refine ⟨_, PSs.nox (pss_one (ps_ret (pe_and (pe_callB (id := "isinstance") (isi (K := K)) (by rfl) T.z_isinstance (by decide +kernel) (pa_cons (pv 1) (pa_cons (pe_glob (v := .ref (He.ga K "Measure")) rfl T.g_Measure rfl) pa_nil))) (pe_one (pe_cmpR op_eq (pe_meth (pv 0) T.cl_Ladder T.me_Ladder_size (ok_Ladder_size (K := K) T) (hr.mono (by decide)) B0 B0v pass0 (pa_cons (pv 1) pa_nil)) (pv 2) (nomark _)))))), ?_⟩
    have cl_Ladder := T.cl_Ladder
    have na_Ladder_marks := T.na_Ladder_marks
    have na_Ladder_rule := T.na_Ladder_rule
    have na_Ladder_least := T.na_Ladder_least
    have na_Ladder_most := T.na_Ladder_most
    have cl_Measure := T.cl_Measure
    have na_Measure_top := T.na_Measure_top
    have na_Measure_bottom := T.na_Measure_bottom
    
    obtain ⟨t1, u1, ⟨dx, hM⟩, _⟩ := id qz.ob
    refine ⟨_, rfl, _, _, _, _, true, rfl, .own _, tyM hM T.cl_Measure T.ii_Measure, T.k_Measure_Measure, _, rfl, iteT ?_⟩
    refine ⟨_, rfl, meth_l hq (by decide +kernel) (by decide +kernel) (by decide +kernel) (by decide +kernel) ⟨_, rfl, q, t, _, zs, r, lo, hi, z, rfl, hq, qz, by omega, by omega, fun H1 s1 => ?_⟩⟩
    rw [sizF_eq (ladq_of hq) qz.pos, f]
    refine ⟨_, rfl, rfl, ?_⟩
    rw [show decide (optI (some n) = V.int (n : Int)) = true from decide_eq_true rfl]
    exact kk H1 s1
theorem ok_is_tuple_of {P : Program} {w : World} {K : PySem.W.Frag} {mg : Str → Option Value} {base : Heap} {φ : Fds} (T : Txt P K mg φ) : FnOk P w K mg base CX0 1 (He.fAd K ("is_tuple_of", none)) φ.is_tuple_of p_is_tuple_of (sp_istupU K) := by
  refine T.f_is_tuple_of.ok sc_is_tuple_of (fun vs H Q E h => ?_) (fun cdv A outer s H vs Q E hr h => ?_)
  · obtain ⟨a, xs, n, rfl, hT, kk⟩ := h; rfl
  · obtain ⟨a, xs, n, rfl, hT, kk⟩ := h
    refine ⟨_, PSs.nox (pss_one (ps_ret (pe_and (pe_callB (id := "isinstance") (isi (K := K)) (by rfl) T.z_isinstance (by decide +kernel) (pa_cons (pv 0) (pa_cons (pe_bltn (v := .ty "tuple") rfl T.z_tuple (by decide +kernel) rfl) pa_nil))) (pe_one (pe_cmpR op_eq (pe_callB (id := "len") (lenS (K := K)) (by rfl) T.z_len PySem.boot_len (pa_cons (pv 0) pa_nil)) (pv 1) (nomark _)))))), ?_⟩
    walk_at "w"
    refine ⟨_, _, _, rfl, .ty _, tyTup hT, kit_ty (r := true) (by decide +kernel), ?_⟩
    walk_at "w"
    have e : decide (V.int ((xs.length : Nat) : Int) = V.int n) = decide ((xs.length : Int) = n) := decide_eq_decide.mpr ⟨fun h => V.int.inj h, fun h => by rw [h]⟩
    rw [e]
    exact kk
theorem ok_is_paper {P : Program} {w : World} {K : PySem.W.Frag} {mg : Str → Option Value} {base : Heap} {φ : Fds} (T : Txt P K mg φ) : FnOk P w K mg base CX0 9 (He.fAd K ("is_paper", none)) φ.is_paper p_is_paper (sp_ispap K (He.ga K "Measure") (He.ga K "Ladder")) := by
  obtain ⟨_, B0v, B0⟩ := b_is_tuple_of_2 T
  obtain ⟨_, B1v, B1⟩ := b_comes_to_3 T
  refine T.f_is_paper.ok sc_is_paper (fun vs H Q E h => ?_) (fun cdv A outer s H vs Q E hr h => ?_)
  · obtain ⟨p, q, T1, S, k, zs, zt, r, rt, lo, hi, lt, ht, a, c, d, ys, rfl, hp, hq, k0, k1, hT, hS, cd, d24, ly, all, kk⟩ := h; rfl
  · obtain ⟨p, q, T1, S, k, zs, zt, r, rt, lo, hi, lt, ht, a, c, d, ys, rfl, hp, hq, k0, k1, hT, hS, cd, d24, ly, all, kk⟩ := h
    refine ⟨_, PSs.nox (pss_cons (ps_asg (pv 3) (pg_tup rfl (pgs_cons (pg_name (i := 5) sc_is_paper.nd rfl (Or.inr rfl)) (pgs_cons (pg_name (i := 6) sc_is_paper.nd rfl (Or.inl rfl)) pgs_nil))))
      (pss_cons (ps_if (pt_not (pt_val (pe_call (ok_is_tuple_of (K := K) T) (hr.mono (by decide)) rfl T.g_is_tuple_of T.f_is_tuple_of.kp B0 B0v pass0 (pa_cons (pv 4) (pa_cons (pe_op op_add (pe_op op_sub (pv 6) (pv 5)) pe_int) pa_nil)))))
      (pss_one (ps_ret pe_bl))
      pss_nil)
      (pss_one (ps_ret (pe_callB (id := "all") (allK (K := K)) (by rfl) T.z_all (by decide +kernel) (pa_cons (pe_lc (own := [("at", 7), ("measure", 8)]) (g := gTup K 2 (gCons (gName 7) (gCons (gName 8) (gNil)))) rfl sc_is_paper.nd (pi_enumT (by rfl) T.z_enumerate (pa_cons (pv 4) pa_nil)) (blkOk_by (own := [("at", 7), ("measure", 8)]) (N := N_is_paper) (sc := (defScope s_is_paper)) (by decide +kernel)) (fun _ _ _ _ _ => (pg_tup rfl (pgs_cons (pg_name (i := 7) sc_is_paper.nd rfl (Or.inl rfl)) (pgs_cons (pg_name (i := 8) sc_is_paper.nd rfl (Or.inl rfl)) pgs_nil)))) (fun _ _ _ _ _ => pts_nil) (fun _ _ _ _ _ => (pe_and (pe_call (ok_comes_to (K := K) T) (hr.mono (by decide)) rfl T.g_comes_to T.f_comes_to.kp B1 B1v pass0 (pa_cons (pv 0) (pa_cons (pv 8) (pa_cons (pv 1) pa_nil)))) (pe_one (pe_call (ok_comes_to (K := K) T) (hr.mono (by decide)) rfl T.g_comes_to T.f_comes_to.kp B1 B1v pass0 (pa_cons (pv 2) (pa_cons (pv 8) (pa_cons (pe_op op_add (pv 5) (pv 7)) pa_nil)))))))) pa_nil)))))), ?_⟩
    have cl_Ladder := T.cl_Ladder
    have na_Ladder_marks := T.na_Ladder_marks
    have na_Ladder_rule := T.na_Ladder_rule
    have na_Ladder_least := T.na_Ladder_least
    have na_Ladder_most := T.na_Ladder_most
    have cl_Measure := T.cl_Measure
    have na_Measure_top := T.na_Measure_top
    have na_Measure_bottom := T.na_Measure_bottom
    
    have sS := SqT.of (K := K) hS
    refine ⟨_, rfl, T1, _, rfl, SqT.of hT, rfl, _, _, rfl, _, _, rfl, rfl, ?_⟩
    refine ⟨_, rfl, _, rfl, _, rfl, _, _, rfl, rfl, _, _, rfl, rfl, S, ys, _, rfl, sS, _, rfl, ?_⟩
    rw [decide_eq_true (show ((ys.length : Nat) : Int) = (d : Int) - (c : Int) + 1 by omega)]
    refine iteF ?_
    refine ⟨_, rfl, S, ys, rfl, sS, fun D nD => ?_⟩
    refine lcz (n := ys.length) walk_enumT (fun _ _ g s => s.sqt g) (List.replicate ys.length (some (V.bl true))) List.length_replicate (szs (by omega)) sS nD (fun i x H3 H4 o N M hi' ho s3 y hN hM => ?_) (fun H3 s3 hD => ?_)
    · obtain ⟨t, a0, b0, rfl, nt, rfl, ha0, hb0⟩ := y
      cases ha0
      rw [List.getElem?_replicate, if_pos hi'] at ho
      cases ho
      obtain ⟨m, z, rfl, qz, f, g⟩ := all i b0 hb0
      have s4 := s3.trans (same1 (u := .tup [.int (i : Nat), .ref m]) nt)
      refine ⟨t, _, rfl, SqT.of upd_same, rfl, _, _, rfl, _, _, rfl, rfl, rfl, yesT ?_⟩
      refine ⟨_, rfl, _, rfl, _, rfl, p, m, k, zs, r, lo, hi, z, a, rfl, hp.same s4, qz.same s4, k0, k1, f, fun H5 s5 => ?_⟩
      refine ⟨_, rfl, iteT ?_⟩
      refine ⟨_, rfl, _, rfl, _, rfl, _, rfl, _, _, rfl, rfl, q, m, k, zt, rt, lt, ht, z, c + i, rfl, (hq.same s4).same s5, (qz.same s4).same s5, k0, k1, g, fun H6 s6 => ?_⟩
      exact hN _ _ rfl ((same1 nt : Same H3 _).trans (s5.trans s6))
    rw [rep_fm] at hD
    refine ⟨D, _, rfl, SqL.of hD, ?_⟩
    rw [rep_all]
    exact kk _ s3
theorem ok_are_wholes {P : Program} {w : World} {K : PySem.W.Frag} {mg : Str → Option Value} {base : Heap} {φ : Fds} (T : Txt P K mg φ) : FnOk P w K mg base CX0 2 (He.fAd K ("are_wholes", none)) φ.are_wholes p_are_wholes (sp_arew K) := by
  obtain ⟨_, B0v, B0⟩ := b_is_whole_1 T
  refine T.f_are_wholes.ok sc_are_wholes (fun vs H Q E h => ?_) (fun cdv A outer s H vs Q E hr h => ?_)
  · obtain ⟨a, ns, rfl, hT, hn, kk⟩ := h; rfl
  · obtain ⟨a, ns, rfl, hT, hn, kk⟩ := h
    refine ⟨_, PSs.nox (pss_one (ps_ret (pe_and (pe_callB (id := "isinstance") (isi (K := K)) (by rfl) T.z_isinstance (by decide +kernel) (pa_cons (pv 0) (pa_cons (pe_bltn (v := .ty "tuple") rfl T.z_tuple (by decide +kernel) rfl) pa_nil))) (pe_one (pe_callB (id := "all") (allK (K := K)) (by rfl) T.z_all (by decide +kernel) (pa_cons (pe_lc (own := [("part", 1)]) (g := gName 1) rfl sc_are_wholes.nd (pi_tup (pv 0)) (blkOk_by (own := [("part", 1)]) (N := N_are_wholes) (sc := (defScope s_are_wholes)) (by decide +kernel)) (fun _ _ _ _ _ => (pg_name (i := 1) sc_are_wholes.nd rfl (Or.inl rfl))) (fun _ _ _ _ _ => pts_nil) (fun _ _ _ _ _ => (pe_call (ok_is_whole (K := K) T) (hr.mono (by decide)) rfl T.g_is_whole T.f_is_whole.kp B0 B0v pass0 (pa_cons (pv 1) pa_nil)))) pa_nil)))))), ?_⟩
    walk_at "w"
    refine ⟨_, _, _, rfl, .ty _, tyTup hT, kit_ty (r := true) (by decide +kernel), ?_⟩
    walk_at "w"
    refine ⟨⟨_, hT⟩, fun D nD => ?_⟩
    refine lcz (n := (ns.map V.int).length) walk_tup (fun _ _ g s => s.sqt g) (List.replicate (ns.map V.int).length (some (V.bl true))) List.length_replicate (szs (by rw [List.length_map]; omega)) hT nD (fun i x H1 H2 o N M hi ho s1 yy hN hM => ?_) (fun H1 s1 hD => ?_)
    · obtain ⟨rfl, hx⟩ := yy
      obtain ⟨z, _, rfl⟩ := List.mem_map.mp (List.mem_of_getElem? hx)
      rw [List.getElem?_replicate, if_pos hi] at ho
      cases ho
      refine ⟨rfl, yesT ?_⟩
      walk_at "w"
      exact hN _ _ rfl (Same.refl _)
    rw [filT] at hD
    refine ⟨D, _, rfl, SqL.of hD, ?_⟩
    rw [allT]
    exact kk _ s1
theorem ok_shows_led {P : Program} {w : World} {K : PySem.W.Frag} {mg : Str → Option Value} {base : Heap} {φ : Fds} (T : Txt P K mg φ) : FnOk P w K mg base CX0 10 (He.fAd K ("shows_led", none)) φ.shows_led p_shows_led (sp_shled K (He.ga K "Measure") (He.ga K "Ladder")) := by
  obtain ⟨_, B0v, B0⟩ := b_has_size_2 T
  obtain ⟨_, B1v, B1⟩ := b_led_3 T
  obtain ⟨_, B2v, B2⟩ := b_is_tuple_of_2 T
  obtain ⟨_, B3v, B3⟩ := b_is_paper_5 T
  obtain ⟨_, B4v, B4⟩ := b_are_wholes_1 T
  refine T.f_shows_led.ok sc_shows_led (fun vs H Q E h => ?_) (fun cdv A outer s H vs Q E hr h => ?_)
  · obtain ⟨p, q, S, v, k, zs, zt, r, rt, lo, hi, lt, ht, a, u, ys, bs, rfl, hp, hq, ha, k0, k1, lv, ls, hS, P, kk⟩ := h; rfl
  · obtain ⟨p, q, S, v, k, zs, zt, r, rt, lo, hi, lt, ht, a, u, ys, bs, rfl, hp, hq, ha, k0, k1, lv, ls, hS, P, kk⟩ := h
    refine ⟨_, PSs.nox (pss_cons (ps_if (pt_not (pt_val (pe_call (ok_has_size (K := K) T) (hr.mono (by decide)) rfl T.g_has_size T.f_has_size.kp B0 B0v pass0 (pa_cons (pv 0) (pa_cons (pv 1) pa_nil)))))
      (pss_one (ps_ret pe_bl))
      pss_nil)
      (pss_cons (ps_set (i := 5) sc_shows_led.nd rfl (Or.inl rfl) (pe_call (ok_led (K := K) T) (hr.mono (by decide)) rfl T.g_led T.f_led.kp B1 B1v pass0 (pa_cons (pv 0) (pa_cons (pv 1) (pa_cons (pv 2) pa_nil)))))
      (pss_cons (ps_if (pt_cmpR op_isN (pv 5) pe_non (nomark _))
      (pss_one (ps_ret (pe_and (pe_cmpR op_isN (pv 3) pe_non (nomark _)) (pe_one (pe_call (ok_is_tuple_of (K := K) T) (hr.mono (by decide)) rfl T.g_is_tuple_of T.f_is_tuple_of.kp B2 B2v pass0 (pa_cons (pv 4) (pa_cons pe_int pa_nil)))))))
      pss_nil)
      (pss_one (ps_ret (pe_and (pe_call (ok_are_wholes (K := K) T) (hr.mono (by decide)) rfl T.g_are_wholes T.f_are_wholes.kp B4 B4v pass0 (pa_cons (pv 3) pa_nil)) (pe_and (pe_cmpR (eqDK (K := K) hr.units) (pv 3) (pv 5) (nomark _)) (pe_one (pe_call (ok_is_paper (K := K) T) (hr.mono (by decide)) rfl T.g_is_paper T.f_is_paper.kp B3 B3v pass0 (pa_cons (pv 0) (pa_cons (pv 1) (pa_cons (pv 2) (pa_cons (pv 5) (pa_cons (pv 4) pa_nil)))))))))))))), ?_⟩
    have cl_Ladder := T.cl_Ladder
    have na_Ladder_marks := T.na_Ladder_marks
    have na_Ladder_rule := T.na_Ladder_rule
    have na_Ladder_least := T.na_Ladder_least
    have na_Ladder_most := T.na_Ladder_most
    have cl_Measure := T.cl_Measure
    have na_Measure_top := T.na_Measure_top
    have na_Measure_bottom := T.na_Measure_bottom
    
    have l24 := hq.len1
    refine ⟨_, rfl, _, rfl, p, k, zs, r, lo, hi, a, rfl, hp, ha, _, rfl, iteF ?_⟩
    refine ⟨_, rfl, _, rfl, _, rfl, p, q, k, zs, zt, r, rt, lo, hi, lt, ht, a, rfl, hp, hq, ha, k0, by omega, fun w' u' H1 s1 lw ls' => ?_⟩
    have eu := LedS.uniq ls' ls
    subst eu
    have hS1 := s1 _ _ hS
    cases u' with
    | none =>
      cases (show v = V.non from lv)
      cases (show w' = V.non from lw)
      have e := pap_none P ls
      subst e
      refine ⟨_, rfl, rfl, _, rfl, iteDT rfl ?_⟩
      refine ⟨_, rfl, rfl, _, rfl, iteDT rfl ?_⟩
      exact ⟨_, rfl, S, [], 0, rfl, SqT.of hS1, kk H1 s1⟩
    | some cd =>
      obtain ⟨c, d⟩ := cd
      obtain ⟨Tv, rfl, hv⟩ := lv
      obtain ⟨Tw, rfl, hw⟩ := lw
      have R := pap_run (ladq_of hp) (ladq_of hq) P ls
      have hv1 := s1 _ _ hv
      refine ⟨_, rfl, rfl, _, rfl, iteDF (fun e => by cases e) ?_⟩
      refine ⟨_, rfl, Tv, [(c : Int), (d : Int)], rfl, SqT.of hv1, Nat.le_of_ble_eq_true rfl, fun H2 s2 => ?_⟩
      refine ⟨_, rfl, iteT ?_⟩
      refine ⟨_, rfl, _, rfl, intsD [(c : Int), (d : Int)], intsD [(c : Int), (d : Int)], dpT (s2 _ _ hv1), dpT (s2 _ _ hw), rfl, rfl, _, rfl, ?_⟩
      rw [eqv_intsD, decide_eq_true rfl]
      refine iteT ?_
      have s12 := s1.trans s2
      obtain ⟨h1, h2, h3, _, _, _⟩ := ls
      refine ⟨_, rfl, _, rfl, _, rfl, _, rfl, _, rfl, p, q, Tw, S, 4 * k + 36, zs, zt, r, rt, lo, hi, lt, ht, a, c, d, ys, rfl, (hp.same s12).mono (by omega), (hq.same s12).mono (by omega), by omega, by omega, s2 _ _ hw, s12 _ _ hS, h3, by omega, R.1, fun i y e => ?_, fun H3 s3 => kk H3 (s12.trans s3)⟩
      obtain ⟨t, z, e1, q1, f, g⟩ := R.2 i y e
      exact ⟨t, z, e1, q1.same s12, f, g⟩
theorem ok_l_begin {P : Program} {w : World} {K : PySem.W.Frag} {mg : Str → Option Value} {base : Heap} {φ : Fds} (T : Txt P K mg φ) : FnOk P w K mg base CX0 1 (He.fAd K ("_law_begin", none)) φ.l_begin p_l_begin (sp_begin K) := by
  refine T.f_l_begin.ok sc_l_begin (fun vs H Q E h => ?_) (fun cdv A outer s H vs Q E hr h => ?_)
  · obtain ⟨a, ns, rfl, hS, hn, kk⟩ := h; rfl
  · obtain ⟨a, ns, rfl, hS, hn, kk⟩ := h
    refine ⟨_, PSs.nox (pss_cons (ps_par (i := 1) (j := 2) rfl sc_l_begin.nd rfl rfl (by decide) rfl rfl (pa_cons pe_int (pa_cons (pe_lst pa_nil) pa_nil)) (by rfl))
      (pss_cons (ps_for PassesOwn.never rfl (pi_enum (by rfl) T.z_enumerate (pa_cons (pe_slice (slL (K := K)) (pv 0) po_none (po_some pe_int)) pa_nil)) (pg_tup rfl (pgs_cons (pg_name (i := 3) sc_l_begin.nd rfl (Or.inl rfl)) (pgs_cons (pg_name (i := 4) sc_l_begin.nd rfl (Or.inl rfl)) pgs_nil)))
      (pss_cons (ps_set (i := 1) sc_l_begin.nd rfl (Or.inl rfl) (pe_op op_mod (pe_op op_add (pe_op op_add (pe_op op_add (pe_op op_mulA (pv 1) pe_int) (pe_op op_mod (pv 4) (pe_op op_pow pe_int pe_int))) (pe_op op_mulA pe_int (pv 3))) pe_int) pe_int))
      (pss_one (ps_if (pt_cmpR op_ge (pv 4) (pe_op op_pow pe_int pe_int) (nomark _))
      (pss_one (ps_expr (pe_bm PySem.F.plainAttrs_list PySem.F.slot_list_append PySem.F.type_list_append mt_append (pv 2) (pa_cons (pv 4) pa_nil))))
      pss_nil))))
      (pss_one (ps_ret (pe_lst (pa_cons (pv 2) (pa_cons (pv 1) (pa_cons pe_int pa_nil)))))))), ?_⟩
    walk_at "w"
    intro G nG
    have sG := same1 (u := .lst []) nG
    have hG : (upd H G (.lst [])) G = some (.lst []) := upd_same
    have nlG : ∀ b, H b = none → b ≠ G → (upd H G (.lst [])) b = none := fun b e n => by rw [upd_ne n]; exact e
    generalize upd H G (.lst []) = H1 at *
    refine ⟨_, _, rfl, ?_⟩
    walk_at "w"
    all_goals (try exact (ns.map V.int : List V))
    refine ⟨sG.seq hS, ?_⟩
    intro L3 nL3
    have ec : cutV (ns.map V.int) none (some 63) = ns.map V.int := (cutV_take (ns.map V.int) (n := 63) rfl).trans (List.take_of_length_le (by rw [List.length_map]; exact hn))
    rw [ec]
    have s3 := sG.trans (same1 (u := .lst (ns.map V.int)) nL3)
    have hG3 := up1 (u := .lst (ns.map V.int)) nL3 hG
    have hL3 : (upd H1 L3 (.lst (ns.map V.int))) L3 = some (.lst (ns.map V.int)) := upd_same
    have neL : L3 ≠ G := fun q => by rw [q, hG] at nL3; cases nL3
    generalize upd H1 L3 (.lst (ns.map V.int)) = H3 at *
    walk_at "w"
    refine for_it walk_enum (fun i σ H' => ∃ (sd : Int) (gs : List Int), (∃ v1 v2, σ = [some (.ref a), some (.int sd), some (.ref G), v1, v2]) ∧ 0 ≤ sd ∧ sd < 2305843009213693951 ∧ (∀ c o, H3 c = some o → c ≠ G → H' c = some o) ∧ H' G = some (.lst (gs.map V.int)) ∧ (∀ z ∈ gs, 0 ≤ z) ∧ gs.length ≤ i) ⟨271828183, [], ⟨_, _, rfl⟩, by decide, by decide, fun c o e _ => e, hG3, fun _ h => (nomatch h), Nat.le_refl _⟩ (fun i σ H' _ q => by obtain ⟨_, _, _, _, _, k, _⟩ := q; exact SqL.of (K := K) (k _ _ hL3 neL)) ?_ ?_
    · rintro i x σ H4 H5 hi ⟨sd, gs, ⟨v1, v2, rfl⟩, b0, b1, k, hg, g0, g1⟩ hY
      obtain ⟨T, y1, y2, rfl, nT, rfl, e1, e2⟩ := hY
      cases e1
      obtain ⟨c, rfl⟩ : ∃ c : Int, y2 = V.int c := by
        replace e2 : (ns.map V.int)[i]? = some y2 := e2
        rw [List.getElem?_map] at e2
        cases e3 : ns[i]? with
        | none => rw [e3] at e2; cases e2
        | some c => rw [e3] at e2; cases e2; exact ⟨c, rfl⟩
      rw [List.length_map] at hi
      have hT : (upd H4 T (.tup [V.int (i : Int), V.int c])) T = some (.tup [V.int (i : Int), V.int c]) := upd_same
      have hg4 := up1 (u := .tup [V.int (i : Int), V.int c]) nT hg
      have k4 : ∀ b o, H3 b = some o → b ≠ G → (upd H4 T (.tup [V.int (i : Int), V.int c])) b = some o := fun b o e n => up1 nT (k b o e n)
      generalize upd H4 T (.tup [V.int (i : Int), V.int c]) = H5 at *
      walk_at "w"
      refine ⟨cp10, ?_⟩
      walk_at "w"
      refine ⟨p40, ?_⟩
      walk_at "w"
      refine ⟨cp18, ?_⟩
      walk_at "w"
      have q0 := Int.emod_nonneg (sd * 1000003 + c % 10 ^ (Int.toNat 40) + 7919 * (i : Int) + 1) (b := 2305843009213693951) (by decide)
      have q1 := Int.emod_lt_of_pos (sd * 1000003 + c % 10 ^ (Int.toNat 40) + 7919 * (i : Int) + 1) (b := 2305843009213693951) (by decide)
      show (if _ = true then _ else _)
      split
      · rename_i hc
        have c0 : 0 ≤ c := Int.le_trans (by decide : (0 : Int) ≤ 10 ^ (Int.toNat 18)) (of_decide_eq_true hc)
        have lg : (gs.map V.int).length < 1000 := by rw [List.length_map]; omega
        walk_at "w"
        refine ⟨gs ++ [c], ⟨_, _, rfl⟩, q0, q1, fun b o e n => by rw [upd_ne n]; exact k4 b o e n, by rw [upd_same]; simp, fun z hz => ?_, by rw [List.length_append, List.length_singleton]; omega⟩
        rcases List.mem_append.mp hz with hz | hz
        · exact g0 z hz
        · rw [List.mem_singleton.mp hz]; exact c0
      · exact ⟨_, gs, ⟨_, _, rfl⟩, q0, q1, k4, hg4, g0, by omega⟩
    · rintro σ H4 ⟨sd, gs, ⟨v1, v2, rfl⟩, b0, b1, k, hg, g0, g1⟩
      walk_at "w"
      intro p np
      have sA : Same H H4 := fun b o e => k b o (s3 b o e) fun q => by rw [q, nG] at e; cases e
      refine kk p G _ (sA.trans (same1 np)) ?_ nG ⟨⟨sd, 0, upd_same, b0, b1, by decide, by decide⟩, ⟨gs, up1 np hg, g0, by rw [List.length_map] at g1; omega⟩, fun q => by rw [← q, hg] at np; cases np⟩
      cases eH : H p with
      | none => rfl
      | some o => exact absurd (sA _ _ eH) (by rw [np]; intro q; cases q)
theorem ok_l_pick {P : Program} {w : World} {K : PySem.W.Frag} {mg : Str → Option Value} {base : Heap} {φ : Fds} (T : Txt P K mg φ) : FnOk P w K mg base CX0 1 (He.fAd K ("_law_pick", none)) φ.l_pick p_l_pick sp_pick27 := by
  refine T.f_l_pick.ok sc_l_pick (fun vs H Q E h => ?_) (fun cdv A outer s H vs Q E hr h => ?_)
  · obtain ⟨h, g, n, m, rfl, pt, hn, hm, hl, kk⟩ := h; rfl
  · obtain ⟨h, g, n, m, rfl, pt, hn, hm, hl, kk⟩ := h
    refine ⟨_, PSs.nox (pss_cons (ps_while PassesOwn.never (PW.pt (pw_and (pt_cmpR (op_neL0 (Nat.lt_of_le_of_lt (Nat.le_add_right _ 64) hr.units)) (pe_ix (ixl (K := K)) (pv 0) pe_int (fun _ _ => rfl)) (pe_lst pa_nil) (nomark _)) (pw_and1 (pt_cmpR op_eq (pe_ix (ixl (K := K)) (pe_ix (ixl (K := K)) (pv 0) pe_int (fun _ _ => rfl)) pe_int (fun _ _ => rfl)) pe_int (nomark _)))))
      (pss_one (ps_expr (pe_bm PySem.F.plainAttrs_list PySem.F.slot_list_pop PySem.F.type_list_pop mt_popAt (pe_ix (ixl (K := K)) (pv 0) pe_int (fun _ _ => rfl)) (pa_cons pe_int pa_nil)))))
      (pss_cons (ps_if (pt_cmpR (op_neL0 (Nat.lt_of_le_of_lt (Nat.le_add_right _ 64) hr.units)) (pe_ix (ixl (K := K)) (pv 0) pe_int (fun _ _ => rfl)) (pe_lst pa_nil) (nomark _))
      (pss_cons (ps_set (i := 2) sc_l_pick.nd rfl (Or.inl rfl) (pe_op op_mod (pe_ix (ixl (K := K)) (pe_ix (ixl (K := K)) (pv 0) pe_int (fun _ _ => rfl)) pe_int (fun _ _ => rfl)) (pv 1)))
      (pss_cons (ps_asg (pe_op op_fd (pe_ix (ixl (K := K)) (pe_ix (ixl (K := K)) (pv 0) pe_int (fun _ _ => rfl)) pe_int (fun _ _ => rfl)) (pv 1)) (pg_sub (pe_ix (ixl (K := K)) (pv 0) pe_int (fun _ _ => rfl)) pe_int set_list))
      (pss_one (ps_ret (pv 2)))))
      pss_nil)
      (pss_cons (ps_set (i := 3) sc_l_pick.nd rfl (Or.inl rfl) (pe_op op_add (pe_ix (ixl (K := K)) (pv 0) pe_int (fun _ _ => rfl)) pe_int))
      (pss_cons (ps_asg (pv 3) (pg_sub (pv 0) pe_int set_list))
      (pss_cons (ps_set (i := 4) sc_l_pick.nd rfl (Or.inl rfl) (pe_op op_mod (pe_op op_add (pe_op op_add (pe_ix (ixl (K := K)) (pv 0) pe_int (fun _ _ => rfl)) (pe_op op_mulA (pe_op op_mulA (pe_op op_mulA pe_int (pv 3)) (pv 3)) (pv 3))) (pe_op op_mulA pe_int (pv 3))) pe_int))
      (pss_one (ps_ret (pe_op op_mod (pe_op op_add (pe_op op_fd (pe_op op_mod (pe_op op_mulA (pv 4) (pv 4)) pe_int) pe_int) (pe_op op_fd (pv 4) pe_int)) (pv 1))))))))), ?_⟩
    obtain ⟨⟨s, t, hh, s0, s1, t0, t1⟩, ⟨gs, hg, g0, g1⟩, ne⟩ := id pt
    refine ⟨fun l σ H' => ∃ gs', σ = [some (.ref h), some (.int m), none, none, none] ∧ H' h = some (.lst [.ref g, .int s, .int t]) ∧ H' g = some (.lst (gs'.map V.int)) ∧ (∀ z ∈ gs', 0 ≤ z) ∧ gs'.length ≤ 63 ∧ Kp2 h g H H' ∧ l = gs'.length, ⟨_, gs, rfl, hh, hg, g0, g1, Kp2.refl H, rfl⟩, ?_⟩
    rintro l σ H' ⟨gs', rfl, hh1, hg1, p0, p1, k1, rfl⟩
    cases gs' with
    | nil =>
      walk_at "w"
      intro p2 np2
      have k2 := k1.up (u := .lst []) np2
      have n2 : p2 ≠ h ∧ p2 ≠ g := ⟨fun q => (by rw [q, hh1] at np2; cases np2), fun q => (by rw [q, hg1] at np2; cases np2)⟩
      have hh2 := up1 (u := .lst []) np2 hh1
      have hg2 := up1 (u := .lst []) np2 hg1
      have hp2 : (upd H' p2 (.lst [])) p2 = some (.lst []) := upd_same
      generalize upd H' p2 (.lst []) = H2 at *
      refine ⟨_, _, _, rfl, rfl, SqL.of hg2, SqL.of hp2, ?_⟩
      walk_at "w"
      intro p3 np3
      have k3 := k2.up (u := .lst []) np3
      have n3 : p3 ≠ h ∧ p3 ≠ g := ⟨fun q => (by rw [q, hh2] at np3; cases np3), fun q => (by rw [q, hg2] at np3; cases np3)⟩
      have hh3 := up1 (u := .lst []) np3 hh2
      have hg3 := up1 (u := .lst []) np3 hg2
      have hp3 : (upd H2 p3 (.lst [])) p3 = some (.lst []) := upd_same
      generalize upd H2 p3 (.lst []) = H3 at *
      refine ⟨_, _, _, rfl, rfl, SqL.of hg3, SqL.of hp3, ?_⟩
      walk_at "w"
      all_goals (try refine ⟨SqL.of upd_same, atI_of (n := 1) rfl rfl, ?_⟩)
      walk_at "w"
      refine ⟨⟨by decide, by decide⟩, ?_⟩
      walk_at "w"
      refine ⟨⟨by decide, by decide⟩, ?_⟩
      walk_at "w"
      refine kk _ _ (Int.emod_nonneg _ (by omega)) (Int.emod_lt_of_pos _ hm) ⟨⟨s, t + 1, upd_same, s0, s1, by omega, by omega⟩, ⟨[], (by rw [upd_ne ne]; exact hg3), fun _ h => (nomatch h), (by decide)⟩, ne⟩ k3.puth
    | cons z zs =>
      walk_at "w"
      intro p2 np2
      have k2 := k1.up (u := .lst []) np2
      have hh2 := up1 (u := .lst []) np2 hh1
      have hg2 := up1 (u := .lst []) np2 hg1
      have hp2 : (upd H' p2 (.lst [])) p2 = some (.lst []) := upd_same
      generalize upd H' p2 (.lst []) = H2 at *
      refine ⟨_, _, _, rfl, rfl, SqL.of hg2, SqL.of hp2, ?_⟩
      walk_at "w"
      all_goals (try refine ⟨atI_of (n := 0) rfl rfl, ?_⟩)
      walk_at "w"
      show (if _ = true then _ else _)
      by_cases z0 : z = 0
      · subst z0
        rw [if_pos (by simp)]
        refine ⟨fun σ2 Hx => ∃ gs' : List Int, σ2 = [some (.ref h), some (.int m), none, none, none] ∧ Hx h = some (.lst [.ref g, .int s, .int t]) ∧ Hx g = some (.lst (gs'.map V.int)) ∧ (∀ z ∈ gs', 0 ≤ z) ∧ gs'.length ≤ 63 ∧ Kp2 h g H Hx ∧ zs.length = gs'.length, fun σ2 Hx q => ⟨zs.length, Nat.lt_succ_self _, q⟩, ?_⟩
        walk_at "w"
        refine ⟨(by simp [seqIndex?] : seqIndex? 0 ((0 :: zs).map V.int).length = some 0), rfl, ?_⟩
        exact ⟨zs, rfl, (by rw [upd_ne (Ne.symm ne)]; exact hh2), upd_same, fun z hz => p0 z (List.mem_cons_of_mem _ hz), by simp at p1; omega, k2.putg, rfl⟩
      · rw [if_neg (by simp [z0])]
        walk_at "w"
        intro p3 np3
        have k3 := k2.up (u := .lst []) np3
        have hh3 := up1 (u := .lst []) np3 hh2
        have hg3 := up1 (u := .lst []) np3 hg2
        have hp3 : (upd H2 p3 (.lst [])) p3 = some (.lst []) := upd_same
        generalize upd H2 p3 (.lst []) = H3 at *
        refine ⟨_, _, _, rfl, rfl, SqL.of hg3, SqL.of hp3, ?_⟩
        walk_at "w"
        refine ⟨atI_of (n := 0) rfl rfl, ?_⟩
        walk_at "w"
        all_goals (try refine ⟨atI_of (n := 0) rfl rfl, ?_⟩)
        walk_at "w"
        refine ⟨(by simp [ixN] : ixN ((z :: zs).map V.int).length 0 = some 0), ?_⟩
        show tRet (tVar 2) _ _ _
        walk_at "w"
        refine kk _ _ (Int.emod_nonneg _ (by omega)) (Int.emod_lt_of_pos _ hm) ⟨⟨s, t, (by rw [upd_ne (Ne.symm ne)]; exact hh3), s0, s1, t0, by omega⟩, ⟨z.fdiv m :: zs, upd_same, ?_, p1⟩, ne⟩ k3.putg
        intro y hy
        rcases List.mem_cons.mp hy with rfl | hy
        · exact Int.fdiv_nonneg (p0 z (List.mem_cons_self ..)) (by omega)
        · exact p0 y (List.mem_cons_of_mem _ hy)
theorem ok_l_of {P : Program} {w : World} {K : PySem.W.Frag} {mg : Str → Option Value} {base : Heap} {φ : Fds} (T : Txt P K mg φ) : FnOk P w K mg base CX0 2 (He.fAd K ("_law_of", none)) φ.l_of p_l_of (sp_of27 K) := by
  obtain ⟨_, B0v, B0⟩ := b_l_pick_2 T
  refine T.f_l_of.ok sc_l_of (fun vs H Q E h => ?_) (fun cdv A outer s H vs Q E hr h => ?_)
  · obtain ⟨h, g, l, n, xs, rfl, pt, hn, hl, ne, ne2, l0, l1, k⟩ := h; rfl
  · obtain ⟨h, g, l, n, xs, rfl, pt, hn, hl, ne, ne2, l0, l1, k⟩ := h
    refine ⟨_, PSs.nox (pss_one (ps_ret (pe_ix (ixl (K := K)) (pv 1) (pe_call (ok_l_pick (K := K) T) (hr.mono (by decide)) rfl T.g_l_pick T.f_l_pick.kp B0 B0v pass0 (pa_cons (pv 0) (pa_cons (pe_callB (id := "len") (lenS (K := K)) (by rfl) T.z_len PySem.boot_len (pa_cons (pv 1) pa_nil)) pa_nil))) (fun _ _ => rfl)))), ?_⟩
    walk_at "w"
    intro d H1 d0 d1 pt1 k1
    obtain ⟨j, rfl⟩ := Int.eq_ofNat_of_zero_le d0
    have hj : j < xs.length := by omega
    exact ⟨l, xs, _, xs[j], rfl, rfl, k1.seq ne ne2 hl, atI_nat (List.getElem?_eq_getElem hj), k j _ _ (List.getElem?_eq_getElem hj) pt1 k1⟩
theorem ok_l_parts {P : Program} {w : World} {K : PySem.W.Frag} {mg : Str → Option Value} {base : Heap} {φ : Fds} (T : Txt P K mg φ) : FnOk P w K mg base CX0 1 (He.fAd K ("_law_parts", none)) φ.l_parts p_l_parts sp_parts27 := by
  refine T.f_l_parts.ok sc_l_parts (fun vs H Q E h => ?_) (fun cdv A outer s H vs Q E hr h => ?_)
  · obtain ⟨a, b, rfl, hb, lb, k⟩ := h; rfl
  · obtain ⟨a, b, rfl, hb, lb, k⟩ := h
    refine ⟨_, PSs.nox (pss_cons (ps_par (i := 2) (j := 3) rfl sc_l_parts.nd rfl rfl (by decide) rfl rfl (pa_cons (pe_callB (id := "abs") call_abs (by rfl) T.z_abs (by decide +kernel) (pa_cons (pv 0) pa_nil)) (pa_cons (pv 1) pa_nil)) (by rfl))
      (pss_cons (ps_while PassesOwn.never (pt_cmpR op_gt (pv 3) pe_int (nomark _))
      (pss_one (ps_par (i := 2) (j := 3) rfl sc_l_parts.nd rfl rfl (by decide) rfl rfl (pa_cons (pv 3) (pa_cons (pe_op op_mod (pv 2) (pv 3)) pa_nil)) (by rfl))))
      (pss_one (ps_ret (pe_tup (pa_cons (pe_op op_fd (pv 0) (pv 2)) (pa_cons (pe_op op_fd (pv 1) (pv 2)) pa_nil))))))), ?_⟩
    walk_at "w"
    have na : ((if a < 0 then -a else a : Int)) = (a.natAbs : Int) := by split <;> omega
    rw [na]
    refine while_by (fun σ H' => H' = H ∧ ∃ g s : Int, σ = [some (.int a), some (.int b), some (.int g), some (.int s)] ∧ 0 ≤ g ∧ 0 ≤ s ∧ Int.gcd g s = Int.gcd a b)
      (fun σ _ => match σ with | [_, _, _, some (.int s)] => s.toNat | _ => 0) ⟨rfl, _, _, rfl, by omega, by omega, by show Nat.gcd _ _ = Nat.gcd _ _; rw [Int.natAbs_natCast]⟩ ?_ (fun σ H Q Q' hQ ⟨v, e1, i, j, e2, e3, c, e4, q⟩ => ⟨v, e1, i, j, e2, e3, c, e4, hQ _ _ q⟩)
    rintro σ H' ⟨rfl, g, s, rfl, hg, hs, e⟩
    refine ⟨_, rfl, _, _, rfl, rfl, _, rfl, ?_⟩
    refine ite2 (fun c => ?_) (fun c => ?_)
    · have c0 : 0 < s := of_decide_eq_true c
      walk_at "w"
      refine ⟨⟨rfl, s, g % s, rfl, hs, Int.emod_nonneg _ (by omega), (gcd_step c0 hg).trans e⟩, ?_⟩
      show (g % s).toNat < s.toNat
      have h1 := Int.emod_nonneg g (show s ≠ 0 by omega)
      have h2 := Int.emod_lt_of_pos g c0
      omega
    · have c0 : ¬ 0 < s := fun z => c (decide_eq_true z)
      have s0 : s = 0 := by omega
      subst s0
      have eg : g = sgn b * (Int.gcd a b : Int) := by
        rw [← e, Int.gcd_zero_right]
        unfold sgn
        rw [if_pos hb]
        omega
      obtain ⟨g0, gl, fr⟩ := fr_mk (a := a) (b := b) (c := g) (by omega) eg
      obtain ⟨e1, e2⟩ := pr_of hb fr
      have lg : g.natAbs.log2 < 9000 := Nat.lt_of_lt_of_le (PySem.Flt.log2_lt_of (Nat.succ_pos _) (Nat.lt_of_le_of_lt gl Nat.lt_log2_self)) (by omega)
      walk_at "w"
      intro p np
      refine k p _ np (same1 np) ?_
      rw [upd_same]
      show some (HO.tup [.int (a.fdiv g), .int (b.fdiv g)]) = some (HO.tup [.int _, .int _])
      rw [e1, e2]
theorem ok_l_less {P : Program} {w : World} {K : PySem.W.Frag} {mg : Str → Option Value} {base : Heap} {φ : Fds} (T : Txt P K mg φ) : FnOk P w K mg base CX0 1 (He.fAd K ("_law_less", none)) φ.l_less p_l_less sp_less27 := by
  refine T.f_l_less.ok sc_l_less (fun vs H Q E h => ?_) (fun cdv A outer s H vs Q E hr h => ?_)
  · obtain ⟨a, b, x, y, k, rfl, ha, hb, sx, sy, lk, q⟩ := h; rfl
  · obtain ⟨a, b, x, y, k, rfl, ha, hb, sx, sy, lk, q⟩ := h
    refine ⟨_, PSs.nox (pss_one (ps_ret (pe_cmpR op_lt (pe_op op_mulA (pe_ix (ixt (K := K)) (pv 0) pe_int (fun _ _ => rfl)) (pe_ix (ixt (K := K)) (pv 1) pe_int (fun _ _ => rfl))) (pe_op op_mulA (pe_ix (ixt (K := K)) (pv 1) pe_int (fun _ _ => rfl)) (pe_ix (ixt (K := K)) (pv 0) pe_int (fun _ _ => rfl))) (nomark _)))), ?_⟩
    have c1 : CMulW x.num (y.den : Int) := cmw sx.1 sy.2 lk
    have c2 : CMulW y.num (x.den : Int) := cmw sy.1 sx.2 lk
    rw [← lt_PR] at q
    walk_at "w"
    exact q
theorem ok_l_plus {P : Program} {w : World} {K : PySem.W.Frag} {mg : Str → Option Value} {base : Heap} {φ : Fds} (T : Txt P K mg φ) : FnOk P w K mg base CX0 2 (He.fAd K ("_law_plus", none)) φ.l_plus p_l_plus sp_plus27 := by
  obtain ⟨_, B0v, B0⟩ := b_l_parts_2 T
  refine T.f_l_plus.ok sc_l_plus (fun vs H Q E h => ?_) (fun cdv A outer s H vs Q E hr h => ?_)
  · obtain ⟨a, b, x, y, k, rfl, ha, hb, sx, sy, k0, lk, q⟩ := h; rfl
  · obtain ⟨a, b, x, y, k, rfl, ha, hb, sx, sy, k0, lk, q⟩ := h
    refine ⟨_, PSs.nox (pss_one (ps_ret (pe_call (ok_l_parts (K := K) T) (hr.mono (by decide)) rfl T.g_l_parts T.f_l_parts.kp B0 B0v pass0 (pa_cons (pe_op op_add (pe_op op_mulA (pe_ix (ixt (K := K)) (pv 0) pe_int (fun _ _ => rfl)) (pe_ix (ixt (K := K)) (pv 1) pe_int (fun _ _ => rfl))) (pe_op op_mulA (pe_ix (ixt (K := K)) (pv 1) pe_int (fun _ _ => rfl)) (pe_ix (ixt (K := K)) (pv 0) pe_int (fun _ _ => rfl)))) (pa_cons (pe_op op_mulA (pe_ix (ixt (K := K)) (pv 0) pe_int (fun _ _ => rfl)) (pe_ix (ixt (K := K)) (pv 1) pe_int (fun _ _ => rfl))) pa_nil))))), ?_⟩
    have c1 : CMulW x.num (y.den : Int) := cmw sx.1 sy.2 lk
    have c2 : CMulW y.num (x.den : Int) := cmw sy.1 sx.2 lk
    have c3 : CMulW (x.den : Int) (y.den : Int) := cmw sx.2 sy.2 lk
    have p3 := Int.mul_pos (den0 x) (den0 y)
    have l3 : ((x.den : Int) * (y.den : Int)).natAbs.log2 < 9000 := (sx.2.mul sy.2).log (by omega) (by omega)
    walk_at "w"
    rw [add_PR]
    exact q
theorem ok_l_mid {P : Program} {w : World} {K : PySem.W.Frag} {mg : Str → Option Value} {base : Heap} {φ : Fds} (T : Txt P K mg φ) : FnOk P w K mg base CX0 3 (He.fAd K ("_law_mid", none)) φ.l_mid p_l_mid sp_mid27 := by
  obtain ⟨_, B0v, B0⟩ := b_l_plus_2 T
  obtain ⟨_, B1v, B1⟩ := b_l_parts_2 T
  refine T.f_l_mid.ok sc_l_mid (fun vs H Q E h => ?_) (fun cdv A outer s H vs Q E hr h => ?_)
  · obtain ⟨a, b, x, y, k, rfl, ha, hb, sx, sy, k0, lk, q⟩ := h; rfl
  · obtain ⟨a, b, x, y, k, rfl, ha, hb, sx, sy, k0, lk, q⟩ := h
    refine ⟨_, PSs.nox (pss_cons (ps_set (i := 2) sc_l_mid.nd rfl (Or.inl rfl) (pe_call (ok_l_plus (K := K) T) (hr.mono (by decide)) rfl T.g_l_plus T.f_l_plus.kp B0 B0v pass0 (pa_cons (pv 0) (pa_cons (pv 1) pa_nil))))
      (pss_one (ps_ret (pe_call (ok_l_parts (K := K) T) (hr.mono (by decide)) rfl T.g_l_parts T.f_l_parts.kp B1 B1v pass0 (pa_cons (pe_ix (ixt (K := K)) (pv 2) pe_int (fun _ _ => rfl)) (pa_cons (pe_op op_mulA pe_int (pe_ix (ixt (K := K)) (pv 2) pe_int (fun _ _ => rfl))) pa_nil)))))), ?_⟩
    walk_at "w"
    all_goals (try refine ⟨x, y, k, rfl, ha, hb, sx, sy, k0, lk, fun p H' np s hp => ?_⟩)
    have hp' : H' p = some (.tup [.int (x + y).num, .int ((x + y).den : Int)]) := hp
    walk_at "w"
    have sz := (szr_add sx sy).2
    refine ⟨by have := den0 (x + y); omega, (Sz.mul (show Sz 2 2 by decide) sz).log (by omega) (by omega), fun p2 H2 np2 s2 hp2 => ?_⟩
    refine q p2 H2 ?_ (s.trans s2) (by rw [half_PR] at hp2; exact hp2)
    cases eH : H p2 with
    | none => rfl
    | some o => exact absurd (s _ _ eH) (by rw [np2]; intro z; cases z)
theorem ok_l_cut {P : Program} {w : World} {K : PySem.W.Frag} {mg : Str → Option Value} {base : Heap} {φ : Fds} (T : Txt P K mg φ) : FnOk P w K mg base CX0 2 (He.fAd K ("_law_cut", none)) φ.l_cut p_l_cut sp_cut27 := by
  obtain ⟨_, B0v, B0⟩ := b_l_less_2 T
  refine T.f_l_cut.ok sc_l_cut (fun vs H Q E h => ?_) (fun cdv A outer s H vs Q E hr h => ?_)
  · obtain ⟨a, b, s, t, k, rfl, ha, hb, ss, st, lk, q1, q2⟩ := h; rfl
  · obtain ⟨a, b, s, t, k, rfl, ha, hb, ss, st, lk, q1, q2⟩ := h
    refine ⟨_, PSs.nox (pss_cons (ps_asg (pv 0) (pg_tup rfl (pgs_cons (pg_name (i := 2) sc_l_cut.nd rfl (Or.inl rfl)) (pgs_cons (pg_name (i := 3) sc_l_cut.nd rfl (Or.inl rfl)) (pgs_cons (pg_name (i := 4) sc_l_cut.nd rfl (Or.inl rfl)) (pgs_cons (pg_name (i := 5) sc_l_cut.nd rfl (Or.inl rfl)) pgs_nil))))))
      (pss_cons (ps_cut (ps_if (PW.pt (pw_and (pt_cmpR op_notN (pe_ix (ixt (K := K)) (pv 1) pe_int (fun _ _ => rfl)) pe_non (nomark _)) (pw_and1 (PW.pt (pw_or (pt_cmpR op_isN (pv 2) pe_non (nomark _)) (pw_or1 (pt_not (pt_val (pe_call (ok_l_less (K := K) T) (hr.mono (by decide)) rfl T.g_l_less T.f_l_less.kp B0 B0v pass0 (pa_cons (pe_ix (ixt (K := K)) (pv 1) pe_int (fun _ _ => rfl)) (pa_cons (pv 2) pa_nil)))))))))))
      (pss_cons (ps_set (i := 3) sc_l_cut.nd rfl (Or.inl rfl) (pe_and (pe_ix (ixt (K := K)) (pv 1) pe_int (fun _ _ => rfl)) (pe_one (pe_or (pv 3) (pe_one (pe_cmpR (neDK (K := K) hr.units) (pv 2) (pe_ix (ixt (K := K)) (pv 1) pe_int (fun _ _ => rfl)) (nomark _)))))))
      (pss_one (ps_set (i := 2) sc_l_cut.nd rfl (Or.inl rfl) (pe_ix (ixt (K := K)) (pv 1) pe_int (fun _ _ => rfl)))))
      pss_nil))
      (pss_cons (ps_cut (ps_if (PW.pt (pw_and (pt_cmpR op_notN (pe_ix (ixt (K := K)) (pv 1) pe_int (fun _ _ => rfl)) pe_non (nomark _)) (pw_and1 (PW.pt (pw_or (pt_cmpR op_isN (pv 4) pe_non (nomark _)) (pw_or1 (pt_not (pt_val (pe_call (ok_l_less (K := K) T) (hr.mono (by decide)) rfl T.g_l_less T.f_l_less.kp B0 B0v pass0 (pa_cons (pv 4) (pa_cons (pe_ix (ixt (K := K)) (pv 1) pe_int (fun _ _ => rfl)) pa_nil)))))))))))
      (pss_cons (ps_set (i := 5) sc_l_cut.nd rfl (Or.inl rfl) (pe_and (pe_ix (ixt (K := K)) (pv 1) pe_int (fun _ _ => rfl)) (pe_one (pe_or (pv 5) (pe_one (pe_cmpR (neDK (K := K) hr.units) (pv 4) (pe_ix (ixt (K := K)) (pv 1) pe_int (fun _ _ => rfl)) (nomark _)))))))
      (pss_one (ps_set (i := 4) sc_l_cut.nd rfl (Or.inl rfl) (pe_ix (ixt (K := K)) (pv 1) pe_int (fun _ _ => rfl)))))
      pss_nil))
      (pss_cons (ps_if (PW.pt (pw_and (pt_cmpR op_notN (pv 2) pe_non (nomark _)) (pw_and (pt_cmpR op_notN (pv 4) pe_non (nomark _)) (pw_and (pt_not (pt_val (pe_call (ok_l_less (K := K) T) (hr.mono (by decide)) rfl T.g_l_less T.f_l_less.kp B0 B0v pass0 (pa_cons (pv 2) (pa_cons (pv 4) pa_nil))))) (pw_and1 (pt_not (PW.pt (pw_and (pt_cmpR (eqDK (K := K) hr.units) (pv 2) (pv 4) (nomark _)) (pw_and (pt_val (pv 3)) (pw_and1 (pt_val (pv 5))))))))))))
      (pss_one (ps_ret pe_non))
      pss_nil)
      (pss_one (ps_ret (pe_tup (pa_cons (pv 2) (pa_cons (pv 3) (pa_cons (pv 4) (pa_cons (pv 5) pa_nil))))))))))), ?_⟩
    obtain ⟨o, i, p, j⟩ := s
    obtain ⟨o', i', p', j'⟩ := t
    obtain ⟨u, v, h1, h2, h3⟩ := ha.ob
    obtain ⟨u', v', g1, g2, g3⟩ := hb.ob
    walk_at "f"
    refine ⟨fun σ' H' => H' = H ∧ ∃ u2, σ' = [some (.ref a), some (.ref b), some u2, some (.bl (loCut o i o' i').2), some v, some (.bl j)] ∧ OP H u2 (loCut o i o' i').1, ?_, ?_⟩
    · cases o' with
      | none =>
        cases g2
        walk_at "f"
        exact h2
      | some y =>
        obtain ⟨c, rfl, hc⟩ := g2
        cases o with
        | none =>
          cases h2
          cases i' <;> cases i <;> walk_at "f"
          all_goals (try refine neD_non hc ?_)
          all_goals (try (walk_at "f"))
          all_goals exact hc
        | some x =>
          obtain ⟨d, rfl, hd⟩ := h2
          walk_at "f"
          all_goals (try refine ⟨y, x, k, rfl, hc, hd, st.1 _ rfl, ss.1 _ rfl, lk, ?_⟩)
          by_cases l : y < x
          · have ec : loCut (some x) i (some y) i' = (some x, i) := by simp [loCut, l]
            simp only [l, decide_true, ec]
            walk_at "f"
            exact hd
          · have ec : loCut (some x) i (some y) i' = (some y, i' && (i || decide (x ≠ y))) := by simp [loCut, l]
            simp only [l, decide_false, ec]
            cases i' <;> cases i <;> walk_at "f"
            all_goals (try refine neD_PR hd hc ?_)
            all_goals (try (walk_at "f"))
            all_goals exact hc
    · rintro σ' H' ⟨rfl, u2, rfl, hu2⟩
      walk_at "f"
      refine ⟨fun σ' H'' => H'' = H' ∧ ∃ v2, σ' = [some (.ref a), some (.ref b), some u2, some (.bl (loCut o i o' i').2), some v2, some (.bl (hiCut p j p' j').2)] ∧ OP H' v2 (hiCut p j p' j').1, ?_, ?_⟩
      · cases p' with
        | none =>
          cases g3
          walk_at "f"
          exact h3
        | some y =>
          obtain ⟨c, rfl, hc⟩ := g3
          cases p with
          | none =>
            cases h3
            cases j' <;> cases j <;> walk_at "f"
            all_goals (try refine neD_non hc ?_)
            all_goals (try (walk_at "f"))
            all_goals exact hc
          | some x =>
            obtain ⟨d, rfl, hd⟩ := h3
            walk_at "f"
            all_goals (try refine ⟨x, y, k, rfl, hd, hc, ss.2 _ rfl, st.2 _ rfl, lk, ?_⟩)
            by_cases l : x < y
            · have ec : hiCut (some x) j (some y) j' = (some x, j) := by simp [hiCut, l]
              simp only [l, decide_true, ec]
              walk_at "f"
              exact hd
            · have ec : hiCut (some x) j (some y) j' = (some y, j' && (j || decide (x ≠ y))) := by simp [hiCut, l]
              simp only [l, decide_false, ec]
              cases j' <;> cases j <;> walk_at "f"
              all_goals (try refine neD_PR hd hc ?_)
              all_goals (try (walk_at "f"))
              all_goals exact hc
      · rintro σ' H'' ⟨rfl, v2, rfl, hv2⟩
        have z1 : ZzO k (loCut o i o' i').1 := zzo_lo ss.1 st.1
        have z2 : ZzO k (hiCut p j p' j').1 := zzo_hi ss.2 st.2
        have q1' : fullB ((loCut o i o' i').1, (loCut o i o' i').2, (hiCut p j p' j').1, (hiCut p j p' j').2) = false → Q .non H'' := q1
        have q2' : fullB ((loCut o i o' i').1, (loCut o i o' i').2, (hiCut p j p' j').1, (hiCut p j p' j').2) = true → ∀ (p1 : Addr) (H' : Hp), H'' p1 = none → Same H'' H' → LSAt H' p1 ((loCut o i o' i').1, (loCut o i o' i').2, (hiCut p j p' j').1, (hiCut p j p' j').2) → Q (.ref p1) H' := q2
        generalize (loCut o i o' i').1 = lo at *
        generalize (loCut o i o' i').2 = li at *
        generalize (hiCut p j p' j').1 = hi at *
        generalize (hiCut p j p' j').2 = hj at *
        clear q1 q2
        have fin : fullB (lo, li, hi, hj) = true → ∀ (p1 : Addr), H'' p1 = none → Q (.ref p1) (upd H'' p1 (.tup [u2, .bl li, v2, .bl hj])) := fun f p1 np => q2' f p1 _ np (same1 np) ⟨u2, v2, upd_same, hu2.same (same1 np), hv2.same (same1 np)⟩
        cases lo with
        | none =>
          cases hu2
          walk_at "f"
          exact fin rfl
        | some x =>
          obtain ⟨c, rfl, hc⟩ := hu2
          cases hi with
          | none =>
            cases hv2
            walk_at "f"
            exact fin rfl
          | some y =>
            obtain ⟨d, rfl, hd⟩ := hv2
            walk_at "f"
            all_goals (try refine ⟨x, y, k, rfl, hc, hd, z1 _ rfl, z2 _ rfl, lk, ?_⟩)
            by_cases l : x < y
            · simp only [l, decide_true]
              walk_at "f"
              exact fin (by simp [fullB, l])
            · simp only [l, decide_false]
              walk_at "f"
              refine eqD_PR hc hd ?_
              by_cases e : x = y
              · simp only [e, decide_true]
                cases li <;> cases hj <;> walk_at "f"
                all_goals first | exact q1' (by simp [fullB, l, e]) | exact fin (by simp [fullB, e])
              · simp only [e, decide_false]
                walk_at "f"
                exact q1' (by simp [fullB, l, e])
theorem ok_l_part {P : Program} {w : World} {K : PySem.W.Frag} {mg : Str → Option Value} {base : Heap} {φ : Fds} (T : Txt P K mg φ) : FnOk P w K mg base CX0 4 (He.fAd K ("_law_part", none)) φ.l_part p_l_part sp_part27 := by
  obtain ⟨_, B0v, B0⟩ := b_l_mid_2 T
  obtain ⟨_, B1v, B1⟩ := b_l_cut_2 T
  refine T.f_l_part.ok sc_l_part (fun vs H Q E h => ?_) (fun cdv A outer s H vs Q E hr h => ?_)
  · obtain ⟨p, d, kk, j, rfl, hp, hk, sz, ru, j0, j1, fin⟩ := h; rfl
  · obtain ⟨p, d, kk, j, rfl, hp, hk, sz, ru, j0, j1, fin⟩ := h
    refine ⟨_, PSs.nox (pss_cons (ps_asg (pv 0) (pg_tup rfl (pgs_cons (pg_name (i := 2) sc_l_part.nd rfl (Or.inl rfl)) (pgs_cons (pg_name (i := 3) sc_l_part.nd rfl (Or.inl rfl)) (pgs_cons (pg_name (i := 4) sc_l_part.nd rfl (Or.inl rfl)) (pgs_cons (pg_name (i := 5) sc_l_part.nd rfl (Or.inl rfl)) pgs_nil))))))
      (pss_cons (ps_cut (ps_if (pt_cmpR op_eq (pv 3) pe_str (nomark _))
      (pss_one (ps_set (i := 6) sc_l_part.nd rfl (Or.inl rfl) (pe_tup (pa_cons (pe_ifExp (pt_cmpR op_gt (pv 1) pe_int (nomark _)) (pe_ix (ixl (K := K)) (pv 2) (pe_op op_sub (pv 1) pe_int) (fun _ _ => rfl)) pe_non) (pa_cons pe_bl (pa_cons (pe_ix (ixl (K := K)) (pv 2) (pv 1) (fun _ _ => rfl)) (pa_cons pe_bl pa_nil)))))))
      (pss_one (ps_if (pt_cmpR op_eq (pv 3) pe_str (nomark _))
      (pss_one (ps_set (i := 6) sc_l_part.nd rfl (Or.inl rfl) (pe_tup (pa_cons (pe_ix (ixl (K := K)) (pv 2) (pv 1) (fun _ _ => rfl)) (pa_cons pe_bl (pa_cons (pe_ifExp (pt_cmpR op_lt (pe_op op_add (pv 1) pe_int) (pe_callB (id := "len") (lenS (K := K)) (by rfl) T.z_len PySem.boot_len (pa_cons (pv 2) pa_nil)) (nomark _)) (pe_ix (ixl (K := K)) (pv 2) (pe_op op_add (pv 1) pe_int) (fun _ _ => rfl)) pe_non) (pa_cons pe_bl pa_nil)))))))
      (pss_cons (ps_set (i := 7) sc_l_part.nd rfl (Or.inl rfl) (pe_ifExp (pt_cmpR op_gt (pv 1) pe_int (nomark _)) (pe_call (ok_l_mid (K := K) T) (hr.mono (by decide)) rfl T.g_l_mid T.f_l_mid.kp B0 B0v pass0 (pa_cons (pe_ix (ixl (K := K)) (pv 2) (pe_op op_sub (pv 1) pe_int) (fun _ _ => rfl)) (pa_cons (pe_ix (ixl (K := K)) (pv 2) (pv 1) (fun _ _ => rfl)) pa_nil))) pe_non))
      (pss_one (ps_set (i := 6) sc_l_part.nd rfl (Or.inl rfl) (pe_tup (pa_cons (pv 7) (pa_cons pe_bl (pa_cons (pe_ifExp (pt_cmpR op_lt (pe_op op_add (pv 1) pe_int) (pe_callB (id := "len") (lenS (K := K)) (by rfl) T.z_len PySem.boot_len (pa_cons (pv 2) pa_nil)) (nomark _)) (pe_call (ok_l_mid (K := K) T) (hr.mono (by decide)) rfl T.g_l_mid T.f_l_mid.kp B0 B0v pass0 (pa_cons (pe_ix (ixl (K := K)) (pv 2) (pv 1) (fun _ _ => rfl)) (pa_cons (pe_ix (ixl (K := K)) (pv 2) (pe_op op_add (pv 1) pe_int) (fun _ _ => rfl)) pa_nil))) pe_non) (pa_cons pe_bl pa_nil))))))))))))
      (pss_one (ps_ret (pe_call (ok_l_cut (K := K) T) (hr.mono (by decide)) rfl T.g_l_cut T.f_l_cut.kp B1 B1v pass0 (pa_cons (pv 6) (pa_cons (pe_tup (pa_cons (pv 4) (pa_cons pe_bl (pa_cons (pv 5) (pa_cons pe_bl pa_nil))))) pa_nil))))))), ?_⟩
    obtain ⟨M, u, w', vs, h1, h2, ⟨r1, r2⟩, h4, h5⟩ := hp.ob
    obtain ⟨x0, hx⟩ : ∃ x, d.ms[kk]? = some x := ⟨_, List.getElem?_eq_getElem hk⟩
    obtain ⟨a0, ea, ha⟩ := r2 kk _ hx
    have s0 := sz.get _ hx
    have i0 : atI vs (kk : Int) = some (.ref a0) := atI_nat ea
    walk_at "w"
    obtain ⟨J, eJ⟩ : ∃ J : L2.St → Hp → Prop, J = fun σ' H' => Same H H' ∧ ∃ a, (∃ z, σ' = [some (.ref p), some (.int kk), some (.ref M), some (.str d.r), some u, some w', some (.ref a), z]) ∧ LSAt H' a (rulR d kk) := ⟨_, rfl⟩
    refine ⟨J, ?_, ?_⟩
    · have lo_of : ∀ i : Nat, kk = i + 1 → ∃ b x, atI vs ((kk : Int) - 1) = some (V.ref b) ∧ d.ms[i]? = some x ∧ H b = some (PR x) ∧ SzR j x := fun i e => by
        obtain ⟨x, hx1⟩ : ∃ x, d.ms[i]? = some x := ⟨_, List.getElem?_eq_getElem (by omega)⟩
        obtain ⟨b, e1, e2⟩ := r2 i _ hx1
        refine ⟨b, x, ?_, hx1, e2, sz.get _ hx1⟩
        rw [show (kk : Int) - 1 = (i : Int) by omega]
        exact atI_nat e1
      have hi_of : kk + 1 < d.ms.length → ∃ b x, atI vs ((kk : Int) + 1) = some (V.ref b) ∧ d.ms[kk + 1]? = some x ∧ H b = some (PR x) ∧ SzR j x := fun e => by
        obtain ⟨x, hx1⟩ : ∃ x, d.ms[kk + 1]? = some x := ⟨_, List.getElem?_eq_getElem e⟩
        obtain ⟨b, e1, e2⟩ := r2 (kk + 1) _ hx1
        refine ⟨b, x, ?_, hx1, e2, sz.get _ hx1⟩
        rw [show (kk : Int) + 1 = ((kk + 1 : Nat) : Int) by omega]
        exact atI_nat e1
      have hi_no : ¬ kk + 1 < d.ms.length → d.ms[kk + 1]? = none := fun e => List.getElem?_eq_none (by omega)
      rcases ru with e | e | e
      · have er : rulR d kk = (lwR d.ms kk, false, some x0, true) := by unfold rulR; rw [if_pos e, hx]
        rw [er] at eJ
        rw [e] at eJ ⊢
        cases kk with
        | zero =>
          walk_at "w"
          intro T nT
          subst eJ
          exact ⟨same1 nT, T, ⟨_, rfl⟩, _, _, upd_same, rfl, a0, rfl, up1 nT ha⟩
        | succ i =>
          obtain ⟨b, x, ib, hxb, hb, sb⟩ := lo_of i rfl
          walk_at "w"
          intro T nT
          subst eJ
          refine ⟨same1 nT, T, ⟨_, rfl⟩, _, _, upd_same, ?_, a0, rfl, up1 nT ha⟩
          show OP _ _ d.ms[i]?
          rw [hxb]
          exact ⟨b, rfl, up1 nT hb⟩
      · have er : rulR d kk = (some x0, true, d.ms[kk + 1]?, false) := by unfold rulR; rw [if_neg (by rw [e]; decide), if_pos e, hx]
        rw [er] at eJ
        rw [e] at eJ ⊢
        walk_at "w"
        by_cases hn : kk + 1 < d.ms.length
        · obtain ⟨b, x, ib, hxb, hb, sb⟩ := hi_of hn
          rw [hxb] at eJ
          walk_at "w"
          intro T nT
          subst eJ
          exact ⟨same1 nT, T, ⟨_, rfl⟩, _, _, upd_same, ⟨a0, rfl, up1 nT ha⟩, b, rfl, up1 nT hb⟩
        · rw [hi_no hn] at eJ
          walk_at "w"
          intro T nT
          subst eJ
          exact ⟨same1 nT, T, ⟨_, rfl⟩, _, _, upd_same, ⟨a0, rfl, up1 nT ha⟩, rfl⟩
      · have er : rulR d kk = (mdR d.ms kk, true, mdR d.ms (kk + 1), false) := by unfold rulR; rw [if_neg (by rw [e]; decide), if_neg (by rw [e]; decide)]
        rw [er] at eJ
        rw [e] at eJ ⊢
        cases kk with
        | zero =>
          have s1 : Same H H := Same.refl _
          have hl : OP H .non (mdR d.ms 0) := rfl
          walk_at "w"
          by_cases hn : 0 + 1 < d.ms.length
          · obtain ⟨b2, x2, ib2, hxb2, hb2, sb2⟩ := hi_of hn
            rw [md_some (j := 0) hx hxb2] at eJ
            walk_at "w"
            refine ⟨x0, x2, j, rfl, s1 _ _ ha, s1 _ _ hb2, s0, sb2, j0, by omega, fun q H2 nq s2 hq => ?_⟩
            walk_at "w"
            intro T nT
            subst eJ
            exact ⟨(s1.trans s2).trans (same1 nT), T, ⟨_, rfl⟩, _, _, upd_same, (hl.same s2).same (same1 nT), q, rfl, up1 nT hq⟩
          · rw [md_no (j := 0) (hi_no hn)] at eJ
            walk_at "w"
            intro T nT
            subst eJ
            exact ⟨s1.trans (same1 nT), T, ⟨_, rfl⟩, _, _, upd_same, hl.same (same1 nT), rfl⟩
        | succ i =>
          obtain ⟨b, x, ib, hxb, hb, sb⟩ := lo_of i rfl
          walk_at "w"
          refine ⟨x, x0, j, rfl, hb, ha, sb, s0, j0, by omega, fun q0 H1 nq1 s1 hq1 => ?_⟩
          have hl : OP H1 (.ref q0) (mdR d.ms (i + 1)) := by rw [md_some hxb hx]; exact ⟨q0, rfl, hq1⟩
          have h2 := s1 _ _ h2
          walk_at "w"
          by_cases hn : i + 1 + 1 < d.ms.length
          · obtain ⟨b2, x2, ib2, hxb2, hb2, sb2⟩ := hi_of hn
            rw [md_some hx hxb2] at eJ
            walk_at "w"
            refine ⟨x0, x2, j, rfl, s1 _ _ ha, s1 _ _ hb2, s0, sb2, j0, by omega, fun q H2 nq s2 hq => ?_⟩
            walk_at "w"
            intro T nT
            subst eJ
            exact ⟨(s1.trans s2).trans (same1 nT), T, ⟨_, rfl⟩, _, _, upd_same, (hl.same s2).same (same1 nT), q, rfl, up1 nT hq⟩
          · rw [md_no (hi_no hn)] at eJ
            walk_at "w"
            intro T nT
            subst eJ
            exact ⟨s1.trans (same1 nT), T, ⟨_, rfl⟩, _, _, upd_same, hl.same (same1 nT), rfl⟩
    · subst eJ
      rintro σ' H' ⟨s1, a, ⟨z, rfl⟩, hl⟩
      walk_at "w"
      intro T nT
      refine ⟨a, T, rulR d kk, (d.lo, true, d.hi, true), j + j + 3, rfl, hl.same (same1 nT), ⟨_, _, upd_same, (h4.same s1).same (same1 nT), (h5.same s1).same (same1 nT)⟩, zzl_rul sz, ⟨sz.2.1.mono (by omega), sz.2.2.mono (by omega)⟩, by omega, fun f => ?_, fun f p2 H2 np2 s2 h2 => ?_⟩
      · exact fin _ _ (s1.trans (same1 nT)) (.inr ⟨f, rfl⟩)
      · exact fin _ _ ((s1.trans (same1 nT)).trans s2) (.inl ⟨f, p2, rfl, h2⟩)
theorem ok_l_met {P : Program} {w : World} {K : PySem.W.Frag} {mg : Str → Option Value} {base : Heap} {φ : Fds} (T : Txt P K mg φ) : FnOk P w K mg base CX0 5 (He.fAd K ("_law_met", none)) φ.l_met p_l_met sp_met27 := by
  obtain ⟨_, B0v, B0⟩ := b_l_part_2 T
  obtain ⟨_, B1v, B1⟩ := b_l_cut_2 T
  refine T.f_l_met.ok sc_l_met (fun vs H Q E h => ?_) (fun cdv A outer s H vs Q E hr h => ?_)
  · obtain ⟨v, p, s, d, j, F, a, rfl, hv, zs, hp, ok, sz, j0, j1, hF, fin⟩ := h; rfl
  · obtain ⟨v, p, s, d, j, F, a, rfl, hv, zs, hp, ok, sz, j0, j1, hF, fin⟩ := h
    refine ⟨_, PSs.nox (pss_cons (ps_set (i := 2) sc_l_met.nd rfl (Or.inl rfl) (pe_lst pa_nil))
      (pss_cons (ps_for PassesOwn.never rfl (pi_range1 rfl T.z_range (pa_cons (pe_callB (id := "len") (lenS (K := K)) (by rfl) T.z_len PySem.boot_len (pa_cons (pe_ix (ixt (K := K)) (pv 1) pe_int (fun _ _ => rfl)) pa_nil)) pa_nil)) (pg_name (i := 3) sc_l_met.nd rfl (Or.inl rfl))
      (pss_cons (ps_set (i := 4) sc_l_met.nd rfl (Or.inl rfl) (pe_call (ok_l_part (K := K) T) (hr.mono (by decide)) rfl T.g_l_part T.f_l_part.kp B0 B0v pass0 (pa_cons (pv 1) (pa_cons (pv 3) pa_nil))))
      (pss_one (ps_if (PW.pt (pw_and (pt_cmpR op_notN (pv 0) pe_non (nomark _)) (pw_and (pt_cmpR op_notN (pv 4) pe_non (nomark _)) (pw_and1 (pt_cmpR op_notN (pe_call (ok_l_cut (K := K) T) (hr.mono (by decide)) rfl T.g_l_cut T.f_l_cut.kp B1 B1v pass0 (pa_cons (pv 0) (pa_cons (pv 4) pa_nil))) pe_non (nomark _))))))
      (pss_one (ps_expr (pe_bm PySem.F.plainAttrs_list PySem.F.slot_list_append PySem.F.type_list_append mt_append (pv 2) (pa_cons (pv 3) pa_nil))))
      pss_nil))))
      (pss_one (ps_ret (pe_ifExp (pt_cmpR (op_neL0 (Nat.lt_of_le_of_lt (Nat.le_add_right _ 64) hr.units)) (pv 2) (pe_lst pa_nil) (nomark _)) (pe_tup (pa_cons (pe_ix (ixl (K := K)) (pv 2) pe_int (fun _ _ => rfl)) (pa_cons (pe_ix (ixl (K := K)) (pv 2) (pe_un un_neg pe_int) (fun _ _ => rfl)) pa_nil))) pe_non))))), ?_⟩
    obtain ⟨M, u, w', vs, h1, h2, ⟨r1, r2⟩, h4, h5⟩ := id hp.ob
    have l24 := ok.len1
    walk_at "w"
    intro D nD
    have sD := same1 (u := .lst []) nD
    have hD0 : (upd H D (.lst [])) D = some (.lst []) := upd_same
    have ne : ∀ b o, H b = some o → b ≠ D := fun b o e => ne_of_none e nD
    generalize upd H D (.lst []) = H0 at *
    have h1' := sD _ _ h1
    have h2' := sD _ _ h2
    walk_at "w"
    refine for_range (fun i σ H' => (∃ v3 v4, σ = [some v, some (.ref p), some (.ref D), v3, v4]) ∧ Same H H' ∧ H' D = some (.lst ((idx i fun k => fullB (cutL s (partL d k))).map V.int))) ⟨⟨_, _, rfl⟩, sD, hD0⟩ ?_ ?_
    · rintro i σ H1 hi ⟨⟨v3, v4, rfl⟩, s1, hD1⟩
      have hi2 : i < d.ms.length := by omega
      have lidx : (idx i fun k => fullB (cutL s (partL d k))).length ≤ i := idx_len
      walk_at "w"
      refine ⟨d, i, j, by show [V.ref p, V.int (0 + (i : Int))] = _; rw [Int.zero_add], hp.same s1, hi2, sz, ok.rule, j0, j1, fun w2 H2 s2 lp => ?_⟩
      have s12 := s1.trans s2
      have hD2 := s2 _ _ hD1
      have no : fullB (cutL s (partL d i)) = false → ∀ H3, Same H2 H3 → (∃ v3 v4, [some v, some (V.ref p), some (V.ref D), some (V.int (0 + (i : Int))), some w2] = [some v, some (.ref p), some (.ref D), v3, v4]) ∧ Same H H3 ∧ H3 D = some (.lst ((idx (i + 1) fun k => fullB (cutL s (partL d k))).map V.int)) := fun f H3 s3 => by
        refine ⟨⟨_, _, rfl⟩, s12.trans s3, ?_⟩
        rw [idx_succ, if_neg (by rw [f]; decide)]
        exact s3 _ _ hD2
      rcases hv with ⟨fs, a1, rfl, l1⟩ | ⟨fs, rfl⟩
      · rcases lp with ⟨ft, a2, rfl, l2⟩ | ⟨ft, rfl⟩
        · walk_at "w"
          refine ⟨s, partL d i, j + j + 3, rfl, l1.same s12, l2, zs, zzl_part sz, by omega, fun f => ?_, fun f p3 H3 np3 s3 h3 => ?_⟩
          · walk_at "w"
            exact no f _ (Same.refl _)
          · have hD3 := s3 _ _ hD2
            have ll : ((idx i fun k => fullB (cutL s (partL d k))).map V.int).length < 1000 := by rw [List.length_map]; omega
            walk_at "w"
            refine ⟨⟨_, _, rfl⟩, fun b o e => ?_, ?_⟩
            · rw [upd_ne (ne b o e)]
              exact s3 _ _ (s12 _ _ e)
            · rw [upd_same, idx_succ, if_pos f, List.map_append]
              show some (HO.lst (_ ++ [V.int (0 + (i : Int))])) = _
              rw [Int.zero_add]
              rfl
        · have f : fullB (cutL s (partL d i)) = false := by
            cases e : fullB (cutL s (partL d i)) with
            | false => rfl
            | true => rw [(full_r e).2] at ft; cases ft
          walk_at "w"
          exact no f _ (Same.refl _)
      · have f : fullB (cutL s (partL d i)) = false := by
          cases e : fullB (cutL s (partL d i)) with
          | false => rfl
          | true => rw [(full_r e).1] at fs; cases fs
        walk_at "w"
        exact no f _ (Same.refl _)
    · rintro σ H1 ⟨⟨v3, v4, rfl⟩, s1, hD1⟩
      have el : ((vs.length : Nat) : Int).toNat = d.ms.length := by omega
      try rw [el] at hD1
      have metx : ∀ b, b < d.ms.length → (fullB (cutL s (partL d b)) = true ↔ ∃ x, F x = some a ∧ d.F x = some b) := fun b hb => met_iff ok hb hF
      walk_at "w"
      intro T nT
      have hD2 := up1 (u := .lst []) nT hD1
      have s2 := s1.trans (same1 (u := .lst []) nT)
      refine ⟨D, T, _, rfl, rfl, SqL.of hD2, SqL.of upd_same, _, rfl, ?_⟩
      by_cases e : (idx d.ms.length fun k => fullB (cutL s (partL d k))) = []
      · rw [e]
        refine ite2 (fun z => by cases z) (fun _ => ?_)
        walk_at "w"
        refine fin _ none _ s2 rfl fun b hb x f g => ?_
        have hm := (metx b hb).mpr ⟨x, f, g⟩
        have : ((b : Nat) : Int) ∈ idx d.ms.length fun k => fullB (cutL s (partL d k)) := idx_mem.mpr ⟨b, by omega, hm, rfl⟩
        rw [e] at this
        cases this
      · obtain ⟨c0, hc0, lc, mc, hmin⟩ := idx_first e
        obtain ⟨d0, hd0, ld, md, hmax⟩ := idx_last e
        have l0 := List.length_pos_iff.mpr e
        have hat0 : atI ((idx d.ms.length fun k => fullB (cutL s (partL d k))).map V.int) 0 = some (.int (c0 : Int)) := atI_nat (j := 0) (mapI hc0)
        have hat1 : atI ((idx d.ms.length fun k => fullB (cutL s (partL d k))).map V.int) (-1) = some (.int (d0 : Int)) := atI_end (n := (idx d.ms.length fun k => fullB (cutL s (partL d k))).length - 1) (by rw [List.length_map]; omega) (mapI hd0)
        refine ite2 (fun _ => ?_) (fun z => ?_)
        · walk_at "w"
          intro T2 nT2
          refine fin (.ref T2) (some (c0, d0)) _ (s2.trans (same1 nT2)) ⟨T2, rfl, upd_same⟩ ⟨by omega, by omega, hmin d0 ld md, (metx c0 lc).mp mc, (metx d0 ld).mp md, fun b x f g => ?_⟩
          have hb := LD.F_lt g
          have hm := (metx b hb).mpr ⟨x, f, g⟩
          exact ⟨hmin b hb hm, hmax b hb hm⟩
        · exact absurd (by cases h : (idx d.ms.length fun k => fullB (cutL s (partL d k))) with | nil => exact absurd h e | cons x t => rfl) z
theorem ok_l_made {P : Program} {w : World} {K : PySem.W.Frag} {mg : Str → Option Value} {base : Heap} {φ : Fds} (T : Txt P K mg φ) : FnOk P w K mg base CX0 5 (He.fAd K ("_law_made", none)) φ.l_made p_l_made (sp_made27 K (He.ga K "Measure") (He.ga K "Ladder")) := by
  obtain ⟨_, B0v, B0⟩ := b_Measure_init_3 T
  obtain ⟨_, B1v, B1⟩ := b_Ladder_init_5 T
  refine T.f_l_made.ok sc_l_made (fun vs H Q E h => ?_) (fun cdv A outer s H vs Q E hr h => ?_)
  · obtain ⟨p, d, k, rfl, hp, ok, sz, k0, k1, fin⟩ := h; rfl
  · obtain ⟨p, d, k, rfl, hp, ok, sz, k0, k1, fin⟩ := h
    refine ⟨_, PSs.nox (pss_cons (ps_asg (pv 0) (pg_tup rfl (pgs_cons (pg_name (i := 1) sc_l_made.nd rfl (Or.inl rfl)) (pgs_cons (pg_name (i := 2) sc_l_made.nd rfl (Or.inl rfl)) (pgs_cons (pg_name (i := 3) sc_l_made.nd rfl (Or.inl rfl)) (pgs_cons (pg_name (i := 4) sc_l_made.nd rfl (Or.inl rfl)) pgs_nil))))))
      (pss_cons (ps_setLc (i := 5) (own := [("_law_end", 6)]) (g := gName 6) rfl sc_l_made.nd rfl rfl (sw_true rfl rfl rfl (by decide +kernel)) (pi_tup (pe_tup (pa_cons (pv 3) (pa_cons (pv 4) pa_nil)))) (blkOk_by (own := [("_law_end", 6)]) (N := N_l_made) (sc := (defScope s_l_made)) (by decide +kernel)) (fun _ _ _ _ _ => (pg_name (i := 6) sc_l_made.nd rfl (Or.inl rfl))) (fun _ _ _ _ _ => pts_nil) (fun _ _ _ _ _ => (pe_ifExp (pt_cmpR op_isN (pv 6) pe_non (nomark _)) pe_non (pe_make T.mk_Measure (ok_Measure_init (K := K) T) (hr.mono (by decide)) rfl T.g_Measure B0 B0v pass0 (pa_cons (pe_ix (ixt (K := K)) (pv 6) pe_int (fun _ _ => rfl)) (pa_cons (pe_ix (ixt (K := K)) (pv 6) pe_int (fun _ _ => rfl)) pa_nil))))))
      (pss_one (ps_ret (pe_make T.mk_Ladder (ok_Ladder_init (K := K) T) (hr.mono (by decide)) rfl T.g_Ladder B1 B1v pass0 (pa_cons (pe_callTy (T := "tuple") (tupleL (K := K)) (by rfl) T.z_tuple (by decide +kernel) (pa_cons (pe_lc (own := [("_law_top", 7), ("_law_bottom", 8)]) (g := gTup K 2 (gCons (gName 7) (gCons (gName 8) (gNil)))) rfl sc_l_made.nd (pi_list (pv 1)) (blkOk_by (own := [("_law_top", 7), ("_law_bottom", 8)]) (N := N_l_made) (sc := (defScope s_l_made)) (by decide +kernel)) (fun _ _ _ _ _ => (pg_tup rfl (pgs_cons (pg_name (i := 7) sc_l_made.nd rfl (Or.inl rfl)) (pgs_cons (pg_name (i := 8) sc_l_made.nd rfl (Or.inl rfl)) pgs_nil)))) (fun _ _ _ _ _ => pts_nil) (fun _ _ _ _ _ => (pe_make T.mk_Measure (ok_Measure_init (K := K) T) (hr.mono (by decide)) rfl T.g_Measure B0 B0v pass0 (pa_cons (pv 7) (pa_cons (pv 8) pa_nil))))) pa_nil)) (pa_cons (pv 2) (pa_cons (pe_ix (ixl (K := K)) (pv 5) pe_int (fun _ _ => rfl)) (pa_cons (pe_ix (ixl (K := K)) (pv 5) pe_int (fun _ _ => rfl)) pa_nil))))))))), ?_⟩
    obtain ⟨M, u, w', vs, h1, h2, rs, h4, h5⟩ := id hp.ob
    have lv := rs.1
    have l24 := ok.len1
    walk_at "w"
    intro T nT
    have hT : (upd H T (.tup [u, w'])) T = some (.tup [u, w']) := upd_same
    have s1 := same1 (u := .tup [u, w']) nT
    generalize upd H T (.tup [u, w']) = H1 at *
    walk_at "w"
    all_goals (try refine ⟨⟨_, SqT.of hT⟩, ?_⟩)
    intro D nD
    refine lcr (n := [u, w'].length) walk_tup (fun _ _ g s => s.sqt g) (fun i H v => QO (He.ga K "Measure") H k v (if i = 0 then oR d.lo else oR d.hi)) (fun i H H' v q n => q.nl n) (szs (Nat.le_of_ble_eq_true rfl)) (SqT.of hT) nD (fun i x H3 H4 N M2 hi s3 yy hN => ?_) (fun H3 zs s3 hD3 lz hz => ?_)
    · obtain ⟨rfl, hx⟩ := yy
      obtain ⟨o, ho, hoz, eo⟩ : ∃ o, OP H x o ∧ ZzO k o ∧ (if i = 0 then oR d.lo else oR d.hi) = oR o := by
        have hi2 : i = 0 ∨ i = 1 := by
          have hi' : i < 2 := hi
          omega
        rcases hi2 with rfl | rfl
        · cases hx; exact ⟨_, h4, sz.2.1, rfl⟩
        · cases hx; exact ⟨_, h5, sz.2.2, rfl⟩
      rw [eo] at hN
      clear eo hx
      cases o with
      | none =>
        cases ho
        walk_at "w"
        exact hN _ _ (Same.refl _) rfl
      | some q =>
        obtain ⟨a, rfl, ha⟩ := ho
        change _ = some (HO.tup [V.int q.num, V.int (q.den : Int)]) at ha
        have ha1 := s3 _ _ (s1 _ _ ha)
        have sq := hoz _ rfl
        walk_at "w"
        refine q_made (k := k) (den0 q) sq.1 sq.2 k0 (by omega) fun p1 H5 s5 R => hN _ _ s5 ⟨p1, rfl, R⟩
    have lz2 : zs.length = 2 := lz
    obtain ⟨z0, z1, rfl⟩ : ∃ z0 z1, zs = [z0, z1] := by
      match zs, lz2 with
      | [z0, z1], _ => exact ⟨z0, z1, rfl⟩
    have o0 : QO (He.ga K "Measure") H3 k z0 (oR d.lo) := hz 0 z0 rfl
    have o1 : QO (He.ga K "Measure") H3 k z1 (oR d.hi) := hz 1 z1 rfl
    have s13 := s1.trans s3
    have h2' := s13 _ _ h2
    walk_at "w"
    intro D2 nD2
    refine lcr (n := vs.length) walk_list (fun _ _ g s => s.seq g) (fun i H v => ∃ a x, v = .ref a ∧ d.ms[i]? = some x ∧ QAt (He.ga K "Measure") H a k (ofR x)) (fun i H H' v ⟨a, x, e1, e2, e3⟩ n => ⟨a, x, e1, e2, e3.nl n⟩) (szs (by omega)) (SqL.of h2') nD2 (fun i x H4 H5 N M2 hi s4 yy hN => ?_) (fun H4 ys s4 hD4 ly hy => ?_)
    · obtain ⟨rfl, hx⟩ := yy
      obtain ⟨q, hq⟩ : ∃ q, d.ms[i]? = some q := ⟨_, List.getElem?_eq_getElem (by omega)⟩
      obtain ⟨a, ea, ha⟩ := rs.2 i q hq
      rw [ea] at hx
      cases hx
      change _ = some (HO.tup [V.int q.num, V.int (q.den : Int)]) at ha
      have ha1 := s4 _ _ (s13 _ _ ha)
      have sq := sz.get _ hq
      walk_at "w"
      refine q_made (k := k) (den0 q) sq.1 sq.2 k0 (by omega) fun p1 H6 s6 R => hN _ _ s6 ⟨p1, q, rfl, hq, R⟩
    walk_at "w"
    intro T2 nT2
    have s45 := s4.trans (same1 (u := .tup ys) nT2)
    have hT2 : (upd H4 T2 (.tup ys)) T2 = some (.tup ys) := upd_same
    have hy' : ∀ (i : Nat) (y : V), ys[i]? = some y → ∃ a x, y = .ref a ∧ d.ms[i]? = some x ∧ QAt (He.ga K "Measure") (upd H4 T2 (.tup ys)) a k (ofR x) := fun i y e => by
      obtain ⟨a, x, e1, e2, e3⟩ := hy i y e
      exact ⟨a, x, e1, e2, e3.same (same1 nT2)⟩
    have hD5 := s45 _ _ hD3
    generalize upd H4 T2 (.tup ys) = H5 at *
    walk_at "w"
    all_goals (try refine ⟨atI_of (n := 1) rfl rfl, ?_⟩)
    walk_at "w"
    refine lad_made (k := k) (SqT.of hT2) (zs := zR d.ms) ⟨by rw [zR_len]; omega, fun i v z e1 e2 => ?_⟩ (by omega) (by rw [zR_len]; exact ok.len0) (by rw [zR_len]; exact ok.len1) ok.riseQ ok.rule (o0.same s45) (o1.same s45) ok.spanQ fun q H6 _ s6 L6 _ => fin q H6 ((s13.trans s45).trans s6) L6
    obtain ⟨a, x, g1, g2, g3⟩ := hy' i v e1
    rw [zR_get, g2] at e2
    cases e2
    exact ⟨a, g1, g3⟩
theorem ok_l_scaled {P : Program} {w : World} {K : PySem.W.Frag} {mg : Str → Option Value} {base : Heap} {φ : Fds} (T : Txt P K mg φ) : FnOk P w K mg base CX0 2 (He.fAd K ("_law_scaled", none)) φ.l_scaled p_l_scaled sp_scaled27 := by
  obtain ⟨_, B0v, B0⟩ := b_l_parts_2 T
  refine T.f_l_scaled.ok sc_l_scaled (fun vs H Q E h => ?_) (fun cdv A outer s H vs Q E hr h => ?_)
  · obtain ⟨p, s, d, c, k, rfl, hp, hs, sz, sc, k0, k1, l9, fin⟩ := h; rfl
  · obtain ⟨p, s, d, c, k, rfl, hp, hs, sz, sc, k0, k1, l9, fin⟩ := h
    refine ⟨_, PSs.nox (pss_cons (ps_asg (pv 0) (pg_tup rfl (pgs_cons (pg_name (i := 2) sc_l_scaled.nd rfl (Or.inl rfl)) (pgs_cons (pg_name (i := 3) sc_l_scaled.nd rfl (Or.inl rfl)) (pgs_cons (pg_name (i := 4) sc_l_scaled.nd rfl (Or.inl rfl)) (pgs_cons (pg_name (i := 5) sc_l_scaled.nd rfl (Or.inl rfl)) pgs_nil))))))
      (pss_cons (ps_setLc (i := 6) (own := [("_law_top", 8), ("_law_bottom", 9)]) (g := gTup K 2 (gCons (gName 8) (gCons (gName 9) (gNil)))) rfl sc_l_scaled.nd rfl rfl (sw_true rfl rfl rfl (by decide +kernel)) (pi_list (pv 2)) (blkOk_by (own := [("_law_top", 8), ("_law_bottom", 9)]) (N := N_l_scaled) (sc := (defScope s_l_scaled)) (by decide +kernel)) (fun _ _ _ _ _ => (pg_tup rfl (pgs_cons (pg_name (i := 8) sc_l_scaled.nd rfl (Or.inl rfl)) (pgs_cons (pg_name (i := 9) sc_l_scaled.nd rfl (Or.inl rfl)) pgs_nil)))) (fun _ _ _ _ _ => pts_nil) (fun _ _ _ _ _ => (pe_call (ok_l_parts (K := K) T) (hr.mono (by decide)) rfl T.g_l_parts T.f_l_parts.kp B0 B0v pass0 (pa_cons (pe_op op_mulA (pv 8) (pe_ix (ixt (K := K)) (pv 1) pe_int (fun _ _ => rfl))) (pa_cons (pe_op op_mulA (pv 9) (pe_ix (ixt (K := K)) (pv 1) pe_int (fun _ _ => rfl))) pa_nil)))))
      (pss_cons (ps_setLc (i := 7) (own := [("_law_end", 10)]) (g := gName 10) rfl sc_l_scaled.nd rfl rfl (sw_true rfl rfl rfl (by decide +kernel)) (pi_tup (pe_tup (pa_cons (pv 4) (pa_cons (pv 5) pa_nil)))) (blkOk_by (own := [("_law_end", 10)]) (N := N_l_scaled) (sc := (defScope s_l_scaled)) (by decide +kernel)) (fun _ _ _ _ _ => (pg_name (i := 10) sc_l_scaled.nd rfl (Or.inl rfl))) (fun _ _ _ _ _ => pts_nil) (fun _ _ _ _ _ => (pe_ifExp (pt_cmpR op_isN (pv 10) pe_non (nomark _)) pe_non (pe_call (ok_l_parts (K := K) T) (hr.mono (by decide)) rfl T.g_l_parts T.f_l_parts.kp B0 B0v pass0 (pa_cons (pe_op op_mulA (pe_ix (ixt (K := K)) (pv 10) pe_int (fun _ _ => rfl)) (pe_ix (ixt (K := K)) (pv 1) pe_int (fun _ _ => rfl))) (pa_cons (pe_op op_mulA (pe_ix (ixt (K := K)) (pv 10) pe_int (fun _ _ => rfl)) (pe_ix (ixt (K := K)) (pv 1) pe_int (fun _ _ => rfl))) pa_nil))))))
      (pss_one (ps_ret (pe_tup (pa_cons (pv 6) (pa_cons (pv 3) (pa_cons (pe_ix (ixl (K := K)) (pv 7) pe_int (fun _ _ => rfl)) (pa_cons (pe_ix (ixl (K := K)) (pv 7) pe_int (fun _ _ => rfl)) pa_nil)))))))))), ?_⟩
    obtain ⟨M, u, w', vs, h1, h2, rs, h4, h5⟩ := id hp.ob
    have lv := rs.1
    have hs' : H s = some (.tup [.int c.num, .int (c.den : Int)]) := hs
    have dc := den0 c
    walk_at "w"
    intro D nD
    refine lcr (n := vs.length) walk_list (fun _ _ g s => s.seq g) (fun i H v => ∃ a x, v = .ref a ∧ d.ms[i]? = some x ∧ H a = some (PR (x * c))) (fun i H H' v ⟨a, x, e1, e2, e3⟩ n => ⟨a, x, e1, e2, n _ _ e3 rfl⟩) (szs (by omega)) (SqL.of h2) nD (fun i x H1 H2 N M2 hi s1 yy hN => ?_) (fun H1 ys s1 hD ly hy => ?_)
    · obtain ⟨rfl, hx⟩ := yy
      obtain ⟨q, hq⟩ : ∃ q, d.ms[i]? = some q := ⟨_, List.getElem?_eq_getElem (by omega)⟩
      obtain ⟨a, ea, ha⟩ := rs.2 i q hq
      rw [ea] at hx
      cases hx
      change _ = some (HO.tup [V.int q.num, V.int (q.den : Int)]) at ha
      have ha1 := s1 _ _ ha
      have hs1 := s1 _ _ hs'
      have sq := sz.get _ hq
      have c1 : CMulW q.num c.num := cmw sq.1 sc.1 (by omega)
      have c2 : CMulW (q.den : Int) (c.den : Int) := cmw sq.2 sc.2 (by omega)
      have dp := Int.mul_pos (den0 q) dc
      have lg : ((q.den : Int) * (c.den : Int)).natAbs.log2 < 9000 := (sq.2.mul sc.2).log (by omega) (by omega)
      walk_at "w"
      intro t H3 nt s3 ht
      rw [mul_PR] at ht
      exact hN _ _ s3 ⟨t, q, rfl, hq, ht⟩
    have h4' := h4.same s1
    have h5' := h5.same s1
    have hs1 := s1 _ _ hs'
    walk_at "w"
    intro T nT
    have hT : (upd H1 T (.tup [u, w'])) T = some (.tup [u, w']) := upd_same
    have sT := same1 (u := .tup [u, w']) nT
    have s2 := s1.trans sT
    have hD2 := up1 (u := .tup [u, w']) nT hD
    generalize upd H1 T (.tup [u, w']) = H2 at *
    walk_at "w"
    intro D2 nD2
    refine lcr (n := [u, w'].length) walk_tup (fun _ _ g s => s.sqt g) (fun i H v => OP H v ((if i = 0 then d.lo else d.hi).map (· * c))) (fun i H H' v q n => q.nl n) (szs (Nat.le_of_ble_eq_true rfl)) (SqT.of hT) nD2 (fun i x H3 H4 N M2 hi s3 yy hN => ?_) (fun H3 zs s3 hD3 lz hz => ?_)
    · obtain ⟨rfl, hx⟩ := yy
      have hs3 := s3 _ _ (s2 _ _ hs')
      have one : ∀ (v : V) (o : Option Rat), OP H v o → ZzO k o → ∀ N : VK, (∀ y H5, Same H4 H5 → OP H5 y (o.map (· * c)) → N y H5) → True := fun _ _ _ _ _ _ => trivial
      obtain ⟨o, ho, hoz, eo⟩ : ∃ o, OP H x o ∧ ZzO k o ∧ (if i = 0 then d.lo else d.hi) = o := by
        have hi2 : i = 0 ∨ i = 1 := by
          have hi' : i < 2 := hi
          omega
        rcases hi2 with rfl | rfl
        · cases hx; exact ⟨_, h4, sz.2.1, rfl⟩
        · cases hx; exact ⟨_, h5, sz.2.2, rfl⟩
      rw [eo] at hN
      clear eo one hx
      cases o with
      | none =>
        cases ho
        walk_at "w"
        exact hN _ _ (Same.refl _) rfl
      | some q =>
        obtain ⟨a, rfl, ha⟩ := ho
        change _ = some (HO.tup [V.int q.num, V.int (q.den : Int)]) at ha
        have ha1 := s3 _ _ (s2 _ _ ha)
        have sq := hoz _ rfl
        have c1 : CMulW q.num c.num := cmw sq.1 sc.1 (by omega)
        have c2 : CMulW (q.den : Int) (c.den : Int) := cmw sq.2 sc.2 (by omega)
        have dp := Int.mul_pos (den0 q) dc
        have lg : ((q.den : Int) * (c.den : Int)).natAbs.log2 < 9000 := (sq.2.mul sc.2).log (by omega) (by omega)
        walk_at "w"
        intro t H5 nt s5 ht
        rw [mul_PR] at ht
        exact hN _ _ s5 ⟨t, rfl, ht⟩
    have lz2 : zs.length = 2 := lz
    obtain ⟨z0, z1, rfl⟩ : ∃ z0 z1, zs = [z0, z1] := by
      match zs, lz2 with
      | [z0, z1], _ => exact ⟨z0, z1, rfl⟩
    have o0 := hz 0 z0 rfl
    have o1 := hz 1 z1 rfl
    walk_at "w"
    all_goals (try refine ⟨atI_of (n := 1) rfl rfl, ?_⟩)
    walk_at "w"
    intro T3 nT3
    have s4 := s3.trans (same1 (u := .tup [V.ref D, V.str d.r, z0, z1]) nT3)
    refine fin T3 _ (s2.trans s4) ⟨D, z0, z1, ys, upd_same, s4 _ _ hD2, ⟨by rw [ly, lv]; exact (List.length_map ..).symm, fun i x e => ?_⟩, o0.same (same1 nT3), o1.same (same1 nT3)⟩
    have e : (d.ms.map (· * c))[i]? = some x := e
    rw [List.getElem?_map] at e
    have hi : i < ys.length := by
      cases e1 : d.ms[i]? with
      | none => rw [e1] at e; cases e
      | some y => have := (List.getElem?_eq_some_iff.mp e1).1; omega
    obtain ⟨a, q, e1, e2, e3⟩ := hy i _ (List.getElem?_eq_getElem hi)
    rw [e2] at e
    cases e
    exact ⟨a, by rw [List.getElem?_eq_getElem hi, e1], (sT.trans s4) _ _ e3⟩
theorem ok_l_drawn {P : Program} {w : World} {K : PySem.W.Frag} {mg : Str → Option Value} {base : Heap} {φ : Fds} (T : Txt P K mg φ) : FnOk P w K mg base CX0 4 (He.fAd K ("_law_drawn", none)) φ.l_drawn p_l_drawn sp_drawn27 := by
  obtain ⟨_, B0v, B0⟩ := b_l_pick_2 T
  obtain ⟨_, B1v, B1⟩ := b_l_of_2 T
  obtain ⟨_, B2v, B2⟩ := b_l_plus_2 T
  obtain ⟨_, B3v, B3⟩ := b_l_mid_2 T
  obtain ⟨_, B4v, B4⟩ := b_l_less_2 T
  refine T.f_l_drawn.ok sc_l_drawn (fun vs H Q E h => ?_) (fun cdv A outer s H vs Q E hr h => ?_)
  · obtain ⟨h, g, n, m, rfl, pt, hn, m0, m1, fin⟩ := h; rfl
  · obtain ⟨h, g, n, m, rfl, pt, hn, m0, m1, fin⟩ := h
    refine ⟨_, PSs.nox (pss_cons (ps_cut (ps_par (i := 2) (j := 3) rfl sc_l_drawn.nd rfl rfl (by decide) rfl rfl (pa_cons (pe_call (ok_l_of (K := K) T) (hr.mono (by decide)) rfl T.g_l_of T.f_l_of.kp B1 B1v pass0 (pa_cons (pv 0) (pa_cons (pe_lst (pa_cons pe_str (pa_cons pe_str (pa_cons pe_str pa_nil)))) pa_nil))) (pa_cons (pe_op op_add pe_int (pe_call (ok_l_pick (K := K) T) (hr.mono (by decide)) rfl T.g_l_pick T.f_l_pick.kp B0 B0v pass0 (pa_cons (pv 0) (pa_cons (pv 1) pa_nil)))) pa_nil)) (by rfl)))
      (pss_cons (ps_cut (ps_set (i := 4) sc_l_drawn.nd rfl (Or.inl rfl) (pe_lst (pa_cons (pe_tup (pa_cons pe_int (pa_cons pe_int pa_nil))) (pa_cons (pe_tup (pa_cons pe_int (pa_cons pe_int pa_nil))) (pa_cons (pe_tup (pa_cons pe_int (pa_cons pe_int pa_nil))) (pa_cons (pe_tup (pa_cons pe_int (pa_cons pe_int pa_nil))) (pa_cons (pe_tup (pa_cons pe_int (pa_cons pe_int pa_nil))) (pa_cons (pe_tup (pa_cons pe_int (pa_cons pe_int pa_nil))) (pa_cons (pe_tup (pa_cons pe_int (pa_cons pe_int pa_nil))) (pa_cons (pe_tup (pa_cons pe_int (pa_cons pe_int pa_nil))) pa_nil)))))))))))
      (pss_cons (ps_cut (ps_set (i := 5) sc_l_drawn.nd rfl (Or.inl rfl) (pe_call (ok_l_of (K := K) T) (hr.mono (by decide)) rfl T.g_l_of T.f_l_of.kp B1 B1v pass0 (pa_cons (pv 0) (pa_cons (pe_op op_cat (pv 4) (pe_lst (pa_cons pe_non (pa_cons pe_non pa_nil)))) pa_nil)))))
      (pss_cons (ps_cut (ps_set (i := 6) sc_l_drawn.nd rfl (Or.inl rfl) (pe_lst (pa_cons (pe_call (ok_l_of (K := K) T) (hr.mono (by decide)) rfl T.g_l_of T.f_l_of.kp B1 B1v pass0 (pa_cons (pv 0) (pa_cons (pe_lst (pa_cons (pe_tup (pa_cons pe_int (pa_cons pe_int pa_nil))) (pa_cons (pe_tup (pa_cons pe_int (pa_cons pe_int pa_nil))) (pa_cons (pe_tup (pa_cons pe_int (pa_cons pe_int pa_nil))) (pa_cons (pe_tup (pa_cons (pe_un un_neg pe_int) (pa_cons pe_int pa_nil))) (pa_cons (pe_tup (pa_cons pe_int (pa_cons pe_int pa_nil))) (pa_cons (pe_tup (pa_cons (pe_un un_neg pe_int) (pa_cons pe_int pa_nil))) pa_nil))))))) pa_nil))) pa_nil))))
      (pss_cons (ps_cut (ps_for PassesOwn.never rfl (pi_range1 rfl T.z_range (pa_cons (pe_op op_sub (pv 3) pe_int) pa_nil)) (pg_name (i := 7) sc_l_drawn.nd rfl (Or.inl rfl))
      (pss_one (ps_expr (pe_bm PySem.F.plainAttrs_list PySem.F.slot_list_append PySem.F.type_list_append mt_append (pv 6) (pa_cons (pe_call (ok_l_plus (K := K) T) (hr.mono (by decide)) rfl T.g_l_plus T.f_l_plus.kp B2 B2v pass0 (pa_cons (pe_ix (ixl (K := K)) (pv 6) (pe_un un_neg pe_int) (fun _ _ => rfl)) (pa_cons (pe_ifExp (pt_cmpR op_notN (pv 5) pe_non (nomark _)) (pv 5) (pe_call (ok_l_of (K := K) T) (hr.mono (by decide)) rfl T.g_l_of T.f_l_of.kp B1 B1v pass0 (pa_cons (pv 0) (pa_cons (pv 4) pa_nil)))) pa_nil))) pa_nil))))))
      (pss_cons (ps_cut (ps_set (i := 8) sc_l_drawn.nd rfl (Or.inl rfl) (pe_lst pa_nil)))
      (pss_cons (ps_cut (ps_for PassesOwn.never rfl (pi_range1 rfl T.z_range (pa_cons pe_int pa_nil)) (pg_name (i := 7) sc_l_drawn.nd rfl (Or.inl rfl))
      (pss_cons (ps_par (i := 9) (j := 10) rfl sc_l_drawn.nd rfl rfl (by decide) rfl rfl (pa_cons (pe_call (ok_l_pick (K := K) T) (hr.mono (by decide)) rfl T.g_l_pick T.f_l_pick.kp B0 B0v pass0 (pa_cons (pv 0) (pa_cons pe_int pa_nil))) (pa_cons (pe_call (ok_l_pick (K := K) T) (hr.mono (by decide)) rfl T.g_l_pick T.f_l_pick.kp B0 B0v pass0 (pa_cons (pv 0) (pa_cons (pv 3) pa_nil))) pa_nil)) (by rfl))
      (pss_cons (ps_set (i := 11) sc_l_drawn.nd rfl (Or.inl rfl) (pe_lst (pa_cons (pe_ix (ixl (K := K)) (pv 6) (pv 10) (fun _ _ => rfl)) (pa_cons (pe_call (ok_l_mid (K := K) T) (hr.mono (by decide)) rfl T.g_l_mid T.f_l_mid.kp B3 B3v pass0 (pa_cons (pe_ix (ixl (K := K)) (pv 6) (pv 10) (fun _ _ => rfl)) (pa_cons (pe_ix (ixl (K := K)) (pv 6) (pe_callB (id := "max") (call_max2 rfl) (by rfl) T.z_max (by decide +kernel) (pa_cons pe_int (pa_cons (pe_op op_sub (pv 10) pe_int) pa_nil))) (fun _ _ => rfl)) pa_nil))) (pa_cons (pe_call (ok_l_plus (K := K) T) (hr.mono (by decide)) rfl T.g_l_plus T.f_l_plus.kp B2 B2v pass0 (pa_cons (pe_ix (ixl (K := K)) (pv 6) (pv 10) (fun _ _ => rfl)) (pa_cons (pe_tup (pa_cons (pe_op op_sub pe_int (pe_op op_mulA pe_int (pv 7))) (pa_cons pe_int pa_nil))) pa_nil))) pa_nil)))))
      (pss_one (ps_expr (pe_bm PySem.F.plainAttrs_list PySem.F.slot_list_append PySem.F.type_list_append mt_append (pv 8) (pa_cons (pe_ifExp (pt_cmpR op_lt (pv 9) pe_int (nomark _)) (pe_ix (ixl (K := K)) (pv 11) (pv 9) (fun _ _ => rfl)) pe_non) pa_nil))))))))
      (pss_cons (ps_cut (ps_if (PW.pt (pw_and (pt_cmpR (notInDK (K := K) (rm65 hr)) pe_non (pv 8) (by rfl)) (pw_and1 (pt_val (pe_call (ok_l_less (K := K) T) (hr.mono (by decide)) rfl T.g_l_less T.f_l_less.kp B4 B4v pass0 (pa_cons (pe_ix (ixl (K := K)) (pv 8) pe_int (fun _ _ => rfl)) (pa_cons (pe_ix (ixl (K := K)) (pv 8) pe_int (fun _ _ => rfl)) pa_nil)))))))
      (pss_one (ps_set (i := 8) sc_l_drawn.nd rfl (Or.inl rfl) (pe_revL (pv 8))))
      pss_nil))
      (pss_one (ps_ret (pe_tup (pa_cons (pv 6) (pa_cons (pv 2) (pa_cons (pe_ix (ixl (K := K)) (pv 8) pe_int (fun _ _ => rfl)) (pa_cons (pe_ix (ixl (K := K)) (pv 8) pe_int (fun _ _ => rfl)) pa_nil))))))))))))))), ?_⟩
    obtain ⟨J1, eJ1⟩ : ∃ J : L2.St → Hp → Prop, J = fun σ' H' => ∃ (r : Str) (mn : Int), σ' = [some (.ref h), some (.int m), some (.str r), some (.int mn), none, none, none, none, none, none, none, none] ∧ IsRule r ∧ 0 < mn ∧ mn ≤ 24 ∧ PotAt H' h g (n + 2) ∧ Kp2 h g H H' := ⟨_, rfl⟩
    refine ⟨J1, ?_, ?_⟩
    · walk_at "f"
      intro L nL
      have hL : (upd H L (.lst [V.str (Str.ofString "up"), V.str (Str.ofString "down"), V.str (Str.ofString "near")])) L = some (.lst [V.str (Str.ofString "up"), V.str (Str.ofString "down"), V.str (Str.ofString "near")]) := upd_same
      have kL : Kp2 h g H _ := (Kp2.refl H).up (u := .lst [V.str (Str.ofString "up"), V.str (Str.ofString "down"), V.str (Str.ofString "near")]) nL
      have ptL := pt.up (u := .lst [V.str (Str.ofString "up"), V.str (Str.ofString "down"), V.str (Str.ofString "near")]) nL
      obtain ⟨ne1, ne2⟩ := pt.nel nL
      clear pt
      generalize upd H L (.lst [V.str (Str.ofString "up"), V.str (Str.ofString "down"), V.str (Str.ofString "near")]) = HA at *
      have lgm := lg24 (show (m : Int) ≤ 24 by omega) (show (0 : Int) ≤ m by omega)
      refine ⟨h, g, L, n, _, rfl, ptL, by omega, SqL.of hL, ne1, ne2, by decide, by decide, fun i x HB hx ptB kB => ?_⟩
      obtain ⟨r, rfl, ru⟩ : ∃ r, x = V.str r ∧ IsRule r := by
        match i, hx with
        | 0, hx => cases hx; exact ⟨_, rfl, .inl rfl⟩
        | 1, hx => cases hx; exact ⟨_, rfl, .inr (.inl rfl)⟩
        | 2, hx => cases hx; exact ⟨_, rfl, .inr (.inr rfl)⟩
        | j + 3, hx => simp at hx
      clear ptL
      walk_at "f"
      intro d HC d0 d1 ptC kC
      walk_at "f"
      subst eJ1
      exact ⟨r, _, rfl, ru, by omega, by omega, ptC, (kL.trans kB).trans kC⟩
    rintro σ1 H2 hJ1
    subst eJ1
    obtain ⟨r, mn, rfl, ru, mn0, mn1, pt2, k2⟩ := hJ1
    clear pt
    have nH : ∀ p, H2 p = none → p ≠ h ∧ p ≠ g := fun p e => pt2.nel e
    obtain ⟨J2, eJ2⟩ : ∃ J : L2.St → Hp → Prop, J = fun σ' H' => ∃ (P : Addr), σ' = [some (.ref h), some (.int m), some (.str r), some (.int mn), some (.ref P), none, none, none, none, none, none, none] ∧ PoolAt H' P ∧ PotAt H' h g (n + 2) ∧ Kp2 h g H H' := ⟨_, rfl⟩
    refine ⟨J2, ?_, ?_⟩
    · walk_at "f"
      intro pa0 npa0
      have ea0 : (upd H2 pa0 (.tup [V.int (1), V.int 1])) pa0 = some (.tup [V.int (1), V.int 1]) := upd_same
      have sa0 := same1 (u := .tup [V.int (1), V.int 1]) npa0
      generalize upd H2 pa0 (.tup [V.int (1), V.int 1]) = HA0 at *
      walk_at "f"
      intro pa1 npa1
      have ea1 : (upd HA0 pa1 (.tup [V.int (1), V.int 2])) pa1 = some (.tup [V.int (1), V.int 2]) := upd_same
      have sa1 := same1 (u := .tup [V.int (1), V.int 2]) npa1
      generalize upd HA0 pa1 (.tup [V.int (1), V.int 2]) = HA1 at *
      walk_at "f"
      intro pa2 npa2
      have ea2 : (upd HA1 pa2 (.tup [V.int (1), V.int 3])) pa2 = some (.tup [V.int (1), V.int 3]) := upd_same
      have sa2 := same1 (u := .tup [V.int (1), V.int 3]) npa2
      generalize upd HA1 pa2 (.tup [V.int (1), V.int 3]) = HA2 at *
      walk_at "f"
      intro pa3 npa3
      have ea3 : (upd HA2 pa3 (.tup [V.int (2), V.int 7])) pa3 = some (.tup [V.int (2), V.int 7]) := upd_same
      have sa3 := same1 (u := .tup [V.int (2), V.int 7]) npa3
      generalize upd HA2 pa3 (.tup [V.int (2), V.int 7]) = HA3 at *
      walk_at "f"
      intro pa4 npa4
      have ea4 : (upd HA3 pa4 (.tup [V.int (5), V.int 12])) pa4 = some (.tup [V.int (5), V.int 12]) := upd_same
      have sa4 := same1 (u := .tup [V.int (5), V.int 12]) npa4
      generalize upd HA3 pa4 (.tup [V.int (5), V.int 12]) = HA4 at *
      walk_at "f"
      intro pa5 npa5
      have ea5 : (upd HA4 pa5 (.tup [V.int (1), V.int 104729])) pa5 = some (.tup [V.int (1), V.int 104729]) := upd_same
      have sa5 := same1 (u := .tup [V.int (1), V.int 104729]) npa5
      generalize upd HA4 pa5 (.tup [V.int (1), V.int 104729]) = HA5 at *
      walk_at "f"
      intro pa6 npa6
      have ea6 : (upd HA5 pa6 (.tup [V.int (3), V.int 1])) pa6 = some (.tup [V.int (3), V.int 1]) := upd_same
      have sa6 := same1 (u := .tup [V.int (3), V.int 1]) npa6
      generalize upd HA5 pa6 (.tup [V.int (3), V.int 1]) = HA6 at *
      walk_at "f"
      intro pa7 npa7
      have ea7 : (upd HA6 pa7 (.tup [V.int (1), V.int 1])) pa7 = some (.tup [V.int (1), V.int 1]) := upd_same
      have sa7 := same1 (u := .tup [V.int (1), V.int 1]) npa7
      generalize upd HA6 pa7 (.tup [V.int (1), V.int 1]) = HA7 at *
      walk_at "f"
      intro P nP
      have al : ∀ v ∈ [V.ref pa0, V.ref pa1, V.ref pa2, V.ref pa3, V.ref pa4, V.ref pa5, V.ref pa6, V.ref pa7], PoolP 26391708 HA7 v := fun v hv => by
        simp only [List.mem_cons, List.not_mem_nil, or_false] at hv
        rcases hv with rfl | rfl | rfl | rfl | rfl | rfl | rfl | rfl
        · exact ⟨pa0, (⟨1, 1, by decide, by decide⟩ : Rat), rfl, ((((((((Same.refl _).trans sa1).trans sa2).trans sa3).trans sa4).trans sa5).trans sa6).trans sa7) _ _ ea0, by decide, ⟨8797236, by decide +kernel, by decide⟩⟩
        · exact ⟨pa1, (⟨1, 2, by decide, by decide⟩ : Rat), rfl, (((((((Same.refl _).trans sa2).trans sa3).trans sa4).trans sa5).trans sa6).trans sa7) _ _ ea1, by decide, ⟨4398618, by decide +kernel, by decide⟩⟩
        · exact ⟨pa2, (⟨1, 3, by decide, by decide⟩ : Rat), rfl, ((((((Same.refl _).trans sa3).trans sa4).trans sa5).trans sa6).trans sa7) _ _ ea2, by decide, ⟨2932412, by decide +kernel, by decide⟩⟩
        · exact ⟨pa3, (⟨2, 7, by decide, by decide⟩ : Rat), rfl, (((((Same.refl _).trans sa4).trans sa5).trans sa6).trans sa7) _ _ ea3, by decide, ⟨2513496, by decide +kernel, by decide⟩⟩
        · exact ⟨pa4, (⟨5, 12, by decide, by decide⟩ : Rat), rfl, ((((Same.refl _).trans sa5).trans sa6).trans sa7) _ _ ea4, by decide, ⟨3665515, by decide +kernel, by decide⟩⟩
        · exact ⟨pa5, (⟨1, 104729, by decide, by decide⟩ : Rat), rfl, (((Same.refl _).trans sa6).trans sa7) _ _ ea5, by decide, ⟨84, by decide +kernel, by decide⟩⟩
        · exact ⟨pa6, (⟨3, 1, by decide, by decide⟩ : Rat), rfl, ((Same.refl _).trans sa7) _ _ ea6, by decide, ⟨26391708, by decide +kernel, by decide⟩⟩
        · exact ⟨pa7, (⟨1, 1, by decide, by decide⟩ : Rat), rfl, (Same.refl _) _ _ ea7, by decide, ⟨8797236, by decide +kernel, by decide⟩⟩
      have sA : Same H2 HA7 := (((((((((Same.refl _).trans sa0).trans sa1).trans sa2).trans sa3).trans sa4).trans sa5).trans sa6).trans sa7)
      subst eJ2
      exact ⟨P, rfl, ⟨_, upd_same, rfl, fun v hv => (al v hv).same (same1 nP)⟩, (pt2.same sA).up nP, (k2.trans (Kp2.same sA)).up nP⟩
    rintro σ2 H3 hJ2
    subst eJ2
    obtain ⟨P, rfl, hP3, pt3, k3⟩ := hJ2
    clear pt2 k2 nH
    obtain ⟨J3, eJ3⟩ : ∃ J : L2.St → Hp → Prop, J = fun σ' H' => ∃ (sv : V), σ' = [some (.ref h), some (.int m), some (.str r), some (.int mn), some (.ref P), some sv, none, none, none, none, none, none] ∧ PoolAt H' P ∧ StepAt H' sv ∧ PotAt H' h g (n + 3) ∧ Kp2 h g H H' := ⟨_, rfl⟩
    refine ⟨J3, ?_, ?_⟩
    · obtain ⟨ps, eP, lP, al⟩ := id hP3
      walk_at "f"
      intro N nN
      have eP' := up1 (u := .lst [V.non, V.non]) nN eP
      have hN : (upd H3 N (.lst [V.non, V.non])) N = some (.lst [V.non, V.non]) := upd_same
      have sN := same1 (u := .lst [V.non, V.non]) nN
      generalize upd H3 N (.lst [V.non, V.non]) = HA at *
      refine ⟨P, N, ps, [.non, .non], rfl, rfl, eP', hN, szl (by rw [lP]; decide), fun C nC => ?_⟩
      have hC : (upd HA C (.lst (ps ++ [V.non, V.non]))) C = some (.lst (ps ++ [V.non, V.non])) := upd_same
      have sC := sN.trans (same1 (u := .lst (ps ++ [V.non, V.non])) nC)
      obtain ⟨ne1, ne2⟩ := (pt3.same sN).nel nC
      generalize upd HA C (.lst (ps ++ [V.non, V.non])) = HB at *
      refine ⟨h, g, C, n + 2, _, rfl, pt3.same sC, by omega, SqL.of hC, ne1, ne2, by rw [List.length_append, lP]; decide, by rw [List.length_append, lP]; decide, fun i x HD hx ptD kD => ?_⟩
      have st : StepAt HB x := by
        rcases List.mem_append.mp (List.mem_of_getElem? hx) with q | q
        · exact .inr ((al x q).same sC)
        · simp only [List.mem_cons, List.not_mem_nil, or_false] at q
          rcases q with rfl | rfl <;> exact .inl rfl
      have pB := pt3.same sC
      walk_at "f"
      subst eJ3
      exact ⟨x, rfl, (hP3.same sC).kp pB kD, st.nl (pB.nl kD), ptD, (k3.trans (Kp2.same sC)).trans kD⟩
    rintro σ3 H4 hJ3
    subst eJ3
    obtain ⟨sv, rfl, hP4, st4, pt4, k4⟩ := hJ3
    clear hP3 pt3 k3
    obtain ⟨J4, eJ4⟩ : ∃ J : L2.St → Hp → Prop, J = fun σ' H' => ∃ (M : Addr) (x : Rat), σ' = [some (.ref h), some (.int m), some (.str r), some (.int mn), some (.ref P), some sv, some (.ref M), none, none, none, none, none] ∧ H M = none ∧ PoolAt H' P ∧ StepAt H' sv ∧ MkD H' M [x] ∧ P ≠ M ∧ PotAt H' h g (n + 4) ∧ Kp2 h g H H' := ⟨_, rfl⟩
    refine ⟨J4, ?_, ?_⟩
    · walk_at "f"
      intro pb0 npb0
      have eb0 : (upd H4 pb0 (.tup [V.int (0), V.int 1])) pb0 = some (.tup [V.int (0), V.int 1]) := upd_same
      have sb0 := same1 (u := .tup [V.int (0), V.int 1]) npb0
      generalize upd H4 pb0 (.tup [V.int (0), V.int 1]) = HA0 at *
      walk_at "f"
      intro pb1 npb1
      have eb1 : (upd HA0 pb1 (.tup [V.int (3), V.int 1])) pb1 = some (.tup [V.int (3), V.int 1]) := upd_same
      have sb1 := same1 (u := .tup [V.int (3), V.int 1]) npb1
      generalize upd HA0 pb1 (.tup [V.int (3), V.int 1]) = HA1 at *
      walk_at "f"
      intro pb2 npb2
      have eb2 : (upd HA1 pb2 (.tup [V.int (7), V.int 2])) pb2 = some (.tup [V.int (7), V.int 2]) := upd_same
      have sb2 := same1 (u := .tup [V.int (7), V.int 2]) npb2
      generalize upd HA1 pb2 (.tup [V.int (7), V.int 2]) = HA2 at *
      walk_at "f"
      intro pb3 npb3
      have eb3 : (upd HA2 pb3 (.tup [V.int (-2), V.int 1])) pb3 = some (.tup [V.int (-2), V.int 1]) := upd_same
      have sb3 := same1 (u := .tup [V.int (-2), V.int 1]) npb3
      generalize upd HA2 pb3 (.tup [V.int (-2), V.int 1]) = HA3 at *
      walk_at "f"
      intro pb4 npb4
      have eb4 : (upd HA3 pb4 (.tup [V.int (10), V.int 3])) pb4 = some (.tup [V.int (10), V.int 3]) := upd_same
      have sb4 := same1 (u := .tup [V.int (10), V.int 3]) npb4
      generalize upd HA3 pb4 (.tup [V.int (10), V.int 3]) = HA4 at *
      walk_at "f"
      intro pb5 npb5
      have eb5 : (upd HA4 pb5 (.tup [V.int (-1), V.int 104729])) pb5 = some (.tup [V.int (-1), V.int 104729]) := upd_same
      have sb5 := same1 (u := .tup [V.int (-1), V.int 104729]) npb5
      generalize upd HA4 pb5 (.tup [V.int (-1), V.int 104729]) = HA5 at *
      walk_at "f"
      intro L nL
      have al : ∀ v ∈ [V.ref pb0, V.ref pb1, V.ref pb2, V.ref pb3, V.ref pb4, V.ref pb5], PoolV 35188944 HA5 v := fun v hv => by
        simp only [List.mem_cons, List.not_mem_nil, or_false] at hv
        rcases hv with rfl | rfl | rfl | rfl | rfl | rfl
        · exact ⟨pb0, (⟨0, 1, by decide, by decide⟩ : Rat), rfl, ((((((Same.refl _).trans sb1).trans sb2).trans sb3).trans sb4).trans sb5) _ _ eb0, ⟨0, by decide +kernel, by decide⟩⟩
        · exact ⟨pb1, (⟨3, 1, by decide, by decide⟩ : Rat), rfl, (((((Same.refl _).trans sb2).trans sb3).trans sb4).trans sb5) _ _ eb1, ⟨26391708, by decide +kernel, by decide⟩⟩
        · exact ⟨pb2, (⟨7, 2, by decide, by decide⟩ : Rat), rfl, ((((Same.refl _).trans sb3).trans sb4).trans sb5) _ _ eb2, ⟨30790326, by decide +kernel, by decide⟩⟩
        · exact ⟨pb3, (⟨-2, 1, by decide, by decide⟩ : Rat), rfl, (((Same.refl _).trans sb4).trans sb5) _ _ eb3, ⟨-17594472, by decide +kernel, by decide⟩⟩
        · exact ⟨pb4, (⟨10, 3, by decide, by decide⟩ : Rat), rfl, ((Same.refl _).trans sb5) _ _ eb4, ⟨29324120, by decide +kernel, by decide⟩⟩
        · exact ⟨pb5, (⟨-1, 104729, by decide, by decide⟩ : Rat), rfl, (Same.refl _) _ _ eb5, ⟨-84, by decide +kernel, by decide⟩⟩
      have sA : Same H4 HA5 := (((((((Same.refl _).trans sb0).trans sb1).trans sb2).trans sb3).trans sb4).trans sb5)
      have sL := sA.trans (same1 (u := .lst [V.ref pb0, V.ref pb1, V.ref pb2, V.ref pb3, V.ref pb4, V.ref pb5]) nL)
      have al2 : ∀ v ∈ [V.ref pb0, V.ref pb1, V.ref pb2, V.ref pb3, V.ref pb4, V.ref pb5], PoolV 35188944 (upd HA5 L (.lst [V.ref pb0, V.ref pb1, V.ref pb2, V.ref pb3, V.ref pb4, V.ref pb5])) v := fun v hv => (al v hv).nl (Nl.of (same1 nL))
      obtain ⟨ne1, ne2⟩ := (pt4.same sA).nel nL
      have hL : (upd HA5 L (.lst [V.ref pb0, V.ref pb1, V.ref pb2, V.ref pb3, V.ref pb4, V.ref pb5])) L = some (.lst [V.ref pb0, V.ref pb1, V.ref pb2, V.ref pb3, V.ref pb4, V.ref pb5]) := upd_same
      generalize upd HA5 L (.lst [V.ref pb0, V.ref pb1, V.ref pb2, V.ref pb3, V.ref pb4, V.ref pb5]) = HB at *
      have pB := pt4.same sL
      refine ⟨h, g, L, n + 3, _, rfl, pB, by omega, SqL.of hL, ne1, ne2, Nat.le_of_ble_eq_true rfl, Nat.le_of_ble_eq_true rfl, fun i v HD hv ptD kD => ?_⟩
      obtain ⟨a, x, rfl, hx, wx⟩ := (al2 v (List.mem_of_getElem? hv)).nl (pB.nl kD)
      have kk := (k4.trans (Kp2.same sL)).trans kD
      walk_at "f"
      intro M nM
      have hP := ((hP4.same sL).kp pB kD)
      have nPM : P ≠ M := by
        obtain ⟨ps, e, _⟩ := hP
        exact ne_of_none e nM
      subst eJ4
      refine ⟨M, x, rfl, kk.non ptD nM, hP.same (same1 nM), ((st4.same sL).nl (pB.nl kD)).same (same1 nM), ⟨[.ref a], upd_same, ⟨rfl, fun j z hz => ?_⟩, fun j y z h1 h2 => by simp at h2, fun j z hz => ?_⟩, nPM, ptD.up nM, kk.up nM⟩
      · match j, hz with
        | 0, hz => cases hz; exact ⟨a, rfl, up1 nM hx⟩
        | j + 1, hz => simp at hz
      · match j, hz with
        | 0, hz => cases hz; exact wx.mono (by decide)
        | j + 1, hz => simp at hz
    rintro σ4 H5 hJ4
    subst eJ4
    obtain ⟨M, x, rfl, nM, hP5, st5, mk5, nPM, pt5, k5⟩ := hJ4
    clear hP4 st4 pt4 k4
    obtain ⟨J5, eJ5⟩ : ∃ J : L2.St → Hp → Prop, J = fun σ' H' => ∃ (ms : List Rat) (v7 : Option V), σ' = [some (.ref h), some (.int m), some (.str r), some (.int mn), some (.ref P), some sv, some (.ref M), v7, none, none, none, none] ∧ (ms.length : Int) = mn ∧ MkD H' M ms ∧ PotAt H' h g (n + 28) ∧ Kp2 h g H H' := ⟨_, rfl⟩
    refine ⟨J5, ?_, ?_⟩
    · walk_at "f"
      refine for_range (fun i σ H' => ∃ (ms : List Rat) (v7 : Option V), σ = [some (.ref h), some (.int m), some (.str r), some (.int mn), some (.ref P), some sv, some (.ref M), v7, none, none, none, none] ∧ ms.length = i + 1 ∧ MkD H' M ms ∧ PoolAt H' P ∧ StepAt H' sv ∧ PotAt H' h g (n + 4 + i) ∧ Kp2 h g H H') ⟨[x], _, rfl, rfl, mk5, hP5, st5, pt5, k5⟩ ?_ ?_
      · rintro i σ HA hi ⟨ms, v7, rfl, lm, ⟨vs, eM, rs, ri, wh⟩, hP, st, pt, kk⟩
        have hi2 : i ≤ 22 := by omega
        have ne := rsv_ne pt eM rs (by omega)
        have lv := rs.1
        obtain ⟨x', hx⟩ : ∃ x, ms[i]? = some x := ⟨_, List.getElem?_eq_getElem (by omega)⟩
        obtain ⟨a, ea, ha⟩   := rs.2 i x' hx
        have wx := wh i x' hx
        have iM : atI vs (-1) = some (.ref a) := atI_end (n := i) (by omega) ea
        have bd : (4 + 3 * i) * 8797236 ≤ 1000000000 := by omega
        walk_at "f"
        have fin1 : ∀ (HB : Hp) (b : Addr) (y : Rat) (q : Nat), q ≤ n + 4 + i + 1 → HB M = some (.lst vs) → RsV HB vs ms → PoolAt HB P → StepAt HB sv → PotAt HB h g q → Kp2 h g H HB → 0 < y → WhM y 26391708 → ∀ (c : Addr) (HC : Hp), Same HB HC → HC c = some (PR (x' + y)) →
            ∃ (ms' : List Rat) (v7 : Option V), [some (.ref h), some (.int m), some (.str r), some (.int mn), some (.ref P), some sv, some (.ref M), some (.int (0 + (i : Int))), none, none, none, none] = [some (.ref h), some (.int m), some (.str r), some (.int mn), some (.ref P), some sv, some (.ref M), v7, none, none, none, none] ∧ ms'.length = i + 1 + 1 ∧ MkD (upd HC M (.lst (vs ++ [V.ref c]))) M ms' ∧ PoolAt (upd HC M (.lst (vs ++ [V.ref c]))) P ∧ StepAt (upd HC M (.lst (vs ++ [V.ref c]))) sv ∧ PotAt (upd HC M (.lst (vs ++ [V.ref c]))) h g (n + 4 + (i + 1)) ∧ Kp2 h g H (upd HC M (.lst (vs ++ [V.ref c]))) := by
          intro HB b y q lq eB rB hPB stB ptB kB y0 wy c HC sC hc
          have eC := sC _ _ eB
          exact ⟨ms ++ [x' + y], _, rfl, by rw [List.length_append, lm]; rfl, MkD.snoc eC (rB.same sC) ri wh lm hx y0 wy hc, (hPB.same sC).put eC nPM, (stB.same sC).nl (Nl.put eC), (((ptB.same sC).put ne.1 ne.2).mono (by omega)), (kB.trans (Kp2.same sC)).putN nM⟩
        rcases st with rfl | ⟨b, y, rfl, hb, y0, wy⟩
        · obtain ⟨ps, eP, lP, al⟩ := id hP
          have nP := hP.ne pt
          walk_at "f"
          refine ⟨nP.1, nP.2, by omega, by omega, fun j z HB hz ptB kB => ?_⟩
          obtain ⟨b, y, rfl, hb, y0, wy⟩ := (al _ (List.mem_of_getElem? hz)).nl (pt.nl kB)
          have nB := pt.nl kB
          have eB := kB _ _ eM ne.1 ne.2
          refine ⟨a, b, x', y, 30, rfl, nB _ _ ha rfl, hb, wx.sz bd, wy.sz (by decide), by decide, by decide, fun c HC nc sC hc => ?_⟩
          have eC := sC _ _ eB
          have ll : vs.length < 1000 := by omega
          walk_at "f"
          exact fin1 _ b y _ (Nat.le_refl _) eB (rs.nl nB) (hP.kp pt kB) (.inl rfl) ptB (kk.trans kB) y0 wy c HC sC hc
        · walk_at "f"
          refine ⟨x', y, 30, rfl, ha, hb, wx.sz bd, wy.sz (by decide), by decide, by decide, fun c HC nc sC hc => ?_⟩
          have eC := sC _ _ eM
          have ll : vs.length < 1000 := by omega
          walk_at "f"
          exact fin1 _ b y _ (by omega) eM rs hP (.inr ⟨b, y, rfl, hb, y0, wy⟩) pt kk y0 wy c HC sC hc
      · rintro σ HA ⟨ms, v7, rfl, lm, mk, hP, st, pt, kk⟩
        subst eJ5
        exact ⟨ms, v7, rfl, by omega, mk, pt.mono (by omega), kk⟩
    rintro σ5 H6 hJ5
    subst eJ5
    obtain ⟨ms, v7, rfl, lm, mk6, pt6, k6⟩ := hJ5
    clear hP5 st5 mk5 pt5 k5 nPM
    obtain ⟨J6, eJ6⟩ : ∃ J : L2.St → Hp → Prop, J = fun σ' H' => ∃ (E : Addr), σ' = [some (.ref h), some (.int m), some (.str r), some (.int mn), some (.ref P), some sv, some (.ref M), v7, some (.ref E), none, none, none] ∧ H E = none ∧ H' E = some (.lst []) ∧ E ≠ h ∧ E ≠ g ∧ M ≠ E ∧ MkD H' M ms ∧ PotAt H' h g (n + 28) ∧ Kp2 h g H H' := ⟨_, rfl⟩
    refine ⟨J6, ?_, ?_⟩
    · walk_at "f"
      intro E nE
      obtain ⟨ne1, ne2⟩ := pt6.nel nE
      have nME : M ≠ E := by
        obtain ⟨vs, e, _⟩ := mk6
        exact ne_of_none e nE
      subst eJ6
      exact ⟨E, rfl, k6.non pt6 nE, upd_same, ne1, ne2, nME, mk6.same (same1 nE), pt6.up nE, k6.up nE⟩
    rintro σ6 H7 hJ6
    subst eJ6
    obtain ⟨E, rfl, nE, hE, nE1, nE2, nME, mk7, pt7, k7⟩ := hJ6
    clear mk6 pt6 k6
    obtain ⟨J7, eJ7⟩ : ∃ J : L2.St → Hp → Prop, J = fun σ' H' => ∃ (a b : V) (v7 v9 v10 v11 : Option V), σ' = [some (.ref h), some (.int m), some (.str r), some (.int mn), some (.ref P), some sv, some (.ref M), v7, some (.ref E), v9, v10, v11] ∧ H' E = some (.lst [a, b]) ∧ ElV H' a ∧ ElV H' b ∧ MkD H' M ms ∧ PotAt H' h g (n + 32) ∧ Kp2 h g H H' := ⟨_, rfl⟩
    refine ⟨J7, ?_, ?_⟩
    · walk_at "f"
      refine for_range (fun i σ H' => ∃ (es : List V) (v7 v9 v10 v11 : Option V), σ = [some (.ref h), some (.int m), some (.str r), some (.int mn), some (.ref P), some sv, some (.ref M), v7, some (.ref E), v9, v10, v11] ∧ H' E = some (.lst es) ∧ es.length = i ∧ (∀ v ∈ es, ElV H' v) ∧ MkD H' M ms ∧ PotAt H' h g (n + 28 + 2 * i) ∧ Kp2 h g H H') ⟨[], _, _, _, _, rfl, hE, rfl, fun v hv => by simp at hv, mk7, pt7, k7⟩ ?_ ?_
      · rintro i σ HA hi ⟨es, v7, v9, v10, v11, rfl, hEA, le, ae, mk, pt, kk⟩
        have hi2 : i < 2 := hi
        have lgm := lg24 mn1 (by omega)
        walk_at "f"
        intro wy HB wy0 wy1 ptB kB
        have mkB := mk.kp (by omega) pt kB
        walk_at "f"
        intro at0 HC a0 a1 ptC kC
        have mkC := mkB.kp (by omega) ptB kC
        have kAC := kB.trans kC
        have hEC := kAC _ _ hEA nE1 nE2
        have aeC : ∀ v ∈ es, ElV HC v := fun v hv => (ae v hv).nl (pt.nl kAC)
        have kkC := kk.trans kAC
        clear mk mkB ptB pt kB kC kAC ae kk hEA
        obtain ⟨ai, rfl⟩ := Int.eq_ofNat_of_zero_le a0
        obtain ⟨vs, eM, rs, ri, wh⟩ := id mkC
        have lv := rs.1
        obtain ⟨x1, hx1⟩ : ∃ x, ms[ai]? = some x := ⟨_, List.getElem?_eq_getElem (by omega)⟩
        obtain ⟨c1, e1, h1⟩ := rs.2 ai x1 hx1
        have i1 : atI vs (ai : Int) = some (.ref c1) := atI_nat e1
        have w1 := wh ai x1 hx1
        obtain ⟨bi, eb, lb, b2⟩ : ∃ bi : Nat, (if (ai : Int) - 1 > 0 then (ai : Int) - 1 else 0) = (bi : Int) ∧ bi < ms.length ∧ (4 + 3 * bi) * 8797236 ≤ 1000000000 := ⟨ai - 1, by split <;> omega, by omega, Nat.le_trans (Nat.mul_le_mul_right _ (show 4 + 3 * (ai - 1) ≤ 73 by omega)) (Nat.le_of_ble_eq_true rfl)⟩
        obtain ⟨x2, hx2⟩ : ∃ x, ms[bi]? = some x := ⟨_, List.getElem?_eq_getElem lb⟩
        obtain ⟨c2, e2, h2⟩ := rs.2 bi x2 hx2
        have i2 : atI vs (if (ai : Int) - 1 > 0 then (ai : Int) - 1 else 0) = some (.ref c2) := by rw [eb]; exact atI_nat e2
        have w2 := wh bi x2 hx2
        have b1 : (4 + 3 * ai) * 8797236 ≤ 1000000000 := Nat.le_trans (Nat.mul_le_mul_right _ (show 4 + 3 * ai ≤ 73 by omega)) (Nat.le_of_ble_eq_true rfl)
        have eS : HO.tup [V.int (1 - 2 * (0 + (i : Int))), V.int 5] = PR (toR (1 - 2 * (0 + (i : Int)), 5)) := by
          have k1 : (toR (1, 5)).num = 1 ∧ ((toR (1, 5)).den : Int) = 5 := by decide +kernel
          have k2 : (toR (-1, 5)).num = -1 ∧ ((toR (-1, 5)).den : Int) = 5 := by decide +kernel
          obtain rfl | rfl : i = 0 ∨ i = 1 := by omega
          · show HO.tup [V.int 1, V.int 5] = HO.tup [V.int (toR (1, 5)).num, V.int ((toR (1, 5)).den : Int)]
            rw [k1.1, k1.2]
          · show HO.tup [V.int (-1), V.int 5] = HO.tup [V.int (toR (-1, 5)).num, V.int ((toR (-1, 5)).den : Int)]
            rw [k2.1, k2.2]
        have hs1 : (1 - 2 * (0 + (i : Int))).natAbs ≤ 1 := by omega
        have w3 := w1.fifth b1 hs1
        have z3 : SzR 30 (toR (1 - 2 * (0 + (i : Int)), 5)) := szr_of (by decide) (Nat.lt_of_le_of_lt hs1 (by decide)) (by decide)
        have m0 := w1.mid w2 b1 b2
        walk_at "f"
        refine ⟨x1, x2, 30, rfl, h1, h2, w1.sz b1, w2.sz b2, by decide, by decide, fun q1 HD nq1 sD hq1 => ?_⟩
        have eMD := sD _ _ eM
        walk_at "f"
        intro T nT
        have hT : (upd HD T (.tup [V.int (1 - 2 * (0 + (i : Int))), V.int 5])) T = some (.tup [V.int (1 - 2 * (0 + (i : Int))), V.int 5]) := upd_same
        have sT := same1 (u := .tup [V.int (1 - 2 * (0 + (i : Int))), V.int 5]) nT
        generalize upd HD T (.tup [V.int (1 - 2 * (0 + (i : Int))), V.int 5]) = HE at *
        rw [eS] at hT
        have sE := sD.trans sT
        have h1E := sE _ _ h1
        walk_at "f"
        all_goals (try refine ⟨x1, toR (1 - 2 * (0 + (i : Int)), 5), 30, rfl, h1E, hT, w1.sz b1, z3, by decide, by decide, fun q2 HF nq2 sF hq2 => ?_⟩)
        walk_at "f"
        intro L nL
        have sL := sF.trans (same1 (u := .lst [V.ref c1, V.ref q1, V.ref q2]) nL)
        have hL : (upd HF L (.lst [V.ref c1, V.ref q1, V.ref q2])) L = some (.lst [V.ref c1, V.ref q1, V.ref q2]) := upd_same
        have hq2' := up1 (u := .lst [V.ref c1, V.ref q1, V.ref q2]) nL hq2
        generalize upd HF L (.lst [V.ref c1, V.ref q1, V.ref q2]) = HG at *
        have hq1' := (sT.trans sL) _ _ hq1
        have h1' := sL _ _ h1E
        have sCG := sE.trans sL
        have hEG := sCG _ _ hEC
        have ll : es.length < 1000 := by omega
        have fin1 : ∀ v, ElV HG v → ∃ (v7 v9 v10 v11 : Option V), [some (.ref h), some (.int m), some (.str r), some (.int mn), some (.ref P), some sv, some (.ref M), some (.int (0 + (i : Int))), some (.ref E), some (.int wy), some (.int (ai : Int)), some (.ref L)] = [some (.ref h), some (.int m), some (.str r), some (.int mn), some (.ref P), some sv, some (.ref M), v7, some (.ref E), v9, v10, v11] ∧ (upd HG E (.lst (es ++ [v]))) E = some (.lst (es ++ [v])) ∧ (es ++ [v]).length = i + 1 ∧ (∀ u ∈ es ++ [v], ElV (upd HG E (.lst (es ++ [v]))) u) ∧ MkD (upd HG E (.lst (es ++ [v]))) M ms ∧ PotAt (upd HG E (.lst (es ++ [v]))) h g (n + 28 + 2 * (i + 1)) ∧ Kp2 h g H (upd HG E (.lst (es ++ [v]))) := fun v ev => by
          refine ⟨_, _, _, _, rfl, upd_same, by rw [List.length_append, le]; rfl, fun u hu => ?_, (mkC.same sCG).put hEG nME, (((ptC.same sCG).put nE1 nE2).mono (by omega)), (kkC.trans (Kp2.same sCG)).putN nE⟩
          rcases List.mem_append.mp hu with hu | hu
          · exact ((aeC u hu).nl (Nl.of sCG)).nl (Nl.put hEG)
          · rw [List.mem_singleton.mp hu]
            exact ev.nl (Nl.put hEG)
        walk_at "f"
        refine ite2 (fun c => ?_) (fun c => ?_)
        · have cw : wy < 3 := of_decide_eq_true c
          obtain ⟨v, iv, ev⟩ : ∃ v, atI [V.ref c1, V.ref q1, V.ref q2] wy = some v ∧ ElV HG v := by
            obtain rfl | rfl | rfl : wy = 0 ∨ wy = 1 ∨ wy = 2 := by omega
            · exact ⟨_, rfl, .inr ⟨c1, x1, rfl, h1', (w1.sz b1).mono (by decide)⟩⟩
            · exact ⟨_, rfl, .inr ⟨q1, _, rfl, hq1', m0⟩⟩
            · exact ⟨_, rfl, .inr ⟨q2, _, rfl, hq2', w3⟩⟩
          walk_at "f"
          exact fin1 v ev
        · walk_at "f"
          exact fin1 .non (.inl rfl)
      · rintro σ HA ⟨es, v7, v9, v10, v11, rfl, hEA, le, ae, mk, pt, kk⟩
        subst eJ7
        have le2 : es.length = 2 := le
        obtain ⟨a, b, rfl⟩ : ∃ a b, es = [a, b] := by
          match es, le2 with
          | [a, b], _ => exact ⟨a, b, rfl⟩
        exact ⟨a, b, v7, v9, v10, v11, rfl, hEA, ae a (by simp), ae b (by simp), mk, pt, kk⟩
    rintro σ7 H8 hJ7
    subst eJ7
    obtain ⟨a, b, v7, v9, v10, v11, rfl, hE8, ela, elb, mk8, pt8, k8⟩ := hJ7
    clear hE nE1 nE2 nME mk7 pt7 k7
    obtain ⟨J8, eJ8⟩ : ∃ J : L2.St → Hp → Prop, J = fun σ' H' => ∃ (E' : Addr) (a b : V) (lo hi : Option Rat), σ' = [some (.ref h), some (.int m), some (.str r), some (.int mn), some (.ref P), some sv, some (.ref M), v7, some (.ref E'), v9, v10, v11] ∧ H' E' = some (.lst [a, b]) ∧ OP H' a lo ∧ OP H' b hi ∧ ZzO 34 lo ∧ ZzO 34 hi ∧ (∀ x y, lo = some x → hi = some y → x ≤ y) ∧ MkD H' M ms ∧ PotAt H' h g (n + 32) ∧ Kp2 h g H H' := ⟨_, rfl⟩
    refine ⟨J8, ?_, ?_⟩
    · obtain ⟨oa, opa, za⟩ := ela.op
      obtain ⟨ob, opb, zb⟩ := elb.op
      walk_at "f"
      refine notin_ends hE8 opa opb ⟨_, rfl, ?_⟩
      have keep : (∀ x y, oa = some x → ob = some y → x ≤ y) → J8 [some (.ref h), some (.int m), some (.str r), some (.int mn), some (.ref P), some sv, some (.ref M), v7, some (.ref E), v9, v10, v11] H8 := fun sp => by
        subst eJ8
        exact ⟨E, a, b, oa, ob, rfl, hE8, opa, opb, za, zb, sp, mk8, pt8, k8⟩
      cases oa with
      | none =>
        refine ite2 (fun z => by cases z) (fun _ => ?_)
        exact keep (fun x y e => by cases e)
      | some x =>
        cases ob with
        | none =>
          refine ite2 (fun z => by cases z) (fun _ => ?_)
          exact keep (fun x y _ e => by cases e)
        | some y =>
          refine ite2 (fun _ => ?_) (fun z => absurd rfl z)
          obtain ⟨pa, rfl, ha⟩ := opa
          obtain ⟨pb, rfl, hb⟩ := opb
          walk_at "f"
          all_goals (try refine ⟨y, x, 34, rfl, hb, ha, zb _ rfl, za _ rfl, by decide, ?_⟩)
          walk_at "f"
          refine ite2 (fun c => ?_) (fun c => ?_)
          · have lt : y < x := of_decide_eq_true c
            walk_at "f"
            intro R nR
            subst eJ8
            exact ⟨R, .ref pb, .ref pa, some y, some x, rfl, upd_same, ⟨pb, rfl, up1 nR hb⟩, ⟨pa, rfl, up1 nR ha⟩, zb, za, fun u v e1 e2 => by cases e1; cases e2; exact Rat.le_of_lt lt, mk8.same (same1 nR), pt8.up nR, k8.up nR⟩
          · exact keep (fun u v e1 e2 => by cases e1; cases e2; exact Rat.not_lt.mp fun q => c (decide_eq_true q))
    rintro σ8 H9 hJ8
    subst eJ8
    obtain ⟨E', a', b', lo, hi, rfl, hE9, oa, ob, za, zb, span, mk9, pt9, k9⟩ := hJ8
    clear hE8 ela elb mk8 pt8 k8
    obtain ⟨vs, eM, rs, ri, wh⟩ := mk9
    have l0 : 0 < ms.length := by omega
    have l1 : ms.length ≤ 24 := by omega
    walk_at "f"
    intro T nT
    have s1 := same1 (u := .tup [V.ref M, V.str r, a', b']) nT
    refine fin T ⟨ms, r, lo, hi⟩ _ (k9.up nT) ((pt9.up nT).mono (by omega)) ⟨M, a', b', vs, upd_same, s1 _ _ eM, rs.same s1, oa.same s1, ob.same s1⟩ ⟨l0, l1, ri, ru, span⟩ ⟨fun x hx => ?_, za, zb⟩
    obtain ⟨i, hI⟩ := List.mem_iff_getElem?.mp hx
    have li : i < ms.length := (List.getElem?_eq_some_iff.mp hI).1
    exact ((wh i x hI).sz (Nat.le_trans (Nat.mul_le_mul_right _ (show 4 + 3 * i ≤ 73 by omega)) (Nat.le_of_ble_eq_true rfl))).mono (by decide)
theorem ok_l_ladders {P : Program} {w : World} {K : PySem.W.Frag} {mg : Str → Option Value} {base : Heap} {φ : Fds} (T : Txt P K mg φ) : FnOk P w K mg base CX0 5 (He.fAd K ("_law_ladders", none)) φ.l_ladders p_l_ladders sp_ladders27 := by
  obtain ⟨_, B0v, B0⟩ := b_l_of_2 T
  obtain ⟨_, B1v, B1⟩ := b_l_scaled_2 T
  obtain ⟨_, B2v, B2⟩ := b_l_drawn_2 T
  refine T.f_l_ladders.ok sc_l_ladders (fun vs H Q E h => ?_) (fun cdv A outer s H vs Q E hr h => ?_)
  · obtain ⟨h, g, n, c, m, rfl, pt, hn, hc, m0, m1, fin⟩ := h; rfl
  · obtain ⟨h, g, n, c, m, rfl, pt, hn, hc, m0, m1, fin⟩ := h
    refine ⟨_, PSs.nox (pss_cons (ps_set (i := 3) sc_l_ladders.nd rfl (Or.inr rfl) (pe_call (ok_l_of (K := K) T) (hr.mono (by decide)) rfl T.g_l_of T.f_l_of.kp B0 B0v pass0 (pa_cons (pv 0) (pa_cons (pe_lst (pa_cons (pe_tup (pa_cons pe_int (pa_cons pe_int pa_nil))) (pa_cons (pe_tup (pa_cons pe_int (pa_cons pe_int pa_nil))) (pa_cons (pe_tup (pa_cons pe_int (pa_cons pe_int pa_nil))) (pa_cons (pe_tup (pa_cons (pe_op op_pow pe_int pe_int) (pa_cons pe_int pa_nil))) (pa_cons (pe_tup (pa_cons pe_int (pa_cons (pe_op op_add (pe_op op_pow pe_int pe_int) pe_int) pa_nil))) pa_nil)))))) pa_nil))))
      (pss_one (ps_ret (pe_lc (own := [("_law_k", 4)]) (g := gName 4) rfl sc_l_ladders.nd (pi_range1 rfl T.z_range (pa_cons (pv 1) pa_nil)) (blkOk_by (own := [("_law_k", 4)]) (N := N_l_ladders) (sc := (defScope s_l_ladders)) (by decide +kernel)) (fun _ _ _ _ _ => (pg_name (i := 4) sc_l_ladders.nd rfl (Or.inl rfl))) (fun _ _ _ _ _ => pts_nil) (fun _ _ _ _ _ => (pe_call (ok_l_scaled (K := K) T) (hr.mono (by decide)) rfl T.g_l_scaled T.f_l_scaled.kp B1 B1v pass0 (pa_cons (pe_call (ok_l_drawn (K := K) T) (hr.mono (by decide)) rfl T.g_l_drawn T.f_l_drawn.kp B2 B2v pass0 (pa_cons (pv 0) (pa_cons (pv 2) pa_nil))) (pa_cons (pv 3) pa_nil)))))))), ?_⟩
    walk_at "w"
    intro p0 np0
    have e0 : (upd H p0 (.tup [V.int 1, V.int 1])) p0 = some (.tup [V.int 1, V.int 1]) := upd_same
    have s0 := same1 (u := .tup [V.int 1, V.int 1]) np0
    generalize upd H p0 (.tup [V.int 1, V.int 1]) = HA0 at *
    walk_at "w"
    intro p1 np1
    have e1 : (upd HA0 p1 (.tup [V.int 1, V.int 1])) p1 = some (.tup [V.int 1, V.int 1]) := upd_same
    have s1 := same1 (u := .tup [V.int 1, V.int 1]) np1
    generalize upd HA0 p1 (.tup [V.int 1, V.int 1]) = HA1 at *
    walk_at "w"
    intro p2 np2
    have e2 : (upd HA1 p2 (.tup [V.int 1, V.int 1])) p2 = some (.tup [V.int 1, V.int 1]) := upd_same
    have s2 := same1 (u := .tup [V.int 1, V.int 1]) np2
    generalize upd HA1 p2 (.tup [V.int 1, V.int 1]) = HA2 at *
    walk_at "w"
    all_goals (try refine ⟨cp30, ?_⟩)
    walk_at "w"
    intro p3 np3
    have e3 : (upd HA2 p3 (.tup [V.int (10 ^ Int.toNat 30), V.int 7])) p3 = some (.tup [V.int (10 ^ Int.toNat 30), V.int 7]) := upd_same
    have s3 := same1 (u := .tup [V.int (10 ^ Int.toNat 30), V.int 7]) np3
    generalize upd HA2 p3 (.tup [V.int (10 ^ Int.toNat 30), V.int 7]) = HA3 at *
    walk_at "w"
    all_goals (try refine ⟨cp30, ?_⟩)
    walk_at "w"
    intro p4 np4
    have e4 : (upd HA3 p4 (.tup [V.int 1, V.int (10 ^ Int.toNat 30 + 57)])) p4 = some (.tup [V.int 1, V.int (10 ^ Int.toNat 30 + 57)]) := upd_same
    have s4 := same1 (u := .tup [V.int 1, V.int (10 ^ Int.toNat 30 + 57)]) np4
    generalize upd HA3 p4 (.tup [V.int 1, V.int (10 ^ Int.toNat 30 + 57)]) = HA4 at *
    walk_at "w"
    have e30 : (10 : Int) ^ Int.toNat 30 = 1000000000000000000000000000000 := by decide +kernel
    have e57 : (10 : Int) ^ Int.toNat 30 + 57 = 1000000000000000000000000000057 := by decide +kernel
    rw [e57] at e4
    rw [e30] at e3
    intro L nL
    have al : ∀ v ∈ [V.ref p0, V.ref p1, V.ref p2, V.ref p3, V.ref p4], ∃ (a : Addr) (q : Rat), v = .ref a ∧ HA4 a = some (PR q) ∧ 0 < q ∧ SzR 106 q := fun v hv => by
      simp only [List.mem_cons, List.not_mem_nil, or_false] at hv
      rcases hv with rfl | rfl | rfl | rfl | rfl
      · exact ⟨p0, (⟨1, 1, by decide, by decide⟩ : Rat), rfl, (((((Same.refl _).trans s1).trans s2).trans s3).trans s4) _ _ e0, by decide +kernel, by decide +kernel, by decide +kernel⟩
      · exact ⟨p1, (⟨1, 1, by decide, by decide⟩ : Rat), rfl, ((((Same.refl _).trans s2).trans s3).trans s4) _ _ e1, by decide +kernel, by decide +kernel, by decide +kernel⟩
      · exact ⟨p2, (⟨1, 1, by decide, by decide⟩ : Rat), rfl, (((Same.refl _).trans s3).trans s4) _ _ e2, by decide +kernel, by decide +kernel, by decide +kernel⟩
      · exact ⟨p3, (⟨1000000000000000000000000000000, 7, by decide, by decide +kernel⟩ : Rat), rfl, ((Same.refl _).trans s4) _ _ e3, by decide +kernel, by decide +kernel, by decide +kernel⟩
      · exact ⟨p4, (⟨1, 1000000000000000000000000000057, by decide, by decide +kernel⟩ : Rat), rfl, (Same.refl _) _ _ e4, by decide +kernel, by decide +kernel, by decide +kernel⟩
    have sA : Same H HA4 := ((((((Same.refl _).trans s0).trans s1).trans s2).trans s3).trans s4)
    have sL := sA.trans (same1 (u := .lst [V.ref p0, V.ref p1, V.ref p2, V.ref p3, V.ref p4]) nL)
    have sL1 := same1 (u := .lst [V.ref p0, V.ref p1, V.ref p2, V.ref p3, V.ref p4]) nL
    have hL : (upd HA4 L (.lst [V.ref p0, V.ref p1, V.ref p2, V.ref p3, V.ref p4])) L = some (.lst [V.ref p0, V.ref p1, V.ref p2, V.ref p3, V.ref p4]) := upd_same
    obtain ⟨ne1, ne2⟩ := (pt.same sA).nel nL
    generalize upd HA4 L (.lst [V.ref p0, V.ref p1, V.ref p2, V.ref p3, V.ref p4]) = HB at *
    have pB := pt.same sL
    refine ⟨h, g, L, n, _, rfl, pB, by omega, SqL.of hL, ne1, ne2, Nat.le_of_ble_eq_true rfl, Nat.le_of_ble_eq_true rfl, fun i v HC hv ptC kC => ?_⟩
    obtain ⟨sa, q, rfl, hq, q0, sq⟩ := al v (List.mem_of_getElem? hv)
    have hqC := pB.get kC (sL1 _ _ hq) rfl
    have kk := (Kp2.same sL).trans kC
    clear al hL pB kC pt sA sL sL1 hq
    walk_at "w"
    intro D nD
    refine lcLd (n := c) (c := 40) (m := n + 1) LdG (fun d q => q.ok.len0) walk_range (fun _ => trivial) (szs (by omega)) ptC nD (fun i x H1 H2 N M hi k1 pt1 yy hN => ?_) (fun H1 ys k1 pt1 hD ly al => fin D ys H1 (kk.non ptC nD) (kk.trans k1) pt1 hD ly al)
    obtain ⟨rfl, rfl⟩ := yy
    refine ⟨rfl, yesT ?_⟩
    have hq1 := ptC.get k1 hqC rfl
    walk_at "w"
    intro p d H3 k3 pt3 hp ok sz
    refine ⟨_, rfl, p, sa, d, q, 106, rfl, hp, pt1.get k3 hq1 rfl, sz.mono (by decide), sq, by decide, by decide, by have := ok.len1; omega, fun t H4 s4 ht => ?_⟩
    exact hN t (d.sc q) H4 (k3.trans (Kp2.same s4)) (pt3.same s4) ht ⟨ok.sc q0, sz.sc sq⟩
theorem ok_NoSize_init {P : Program} {w : World} {K : PySem.W.Frag} {mg : Str → Option Value} {base : Heap} {φ : Fds} (T : Txt P K mg φ) : FnOk P w K mg base CX0 1 (He.fAd K ("NoSize", some "__init__")) φ.NoSize_init p_NoSize_init (sp_err1 (He.ga K "NoSize") "number") := by
  refine fn_sup baseLE T.su_NoSize_init T.sc_NoSize rfl T.pfile T.ptop T.z_super scS_NoSize_init rfl rfl rfl (fun vs H Q E h => ?_) (fun _ => rfl) (fun _ => rfl) (fun _ => rfl) (fun _ _ _ _ => rfl) (fun A outer s H vs Q E h => ?_)
  · obtain ⟨a, y, rfl, _⟩ := h; rfl
  · obtain ⟨a, y, rfl, ha, h⟩ := h
    refine ⟨a, [y], rfl, ha, _, _, pa_cons pe_str pa_nil, (pss_cons (ps_ostG baseLE (pe_var (i := 0) rfl (.inl rfl)) (pe_var (i := 1) rfl (.inl rfl))) pss_nil), ?_⟩
    exact ⟨Nat.le_of_ble_eq_true rfl, ha, _, rfl, _, rfl, a, _, rfl, T.sc_NoSize.ox, T.xn_NoSize_number.no, .inl ⟨ha, h⟩⟩
theorem okX_is_whole {P : Program} {w : World} {K : PySem.W.Frag} {mg : Str → Option Value} {base : Heap} {φ : Fds} (T : Txt P K mg φ) : FnOk P w K mg base CX0 1 (He.fAd K ("is_whole", none)) φ.is_whole p_is_whole sp_iswX := by
  refine T.f_is_whole.ok sc_is_whole (fun vs H Q E h => ?_) (fun cdv A outer s H vs Q E hr h => ?_)
  · obtain ⟨v, kn, rfl, hk, kk⟩ := h; rfl
  · obtain ⟨v, kn, rfl, hk, kk⟩ := h
    refine ⟨_, PSs.nox (pss_one (ps_ret (pe_and (pe_callB (id := "isinstance") (isi (K := K)) (by rfl) T.z_isinstance (by decide +kernel) (pa_cons (pv 0) (pa_cons (pe_bltn (v := .ty "int") rfl T.z_int (by decide +kernel) rfl) pa_nil))) (pe_one (pe_not (pe_callB (id := "isinstance") (isi (K := K)) (by rfl) T.z_isinstance (by decide +kernel) (pa_cons (pv 0) (pa_cons (pe_bltn (v := .ty "bool") rfl T.z_bool (by decide +kernel) rfl) pa_nil)))))))), ?_⟩
    have ki := kind_is (K := K) (c := "int") hk (.inl rfl)
    have kb := kind_is (K := K) (c := "bool") hk (.inr (.inl rfl))
    refine ⟨_, rfl, _, _, _, _, _, rfl, .ty _, hk.ty, ki, _, rfl, ?_⟩
    rcases hk.names with rfl | rfl | rfl | rfl | rfl | rfl | rfl
    · exact iteF kk
    · refine iteT ⟨_, rfl, _, _, _, _, _, rfl, .ty _, hk.ty, kb, _, rfl, ?_⟩
      exact kk
    · refine iteT ⟨_, rfl, _, _, _, _, _, rfl, .ty _, hk.ty, kb, _, rfl, ?_⟩
      exact kk
    · exact iteF kk
    · exact iteF kk
    · exact iteF kk
    · exact iteF kk
theorem okX_has_size {P : Program} {w : World} {K : PySem.W.Frag} {mg : Str → Option Value} {base : Heap} {φ : Fds} (T : Txt P K mg φ) : FnOk P w K mg base CX0 2 (He.fAd K ("has_size", none)) φ.has_size p_has_size (sp_hasX K (He.ga K "Measure") (He.ga K "Ladder")) := by
  obtain ⟨_, B0v, B0⟩ := b_is_whole_1 T
  refine T.f_has_size.ok sc_has_size (fun vs H Q E h => ?_) (fun cdv A outer s H vs Q E hr h => ?_)
  · obtain ⟨p, k, zs, r, lo, hi, v, rfl, hL, ⟨hz, kn, hk, ho⟩, kk⟩ := h; rfl
  · obtain ⟨p, k, zs, r, lo, hi, v, rfl, hL, ⟨hz, kn, hk, ho⟩, kk⟩ := h
    refine ⟨_, PSs.nox (pss_one (ps_ret (pe_and (pe_call (okX_is_whole (K := K) T) (hr.mono (by decide)) rfl T.g_is_whole T.f_is_whole.kp B0 B0v pass0 (pa_cons (pv 1) pa_nil)) (pe_one (pe_chain op_le op_lt pe_int (pv 1) (pe_callB (id := "len") (lenS (K := K)) (by rfl) T.z_len PySem.boot_len (pa_cons (fldK (K := K) (pv 0) rfl) pa_nil))))))), ?_⟩
    have cl_Ladder := T.cl_Ladder
    have na_Ladder_marks := T.na_Ladder_marks
    have na_Ladder_rule := T.na_Ladder_rule
    have na_Ladder_least := T.na_Ladder_least
    have na_Ladder_most := T.na_Ladder_most
    
    obtain ⟨⟨dx, T', ps, l, h, hp, hT, hm, ql, qh⟩, l0, l1, hri, hru, hsp⟩ := hL
    have el : ps.length = zs.length := hm.len
    refine ⟨_, rfl, v, kn, rfl, hk, _, rfl, ?_⟩
    by_cases e : kn = "int"
    · obtain ⟨i, rfl, hi'⟩ := ho e
      rw [decide_eq_true e]
      refine iteT ?_
      repeat (first | apply @Exists.intro V | apply @Exists.intro Int | apply @Exists.intro Addr | apply @Exists.intro Bool | apply @Exists.intro (List V) | apply @Exists.intro Str | apply @Exists.intro Nat | refine And.intro (by walk_at "c") ?_)
      refine ite2 (fun e0 => ?_) (fun e0 => ?_)
      · have e0 : 0 ≤ i := of_decide_eq_true e0
        walk_at "w"
        show Q (.bl (decide (i < (ps.length : Int)))) H
        rw [decide_eq_false (by omega)]
        exact kk
      · exact kk
    · rw [decide_eq_false e]
      exact iteF kk
theorem okX_Ladder_stretch {P : Program} {w : World} {K : PySem.W.Frag} {mg : Str → Option Value} {base : Heap} {φ : Fds} (T : Txt P K mg φ) : FnOk P w K mg base (L2.CX P w) 7 (He.fAd K ("Ladder", some "stretch")) φ.Ladder_stretch p_Ladder_stretch (sp_strX K (He.ga K "Measure") (He.ga K "Ladder") (He.ga K "NoSize")) := by
  obtain ⟨_, B0v, B0⟩ := b_has_size_2 T
  obtain ⟨_, B1v, B1⟩ := b_Stretch_init_5 T
  obtain ⟨_, B2v, B2⟩ := b_Stretch_cut_2 T
  obtain ⟨_, B3v, B3⟩ := b_stretch_by_rule_3 T
  refine T.f_Ladder_stretch.ok sc_Ladder_stretch (fun vs H Q E h => ?_) (fun cdv A outer s H vs Q E hr h => ?_)
  · obtain ⟨p, k, zs, r, lo, hi, v, rfl, hL, ho, kE⟩ := h; rfl
  · obtain ⟨p, k, zs, r, lo, hi, v, rfl, hL, ho, kE⟩ := h
    refine ⟨_, (pss_cons (ps_if (pt_not (pt_val (pe_call (okX_has_size (K := K) T) (hr.mono (by decide)) rfl T.g_has_size T.f_has_size.kp B0 B0v pass0 (pa_cons (pv 0) (pa_cons (pv 1) pa_nil)))))
      (pss_one (ps_raise rfl (takes_of rfl rfl rfl rfl) (pmk_err1 baseLE T.sc_NoSize.ox T.si_NoSize.it T.si_NoSize.ty (ok_NoSize_init T) (hr.mono (by decide)) (bs_NoSize_init T) rfl T.g_NoSize (pa_cons (pv 1) pa_nil))))
      pss_nil)
      (pss_cons (ps_set (i := 2) sc_Ladder_stretch.nd rfl (Or.inl rfl) (pe_make T.mk_Stretch (ok_Stretch_init (K := K) T) (hr.mono (by decide)) rfl T.g_Stretch B1 B1v pass0 (pa_cons (fldK (K := K) (pv 0) rfl) (pa_cons (fldK (K := K) (pv 0) rfl) (pa_cons pe_bl (pa_cons pe_bl pa_nil))))))
      (pss_one (ps_ret (pe_meth (pe_call (ok_stretch_by_rule (K := K) T) (hr.mono (by decide)) rfl T.g_stretch_by_rule T.f_stretch_by_rule.kp B3 B3v pass0 (pa_cons (fldK (K := K) (pv 0) rfl) (pa_cons (fldK (K := K) (pv 0) rfl) (pa_cons (pv 1) pa_nil)))) T.cl_Stretch T.me_Stretch_cut (ok_Stretch_cut (K := K) T) (hr.mono (by decide)) B2 B2v pass0 (pa_cons (pv 2) pa_nil)))))), ?_⟩
    refine ⟨_, rfl, _, rfl, p, k, zs, r, lo, hi, v, rfl, hL, ho, _, rfl, iteT ?_⟩
    exact ⟨_, rfl, _, rfl, fun d nd => kE d nd⟩
theorem okX_common_measures {P : Program} {w : World} {K : PySem.W.Frag} {mg : Str → Option Value} {base : Heap} {φ : Fds} (T : Txt P K mg φ) : FnOk P w K mg base (L2.CX P w) 8 (He.fAd K ("common_measures", none)) φ.common_measures p_common_measures (sp_leadX K (He.ga K "Measure") (He.ga K "Ladder") (He.ga K "NoSize")) := by
  obtain ⟨_, B0v, B0⟩ := b_Ladder_stretch_2 T
  obtain ⟨_, B1v, B1⟩ := b_Ladder_len_1 T
  obtain ⟨_, B2v, B2⟩ := b_shared_by_2 T
  refine T.f_common_measures.ok sc_common_measures (fun vs H Q E h => ?_) (fun cdv A outer s H vs Q E hr h => ?_)
  · obtain ⟨p, k, zs, r, lo, hi, v, u, rfl, hL, ho, kE⟩ := h; rfl
  · obtain ⟨p, k, zs, r, lo, hi, v, u, rfl, hL, ho, kE⟩ := h
    refine ⟨_, (pss_cons (ps_set (i := 3) sc_common_measures.nd rfl (Or.inr rfl) (pe_meth (pv 0) T.cl_Ladder T.me_Ladder_stretch (okX_Ladder_stretch (K := K) T) (hr.mono (by decide)) B0 B0v (passes_call (takes_of rfl rfl rfl rfl) (fun _ _ _ _ h => h)) (pa_cons (pv 1) pa_nil)))
      (pss_one (ps_ret (pe_lc (own := [("size", 4)]) (g := gName 4) rfl sc_common_measures.nd (pi_range1 rfl T.z_range (pa_cons (pe_callB (id := "len") (call_lenO (ok_Ladder_len (K := K) T) T.me_Ladder_len (bnil B1v B1) pass0 (hr.mono (by decide))) (by rfl) T.z_len PySem.boot_len (pa_cons (pv 2) pa_nil)) pa_nil)) (blkOk_by (own := [("size", 4)]) (N := N_common_measures) (sc := (defScope s_common_measures)) (by decide +kernel)) (fun _ _ _ _ _ => (pg_name (i := 4) sc_common_measures.nd rfl (Or.inl rfl))) (fun _ _ _ _ _ => pts_nil) (fun _ _ _ _ _ => (pe_call (ok_shared_by (K := K) T) (hr.mono (by decide)) rfl T.g_shared_by T.f_shared_by.kp B2 B2v pass0 (pa_cons (pv 3) (pa_cons (pe_meth (pv 2) T.cl_Ladder T.me_Ladder_stretch (ok_Ladder_stretch (K := K) T) (hr.mono (by decide)) B0 B0v pass0 (pa_cons (pv 4) pa_nil)) pa_nil)))))))), ?_⟩
    have cl_Ladder := T.cl_Ladder
    have na_Ladder_marks := T.na_Ladder_marks
    have na_Ladder_rule := T.na_Ladder_rule
    have na_Ladder_least := T.na_Ladder_least
    have na_Ladder_most := T.na_Ladder_most
    
    refine ⟨_, rfl, meth_l hL (by decide +kernel) (by decide +kernel) (by decide +kernel) (by decide +kernel) ⟨_, rfl, p, k, zs, r, lo, hi, v, rfl, hL, ho, fun d nd => kE d nd⟩⟩
theorem okX_led {P : Program} {w : World} {K : PySem.W.Frag} {mg : Str → Option Value} {base : Heap} {φ : Fds} (T : Txt P K mg φ) : FnOk P w K mg base (L2.CX P w) 9 (He.fAd K ("led", none)) φ.led p_led (sp_leadX K (He.ga K "Measure") (He.ga K "Ladder") (He.ga K "NoSize")) := by
  obtain ⟨_, B0v, B0⟩ := b_common_measures_3 T
  refine T.f_led.ok sc_led (fun vs H Q E h => ?_) (fun cdv A outer s H vs Q E hr h => ?_)
  · obtain ⟨p, k, zs, r, lo, hi, v, u, rfl, hL, ho, kE⟩ := h; rfl
  · obtain ⟨p, k, zs, r, lo, hi, v, u, rfl, hL, ho, kE⟩ := h
    refine ⟨_, (pss_cons (ps_set (i := 3) sc_led.nd rfl (Or.inl rfl) (pe_call (okX_common_measures (K := K) T) (hr.mono (by decide)) rfl T.g_common_measures T.f_common_measures.kp B0 B0v (passes_call (takes_of rfl rfl rfl rfl) (fun _ _ _ _ h => h)) (pa_cons (pv 0) (pa_cons (pv 1) (pa_cons (pv 2) pa_nil)))))
      (pss_cons (ps_setLc (i := 4) (own := [("size", 5), ("measure", 6)]) (g := gTup K 2 (gCons (gName 5) (gCons (gName 6) (gNil)))) rfl sc_led.nd rfl rfl (sw_true rfl rfl rfl (by decide +kernel)) (pi_enum (by rfl) T.z_enumerate (pa_cons (pv 3) pa_nil)) (blkOk_by (own := [("size", 5), ("measure", 6)]) (N := N_led) (sc := (defScope s_led)) (by decide +kernel)) (fun _ _ _ _ _ => (pg_tup rfl (pgs_cons (pg_name (i := 5) sc_led.nd rfl (Or.inl rfl)) (pgs_cons (pg_name (i := 6) sc_led.nd rfl (Or.inl rfl)) pgs_nil)))) (fun _ _ _ _ _ => (pts_one (pt_cmpR op_notN (pv 6) pe_non (nomark _)))) (fun _ _ _ _ _ => (pv 5)))
      (pss_cons (ps_if (pt_cmpR op_eq (pe_callB (id := "len") (lenS (K := K)) (by rfl) T.z_len PySem.boot_len (pa_cons (pv 4) pa_nil)) pe_int (nomark _))
      (pss_one (ps_ret pe_non))
      pss_nil)
      (pss_one (ps_ret (pe_tup (pa_cons (pe_ix (ixl (K := K)) (pv 4) pe_int (fun _ _ => rfl)) (pa_cons (pe_ix (ixl (K := K)) (pv 4) (pe_un un_neg pe_int) (fun _ _ => rfl)) pa_nil)))))))), ?_⟩
    refine ⟨_, rfl, _, rfl, _, rfl, p, k, zs, r, lo, hi, v, u, rfl, hL, ho, fun d nd => kE d nd⟩
theorem okX_led_paper {P : Program} {w : World} {K : PySem.W.Frag} {mg : Str → Option Value} {base : Heap} {φ : Fds} (T : Txt P K mg φ) : FnOk P w K mg base (L2.CX P w) 9 (He.fAd K ("led_paper", none)) φ.led_paper p_led_paper (sp_leadX K (He.ga K "Measure") (He.ga K "Ladder") (He.ga K "NoSize")) := by
  obtain ⟨_, B0v, B0⟩ := b_common_measures_3 T
  refine T.f_led_paper.ok sc_led_paper (fun vs H Q E h => ?_) (fun cdv A outer s H vs Q E hr h => ?_)
  · obtain ⟨p, k, zs, r, lo, hi, v, u, rfl, hL, ho, kE⟩ := h; rfl
  · obtain ⟨p, k, zs, r, lo, hi, v, u, rfl, hL, ho, kE⟩ := h
    refine ⟨_, (pss_one (ps_ret (pe_callTy (T := "tuple") (tupleL (K := K)) (by rfl) T.z_tuple (by decide +kernel) (pa_cons (pe_lc (own := [("measure", 3)]) (g := gName 3) rfl sc_led_paper.nd (pi_list (pe_call (okX_common_measures (K := K) T) (hr.mono (by decide)) rfl T.g_common_measures T.f_common_measures.kp B0 B0v (passes_call (takes_of rfl rfl rfl rfl) (fun _ _ _ _ h => h)) (pa_cons (pv 0) (pa_cons (pv 1) (pa_cons (pv 2) pa_nil))))) (blkOk_by (own := [("measure", 3)]) (N := N_led_paper) (sc := (defScope s_led_paper)) (by decide +kernel)) (fun _ _ _ _ _ => (pg_name (i := 3) sc_led_paper.nd rfl (Or.inl rfl))) (fun _ _ _ _ _ => (pts_one (pt_cmpR op_notN (pv 3) pe_non (nomark _)))) (fun _ _ _ _ _ => (pv 3))) pa_nil)))), ?_⟩
    refine ⟨_, rfl, _, rfl, _, rfl, p, k, zs, r, lo, hi, v, u, rfl, hL, ho, fun d nd => kE d nd⟩
theorem okX_l_asked {P : Program} {w : World} {K : PySem.W.Frag} {mg : Str → Option Value} {base : Heap} {φ : Fds} (T : Txt P K mg φ) : FnOk P w K mg base (L2.CX P w) 10 (He.fAd K ("_law_asked", none)) φ.l_asked p_l_asked (sp_askedX K (He.ga K "Measure") (He.ga K "Ladder") (He.ga K "NoSize")) := by
  obtain ⟨_, B0v, B0⟩ := b_led_paper_3 T
  obtain ⟨_, B1v, B1⟩ := b_led_3 T
  refine T.f_l_asked.ok sc_l_asked (fun vs H Q E h => ?_) (fun cdv A outer s H vs Q E hr h => ?_)
  · obtain ⟨b, p, k, zs, r, lo, hi, v, u, rfl, hL, ho, kE⟩ := h; rfl
  · obtain ⟨b, p, k, zs, r, lo, hi, v, u, rfl, hL, ho, kE⟩ := h
    refine ⟨_, (pss_one (ps_ret (pe_ifExp (pt_val (pv 0)) (pe_call (okX_led_paper (K := K) T) (hr.mono (by decide)) rfl T.g_led_paper T.f_led_paper.kp B0 B0v (passes_call (takes_of rfl rfl rfl rfl) (fun _ _ _ _ h => h)) (pa_cons (pv 1) (pa_cons (pv 2) (pa_cons (pv 3) pa_nil)))) (pe_call (okX_led (K := K) T) (hr.mono (by decide)) rfl T.g_led T.f_led.kp B1 B1v (passes_call (takes_of rfl rfl rfl rfl) (fun _ _ _ _ h => h)) (pa_cons (pv 1) (pa_cons (pv 2) (pa_cons (pv 3) pa_nil))))))), ?_⟩
    cases b
    · refine ⟨_, rfl, _, rfl, iteF ?_⟩
      exact ⟨_, rfl, _, rfl, _, rfl, p, k, zs, r, lo, hi, v, u, rfl, hL, ho, fun d nd => kE d nd⟩
    · refine ⟨_, rfl, _, rfl, iteT ?_⟩
      exact ⟨_, rfl, _, rfl, _, rfl, p, k, zs, r, lo, hi, v, u, rfl, hL, ho, fun d nd => kE d nd⟩
theorem ok_l_caught {P : Program} {w : World} {K : PySem.W.Frag} {mg : Str → Option Value} {base : Heap} {φ : Fds} (T : Txt P K mg φ)   : FnG P w K mg base CX0 11 (He.fAd K ("_law_caught", none)) φ.l_caught p_l_caught (sp_caught26 K (He.ga K "Measure") (He.ga K "Ladder")) := by
  obtain ⟨_, B0v, B0⟩ := b_l_asked_4 T
  refine okG T.f_l_caught sc_l_caught (fun vs H Q E h => ?_) (fun cdv A outer s H vs Q E hr gd h => ?_)
  · obtain ⟨b, p, k, zs, r, lo, hi, v, u, rfl, hL, ho, kk⟩ := h; rfl
  · obtain ⟨b, p, k, zs, r, lo, hi, v, u, rfl, hL, ho, kk⟩ := h
    refine ⟨_, PSs.nox (pss_cons (ps_asg (pe_tup (pa_cons pe_bl (pa_cons pe_non pa_nil))) (pg_tup rfl (pgs_cons (pg_name (i := 4) sc_l_caught.nd rfl (Or.inl rfl)) (pgs_cons (pg_name (i := 5) sc_l_caught.nd rfl (Or.inl rfl)) pgs_nil))))
      (pss_cons (ps_tryK (i := 6) rfl rfl sc_l_caught.nd rfl rfl rfl (fun W pn xe tk _ => (pss_one (ps_expr (pe_callS (okX_l_asked (K := K) T) (hr.mono (by decide)) rfl T.g_l_asked T.f_l_asked.kp (bnil B0v B0) (fun σ => passAt tk σ) (pa_cons (pv 0) (pa_cons (pv 1) (pa_cons (pv 2) (pa_cons (pv 3) pa_nil)))))))) (KClauses.named ⟨rfl, by decide, .inl T.g_LandError⟩ (fun a oe cls d pn hz hf => (pss_one (ps_set (i := 4) sc_l_caught.nd rfl (Or.inl rfl) (pe_and (pe_callB (id := "isinstance") (isY (K := K) hz hf) (by rfl) T.z_isinstance (by decide +kernel) (pa_cons (pv 6) (pa_cons (pe_glob (v := .ref (He.ga K "NoSize")) rfl T.g_NoSize rfl) pa_nil))) (pe_and (pe_callB (id := "isinstance") (isY (K := K) hz hf) (by rfl) T.z_isinstance (by decide +kernel) (pa_cons (pv 6) (pa_cons (pe_bltn (v := .ty "LookupError") rfl T.z_LookupError (by decide +kernel) rfl) pa_nil))) (pe_one (pe_not (pe_callB (id := "isinstance") (isYT (K := K) hz hf) (by rfl) T.z_isinstance (by decide +kernel) (pa_cons (pv 6) (pa_cons (pe_tup (pa_cons (pe_glob (v := .ref (He.ga K "NoLand")) rfl T.g_NoLand rfl) (pa_cons (pe_glob (v := .ref (He.ga K "LandTwice")) rfl T.g_LandTwice rfl) pa_nil))) pa_nil)))))))))) KClauses.none))
      (pss_cons (ps_tryK (i := 6) rfl rfl sc_l_caught.nd rfl rfl rfl (fun W pn xe tk _ => (pss_one (ps_expr (pe_callS (okX_l_asked (K := K) T) (hr.mono (by decide)) rfl T.g_l_asked T.f_l_asked.kp (bnil B0v B0) (fun σ => passAt tk σ) (pa_cons (pv 0) (pa_cons (pv 1) (pa_cons (pv 2) (pa_cons (pv 3) pa_nil)))))))) (KClauses.named ⟨rfl, by decide, .inl T.g_NoSize⟩ (fun a oe cls d pn hz hf => (pss_one (ps_set (i := 5) sc_l_caught.nd rfl (Or.inl rfl) (pe_xf T.xn_NoSize_number.c T.xn_NoSize_number.no hz hf (pv 6))))) (KClauses.bare ⟨rfl, by decide, .inl T.g_LadderError⟩ (fun a oe cls d pn hz hf => (pss_one (ps_set (i := 4) sc_l_caught.nd rfl (Or.inl rfl) pe_bl))) KClauses.none)))
      (pss_one (ps_ret (pe_and (pv 4) (pe_one (pe_cmpR op_eq (pe_callB (id := "repr") (call_reprX gd hr) (by rfl) T.z_repr (by decide +kernel) (pa_cons (pv 5) pa_nil)) (pe_callB (id := "repr") (call_reprX gd hr) (by rfl) T.z_repr (by decide +kernel) (pa_cons (pv 2) pa_nil)) (nomark _))))))))), ?_⟩
    have cl_Ladder := T.cl_Ladder
    have na_Ladder_marks := T.na_Ladder_marks
    have na_Ladder_rule := T.na_Ladder_rule
    have na_Ladder_least := T.na_Ladder_least
    have na_Ladder_most := T.na_Ladder_most
    
    walk_at "f"
    intro p0 np0
    have h0 : (upd H p0 (.tup [V.bl false, V.non])) p0 = some (.tup [V.bl false, V.non]) := upd_same
    have s0 := same1 (u := .tup [V.bl false, V.non]) np0
    have hL0 := hL.same s0
    have ho0 := ho.same s0
    generalize upd H p0 (.tup [V.bl false, V.non]) = H0 at *
    have sT0 := SqT.of (K := K) h0
    clear hL ho
    walk_at "f"
    refine ⟨zs, r, lo, hi, v, u, rfl, hL0, ho0, fun d nd => ?_⟩
    refine ⟨true, T.xm_NoSize_LandError, fun _ q nq => ?_, fun z => nomatch z⟩
    have hd : (upd H0 d (.xd [("number", v)])) d = some (.xd [("number", v)]) := upd_same
    have sd := same1 (u := .xd [("number", v)]) nd
    have hL1 := hL0.same sd
    have ho1 := ho0.same sd
    generalize upd H0 d (.xd [("number", v)]) = H1 at *
    refine ⟨_, rfl, _, rfl, .inr ⟨d, _, rfl, hd⟩, T.xc_NoSize, _, _, true, rfl, fun u h => h, T.k_NoSize_NoSize, ?_⟩
    refine ⟨_, rfl, iteT ?_⟩
    refine ⟨_, rfl, _, rfl, .inr ⟨d, _, rfl, hd⟩, T.xc_NoSize, _, _, true, rfl, fun u h => h, T.k_NoSize_LookupError, ?_⟩
    refine ⟨_, rfl, iteT ?_⟩
    refine ⟨_, rfl, by show 2 ≤ sizeLine; decide, fun tp ntp => ?_⟩
    have stp := same1 (u := .tup [V.ref (He.ga K "NoLand"), V.ref (He.ga K "LandTwice")]) ntp
    refine ⟨_, tp, _, _, false, rfl, .inr ⟨d, _, rfl, stp _ _ hd⟩, T.xc_NoSize, rfl, upd_same, .cons (.own _) (.cons (.own _) .nil), kitAny_cons T.k_NoSize_NoLand (fun _ => kitAny_cons T.k_NoSize_LandTwice (fun _ => kitAny_nil) (fun z => nomatch z)) (fun z => nomatch z), ?_⟩
    refine ⟨_, rfl, ?_⟩
    intro nq1
    have sq1 := stp.trans (same1 (u := errO (.ref (He.ga K "NoSize")) (some d) q) nq1)
    have hL2 := hL1.same sq1
    have ho2 := ho1.same sq1
    have s02 := (s0.trans sd).trans sq1
    generalize upd (upd H1 tp (.tup [V.ref (He.ga K "NoLand"), V.ref (He.ga K "LandTwice")])) q (errO (.ref (He.ga K "NoSize")) (some d) q) = H2 at *
    clear hL0 ho0 hL1 ho1 hd sd ntp stp sq1 nq1 nq nd h0 s0 sT0
    refine ⟨_, rfl, _, rfl, _, rfl, _, rfl, b, p, k, zs, r, lo, hi, v, u, rfl, hL2, ho2, fun d2 nd2 => ?_⟩
    refine ⟨true, T.xm_NoSize_NoSize, fun _ q2 nq2 => ?_, fun z => nomatch z⟩
    have hd2 : (upd H2 d2 (.xd [("number", v)])) d2 = some (.xd [("number", v)]) := upd_same
    have sd2 := same1 (u := .xd [("number", v)]) nd2
    have ho3 := ho2.same sd2
    have s03 := s02.trans sd2
    generalize upd H2 d2 (.xd [("number", v)]) = H3 at *
    refine ⟨_, rfl, rfl, rfl, d2, _, v, rfl, hd2, rfl, ?_⟩
    intro nq3
    have sq3 := same1 (u := errO (.ref (He.ga K "NoSize")) (some d2) q2) nq3
    have ho4 := ho3.same sq3
    have s04 := s03.trans sq3
    generalize upd H3 q2 (errO (.ref (He.ga K "NoSize")) (some d2) q2) = H4 at *
    obtain ⟨⟨z, hz⟩, _⟩ := ho4
    refine ⟨_, rfl, _, rfl, iteT ?_⟩
    refine ⟨_, rfl, v, z, rfl, hz, ?_⟩
    refine ⟨_, rfl, v, z, rfl, hz, ?_⟩
    have e : decide (V.str z = V.str z) = true := decide_eq_true rfl
    walk_at "f"
    rw [e]
    exact kk _ s04
theorem ok_Measure_repr {P : Program} {w : World} {K : PySem.W.Frag} {mg : Str → Option Value} {base : Heap} {φ : Fds} (T : Txt P K mg φ) : FnOk P w K mg base CX0 1 (He.fAd K ("Measure", some "__repr__")) φ.Measure_repr p_Measure_repr (sp_mrep (He.ga K "Measure")) := by
  refine T.f_Measure_repr.ok sc_Measure_repr (fun vs H Q E h => ?_) (fun cdv A outer s H vs Q E hr h => ?_)
  · obtain ⟨p, t, u, rfl, ⟨dx, hp⟩, st, su, k⟩ := h; rfl
  · obtain ⟨p, t, u, rfl, ⟨dx, hp⟩, st, su, k⟩ := h
    refine ⟨_, PSs.nox (pss_one (ps_ret (pe_joined (PJ.cons pe_str (PJ.cons (pe_fmt (fldK (K := K) (pv 0) rfl)) (PJ.cons pe_str (PJ.cons (pe_fmt (fldK (K := K) (pv 0) rfl)) (PJ.cons pe_str PJ.nil)))))))), ?_⟩
    have l1 := iT_len st
    have l2 := iT_len su
    have l1' : (Str.ofString (toString t)).length ≤ 1921 := l1
    have l2' : (Str.ofString (toString u)).length ≤ 1921 := l2
    have e0 : Str.empty.length = 0 := rfl
    have e1 : (Str.ofString "Measure(").length = 8 := rfl
    have e2 : (Str.ofString ", ").length = 2 := rfl
    have e3 : (Str.ofString ")").length = 1 := rfl
    refine ⟨_, rfl, ?_, _, rfl, _, _, _, _, _, rfl, hp, T.cl_Measure, T.na_Measure_top, mf_top _ _, .inr ⟨_, rfl, st.log' (by decide) (by decide), _, rfl, ?_, _, rfl, ?_, _, rfl, _, _, _, _, _, rfl, hp, T.cl_Measure, T.na_Measure_bottom, mf_bottom _ _, .inr ⟨_, rfl, su.log' (by decide) (by decide), _, rfl, ?_, _, rfl, ?_, k⟩⟩⟩
    all_goals (rw [sizeLine_eq]; simp only [Str.length_append]; omega)
theorem ok_l_right {P : Program} {w : World} {K : PySem.W.Frag} {mg : Str → Option Value} {base : Heap} {φ : Fds} (T : Txt P K mg φ)   : FnG P w K mg base CX0 12 (He.fAd K ("_law_right", none)) φ.l_right p_l_right sp_right26 := by
  obtain ⟨_, B0v, B0⟩ := b_l_made_1 T
  obtain ⟨_, B1v, B1⟩ := b_l_pick_2 T
  obtain ⟨_, B2v, B2⟩ := b_l_met_2 T
  obtain ⟨_, B3v, B3⟩ := b_l_part_2 T
  obtain ⟨_, B4v, B4⟩ := b_led_3 T
  obtain ⟨_, B5⟩ := b_led_0_other_number_one T
  obtain ⟨_, B6⟩ := b_led_paper_0_other_one_number T
  obtain ⟨_, B7v, B7⟩ := b_Measure_repr_1 T
  obtain ⟨_, B8v, B8⟩ := b_led_paper_3 T
  obtain ⟨_, B9⟩ := b_shows_led_0_paper_number_run_other_one T
  obtain ⟨_, B10v, B10⟩ := b_l_caught_4 T
  refine okG T.f_l_right sc_l_right (fun vs H Q E h => ?_) (fun cdv A outer s H vs Q E hr gd h => ?_)
  · obtain ⟨h, g, p, q, n, d, e, rfl, pt, hn, hp, hq, gD, gE, fin⟩ := h; rfl
  · obtain ⟨h, g, p, q, n, d, e, rfl, pt, hn, hp, hq, gD, gE, fin⟩ := h
    refine ⟨_, PSs.nox (pss_cons (ps_asg (pe_tup (pa_cons (pe_call (ok_l_made (K := K) T) (hr.mono (by decide)) rfl T.g_l_made T.f_l_made.kp B0 B0v pass0 (pa_cons (pv 1) pa_nil)) (pa_cons (pe_call (ok_l_made (K := K) T) (hr.mono (by decide)) rfl T.g_l_made T.f_l_made.kp B0 B0v pass0 (pa_cons (pv 2) pa_nil)) (pa_cons (pe_callB (id := "len") (lenS (K := K)) (by rfl) T.z_len PySem.boot_len (pa_cons (pe_ix (ixt (K := K)) (pv 1) pe_int (fun _ _ => rfl)) pa_nil)) pa_nil)))) (pg_tup rfl (pgs_cons (pg_name (i := 3) sc_l_right.nd rfl (Or.inr rfl)) (pgs_cons (pg_name (i := 4) sc_l_right.nd rfl (Or.inr rfl)) (pgs_cons (pg_name (i := 5) sc_l_right.nd rfl (Or.inr rfl)) pgs_nil)))))
      (pss_cons (ps_cut (ps_for PassesOwn.never rfl (pi_list (pe_cut (pe_ifExp (pt_cmpR op_lt (pv 5) pe_int (nomark _)) (pe_listRg rfl (by rfl) T.z_list (prg_1 (by rfl) T.z_range (pv 5))) (pe_lc (own := [("_law_k", 11)]) (g := gName 11) rfl sc_l_right.nd (pi_range1 rfl T.z_range (pa_cons pe_int pa_nil)) (blkOk_by (own := [("_law_k", 11)]) (N := N_l_right) (sc := (defScope s_l_right)) (by decide +kernel)) (fun _ _ _ _ _ => (pg_name (i := 11) sc_l_right.nd rfl (Or.inl rfl))) (fun _ _ _ _ _ => pts_nil) (fun _ _ _ _ _ => (pe_call (ok_l_pick (K := K) T) (hr.mono (by decide)) rfl T.g_l_pick T.f_l_pick.kp B1 B1v pass0 (pa_cons (pv 0) (pa_cons (pv 5) pa_nil)))))))) (pg_name (i := 6) sc_l_right.nd rfl (Or.inl rfl))
      (pss_cons (ps_set (i := 7) sc_l_right.nd rfl (Or.inl rfl) (pe_callB (id := "repr") (call_reprD gd hr) (by rfl) T.z_repr (by decide +kernel) (pa_cons (pe_call (ok_l_met (K := K) T) (hr.mono (by decide)) rfl T.g_l_met T.f_l_met.kp B2 B2v pass0 (pa_cons (pe_call (ok_l_part (K := K) T) (hr.mono (by decide)) rfl T.g_l_part T.f_l_part.kp B3 B3v pass0 (pa_cons (pv 1) (pa_cons (pv 6) pa_nil))) (pa_cons (pv 2) pa_nil))) pa_nil)))
      (pss_one (ps_if (pt_cmpR op_ne (pe_callB (id := "repr") (call_reprD gd hr) (by rfl) T.z_repr (by decide +kernel) (pa_cons (pe_call (ok_led (K := K) T) (hr.mono (by decide)) rfl T.g_led T.f_led.kp B4 B4v pass0 (pa_cons (pv 3) (pa_cons (pv 6) (pa_cons (pv 4) pa_nil)))) pa_nil)) (pv 7) (nomark _))
      (pss_one (ps_ret pe_bl))
      pss_nil)))))
      (pss_cons (ps_cut (ps_set (i := 7) sc_l_right.nd rfl (Or.inl rfl) (pe_callB (id := "repr") (call_reprD gd hr) (by rfl) T.z_repr (by decide +kernel) (pa_cons (pe_call (ok_l_met (K := K) T) (hr.mono (by decide)) rfl T.g_l_met T.f_l_met.kp B2 B2v pass0 (pa_cons (pe_call (ok_l_part (K := K) T) (hr.mono (by decide)) rfl T.g_l_part T.f_l_part.kp B3 B3v pass0 (pa_cons (pv 1) (pa_cons pe_int pa_nil))) (pa_cons (pv 2) pa_nil))) pa_nil))))
      (pss_cons (ps_cut (ps_if (pt_cmpR op_ne (pe_callB (id := "repr") (call_reprD gd hr) (by rfl) T.z_repr (by decide +kernel) (pa_cons (pe_callK0 (ok_led (K := K) T) (hr.mono (by decide)) rfl T.g_led T.f_led.kp B5 pass0 (pk_cons (pv 4) (pk_cons pe_int (pk_cons (pv 3) pk_nil)))) pa_nil)) (pv 7) (nomark _))
      (pss_one (ps_ret pe_bl))
      pss_nil))
      (pss_cons (ps_cut (ps_par (i := 8) (j := 9) rfl sc_l_right.nd rfl rfl (by decide) rfl rfl (pa_cons (pe_call (ok_led (K := K) T) (hr.mono (by decide)) rfl T.g_led T.f_led.kp B4 B4v pass0 (pa_cons (pv 3) (pa_cons pe_int (pa_cons (pv 4) pa_nil)))) (pa_cons (pe_callK0 (ok_led_paper (K := K) T) (hr.mono (by decide)) rfl T.g_led_paper T.f_led_paper.kp B6 pass0 (pk_cons (pv 4) (pk_cons (pv 3) (pk_cons pe_int pk_nil)))) pa_nil)) (by rfl)))
      (pss_cons (ps_cut (ps_if (pt_cmpR op_ne (pe_callB (id := "repr") (call_reprT gd (ok_Measure_repr (K := K) T) T.me_Measure_repr (bnil B7v B7) pass0 (hr.mono (by decide))) (by rfl) T.z_repr (by decide +kernel) (pa_cons (pv 9) pa_nil)) (pe_callB (id := "repr") (call_reprT gd (ok_Measure_repr (K := K) T) T.me_Measure_repr (bnil B7v B7) pass0 (hr.mono (by decide))) (by rfl) T.z_repr (by decide +kernel) (pa_cons (pe_call (ok_led_paper (K := K) T) (hr.mono (by decide)) rfl T.g_led_paper T.f_led_paper.kp B8 B8v pass0 (pa_cons (pv 3) (pa_cons pe_int (pa_cons (pv 4) pa_nil)))) pa_nil)) (nomark _))
      (pss_one (ps_ret pe_bl))
      pss_nil))
      (pss_cons (ps_cut (ps_if (pt_cmpR op_notBl (pe_callK0 (ok_shows_led (K := K) T) (hr.mono (by decide)) rfl T.g_shows_led T.f_shows_led.kp B9 pass0 (pk_cons (pv 9) (pk_cons pe_int (pk_cons (pv 8) (pk_cons (pv 4) (pk_cons (pv 3) pk_nil)))))) pe_bl (nomark _))
      (pss_one (ps_ret pe_bl))
      pss_nil))
      (pss_cons (ps_cut (ps_set (i := 10) sc_l_right.nd rfl (Or.inl rfl) (pe_lst (pa_cons (pv 5) (pa_cons (pe_un un_neg pe_int) (pa_cons (pe_op op_add (pv 5) pe_int) (pa_cons pe_non (pa_cons pe_bl (pa_cons pe_bl (pa_cons pe_str (pa_cons pe_str (pa_cons (pe_tup (pa_cons pe_int pa_nil)) (pa_cons (pe_tup pa_nil) (pa_cons (pe_lst (pa_cons pe_int pa_nil)) (pa_cons pe_dnewK (pa_cons (pe_tup (pa_cons pe_str pa_nil)) (pa_cons (pe_op op_pow pe_int pe_int) (pa_cons (pe_op op_sub pe_int (pv 5)) pa_nil))))))))))))))))))
      (pss_cons (ps_cut (ps_if (pt_not (pt_val (pe_callB (id := "all") (allK (K := K)) (by rfl) T.z_all (by decide +kernel) (pa_cons (pe_lc (own := [("_law_thing", 12)]) (g := gName 12) rfl sc_l_right.nd (pi_list (pv 10)) (blkOk_by (own := [("_law_thing", 12)]) (N := N_l_right) (sc := (defScope s_l_right)) (by decide +kernel)) (fun _ _ _ _ _ => (pg_name (i := 12) sc_l_right.nd rfl (Or.inl rfl))) (fun _ _ _ _ _ => pts_nil) (fun _ _ _ _ _ => (pe_callG (ok_l_caught (K := K) T) gd (hr.mono (by decide)) rfl T.g_l_caught T.f_l_caught.kp B10 B10v pass0 (pa_cons pe_bl (pa_cons (pv 3) (pa_cons (pv 12) (pa_cons (pv 4) pa_nil))))))) pa_nil))))
      (pss_one (ps_ret pe_bl))
      pss_nil))
      (pss_one (ps_ret (pe_callB (id := "all") (allK (K := K)) (by rfl) T.z_all (by decide +kernel) (pa_cons (pe_lc (own := [("_law_thing", 12)]) (g := gName 12) rfl sc_l_right.nd (pi_list (pv 10)) (blkOk_by (own := [("_law_thing", 12)]) (N := N_l_right) (sc := (defScope s_l_right)) (by decide +kernel)) (fun _ _ _ _ _ => (pg_name (i := 12) sc_l_right.nd rfl (Or.inl rfl))) (fun _ _ _ _ _ => pts_nil) (fun _ _ _ _ _ => (pe_callG (ok_l_caught (K := K) T) gd (hr.mono (by decide)) rfl T.g_l_caught T.f_l_caught.kp B10 B10v pass0 (pa_cons pe_bl (pa_cons (pv 3) (pa_cons (pv 12) (pa_cons (pv 4) pa_nil))))))) pa_nil))))))))))))), ?_⟩
    have cl_Measure := T.cl_Measure
    have na_Measure_top := T.na_Measure_top
    have na_Measure_bottom := T.na_Measure_bottom
    
    obtain ⟨M, u, w', vs, h1, h2, ⟨r1, r2⟩, h4, h5⟩ := id hp.ob
    have l24 := gD.ok.len1
    have l25 := gE.ok.len1
    walk_at "f"
    all_goals (try refine ⟨d, 140, rfl, hp, gD.ok, gD.sz, by decide, by decide, fun x1 H1 s1 A1 => ?_⟩)
    walk_at "f"
    all_goals (try refine ⟨e, 140, rfl, hq.same s1, gE.ok, gE.sz, by decide, by decide, fun x2 H2 s2 A2 => ?_⟩)
    have h1' := (s1.trans s2) _ _ h1
    have h2' := (s1.trans s2) _ _ h2
    walk_at "f"
    intro TP nT
    have sT := same1 (u := .tup [V.ref x1, V.ref x2, V.int (vs.length : Int)]) nT
    have hT : (upd H2 TP (.tup [V.ref x1, V.ref x2, V.int (vs.length : Int)])) TP = some (.tup [V.ref x1, V.ref x2, V.int (vs.length : Int)]) := upd_same
    generalize upd H2 TP (.tup [V.ref x1, V.ref x2, V.int (vs.length : Int)]) = H3 at *
    have s03 := (s1.trans s2).trans sT
    have pt3 := pt.same s03
    walk_at "f"
    rw [r1]
    show tSeq _ _ _ _ _
    obtain ⟨J1, eJ1⟩ : ∃ J : L2.St → Hp → Prop, J = fun σ' H' => ∃ v6 v7, σ' = [some (.ref h), some (.ref p), some (.ref q), some (.ref x1), some (.ref x2), some (.int ((d.ms.length : Nat) : Int)), v6, v7, none, none, none, none, none] ∧ Kp2 h g H3 H' ∧ PotAt H' h g (n + 5) := ⟨_, rfl⟩
    refine ⟨J1, ?_, ?_⟩
    · walk_at "f"
      obtain ⟨J0, eJ0⟩ : ∃ J : V → Hp → Prop, J = fun x H' => ∃ D ks, x = .ref D ∧ H' D = some (.lst ks) ∧ (∀ v ∈ ks, ∃ k : Nat, v = .int k ∧ k < d.ms.length) ∧ ks.length ≤ 24 ∧ Kp2 h g H3 H' ∧ PotAt H' h g (n + 5) := ⟨_, rfl⟩
      refine ⟨J0, ?_, ?_⟩
      · walk_at "f"
        refine ite2 (fun c => ?_) (fun c => ?_)
        · have c9 : (d.ms.length : Int) < 9 := of_decide_eq_true c
          walk_at "f"
          all_goals (try refine ⟨RgOk.of_le (by omega) (by omega) (by omega) (by omega), ?_⟩)
          intro q0 nq
          subst eJ0
          exact ⟨q0, _, rfl, upd_same, fun v hv => rg_mem hv, by rw [rgV_length]; omega, (Kp2.refl _).up nq, (pt3.up nq).mono (by omega)⟩
        · walk_at "f"
          intro D nD
          have lgm := lg24 (show (d.ms.length : Int) ≤ 24 by omega) (by omega)
          have l0 := gD.ok.len0
          refine lcI (n := 5) (c := 1) (m := n) (fun v => ∃ k : Nat, v = .int k ∧ k < d.ms.length) walk_range (fun _ => trivial) (szs (Nat.le_of_ble_eq_true rfl)) pt3 nD (fun i x H4 H5 N M2 hi k4 pt4 yy hN => ?_) (fun H4 ys k4 pt4 hD ly al => ?_)
          · obtain ⟨rfl, rfl⟩ := yy
            refine ⟨rfl, yesT ?_⟩
            have hi4 : i < 5 := hi
            walk_at "f"
            intro dd H6 d0 d1 ptx kx
            obtain ⟨kk, rfl⟩ := Int.eq_ofNat_of_zero_le d0
            exact hN _ _ kx (ptx.mono (by omega)) ⟨kk, rfl, by omega⟩
          · subst eJ0
            exact ⟨D, ys, rfl, hD, al, by omega, k4, pt4⟩
      rintro xv H4 hJ0
      subst eJ0
      obtain ⟨D, ks, rfl, hD, hks, lks, k4, pt4⟩ := hJ0
      refine ⟨D, rfl, ⟨_, SqL.of hD⟩, ?_⟩
      refine for_it walk_list (fun i σ H' => (∃ v6 v7, σ = [some (.ref h), some (.ref p), some (.ref q), some (.ref x1), some (.ref x2), some (.int ((d.ms.length : Nat) : Int)), v6, v7, none, none, none, none, none]) ∧ Same H4 H') ⟨⟨_, _, rfl⟩, Same.refl _⟩ (fun i σ H' _ p => SqL.of (p.2 _ _ hD)) ?_ ?_
      · rintro i x σ H5a H5 hi ⟨⟨v6, v7, rfl⟩, s5⟩ yy
        obtain ⟨rfl, hx⟩ := yy
        obtain ⟨kk, rfl, hkk⟩ := hks x (List.mem_of_getElem? hx)
        have hp5 := ((hp.same s03).kp gD.ok.len0 pt3 k4).same s5
        have hq5 := ((hq.same s03).kp gE.ok.len0 pt3 k4).same s5
        have n34 : Nl H3 H5 := fun c o e no => s5 _ _ (pt3.nl k4 _ _ e no)
        have B1 := (A1.same (s2.trans sT)).nl n34
        have B2 := (A2.same sT).nl n34
        clear A1 A2 hp hq h1 h2 h1' h2' hT s03 s1 s2 sT pt pt3 hD hks lks fin nT k4 pt4
        show tSeq _ _ _ _ _
        refine ends_gen rfl fun DE eDE => ?_
        walk_at "f"
        refine ⟨d, kk, 140, rfl, hp5, hkk, gD.sz, gD.ok.rule, by decide, by decide, fun v2 H6 s6 lp => ?_⟩
        refine ⟨_, rfl, v2, q, partL d kk, e, 140, d.F, kk, rfl, lp, zzl_part gD.sz, hq5.same s6, gE.ok, gE.sz, by decide, by decide, fun x => part_in gD.ok hkk, fun w2 u H7 s7 lv ls => ?_⟩
        have okD := ledD_ok ls (by omega)
        have s67 := s6.trans s7
        refine ⟨w2, ledD u, rfl, ledv_dp lv, okD.1, okD.2.1, okD.2.2.1, okD.2.2.2, ?_⟩
        have C1 := B1.same s67
        have C2 := B2.same s67
        clear lp hp5 hq5 B1 B2
        walk_at "f"
        refine ⟨zR d.ms, zR e.ms, d.r, e.r, oR d.lo, oR d.hi, oR e.lo, oR e.hi, kk, rfl, C1, C2, by rw [zR_len]; exact hkk, by decide, by decide, fun v3 u3 H8 s8 lv3 ls3 => ?_⟩
        rw [zR_len] at ls3
        have eu : u3 = u := LedS.uniq ls3 ls
        subst eu
        refine ⟨v3, ledD u3, rfl, ledv_dp lv3, okD.1, okD.2.1, okD.2.2.1, okD.2.2.2, ?_⟩
        have sA := s5.trans (s67.trans s8)
        clear C1 C2 lv lv3 ls ls3
        have ed : decide (V.str (ledD u3).shown = V.str (ledD u3).shown) = true := decide_eq_true rfl
        walk_at "f"
        rw [ed]
        refine iteF ?_
        show DE.nx _ _
        rw [eDE]
        exact ⟨⟨_, _, rfl⟩, sA⟩
      · rintro σ H5 ⟨⟨v6, v7, rfl⟩, s5⟩
        subst eJ1
        exact ⟨_, _, rfl, k4.trans (Kp2.same s5), pt4.same s5⟩
    subst eJ1
    rintro σ4 H4 ⟨v6, v7, rfl, k4, pt4⟩
    have hp4 := (hp.same s03).kp gD.ok.len0 pt3 k4
    have hq4 := (hq.same s03).kp gE.ok.len0 pt3 k4
    have n34 : Nl H3 H4 := fun c o e no => pt3.nl k4 _ _ e no
    have B1 := (A1.same (s2.trans sT)).nl n34
    have B2 := (A2.same sT).nl n34
    have k04 := (Kp2.same s03).trans k4
    clear A1 A2 hp hq h1 h2 h1' h2' hT s03 s1 s2 sT pt pt3 nT k4 n34
    obtain ⟨J2, eJ2⟩ : ∃ J : L2.St → Hp → Prop, J = fun σ' H' => ∃ u, LedS d.F e.F 0 e.ms.length u ∧ σ' = [some (.ref h), some (.ref p), some (.ref q), some (.ref x1), some (.ref x2), some (.int ((d.ms.length : Nat) : Int)), v6, some (.str (ledD u).shown), none, none, none, none, none] ∧ Same H4 H' := ⟨_, rfl⟩
    refine ⟨J2, ?_, ?_⟩
    · walk_at "f"
      refine ⟨d, 0, 140, rfl, hp4, gD.ok.len0, gD.sz, gD.ok.rule, by decide, by decide, fun v2 H6 s6 lp => ?_⟩
      refine ⟨_, rfl, v2, q, partL d 0, e, 140, d.F, 0, rfl, lp, zzl_part gD.sz, hq4.same s6, gE.ok, gE.sz, by decide, by decide, fun x => part_in gD.ok gD.ok.len0, fun w2 u H7 s7 lv ls => ?_⟩
      have okD := ledD_ok ls (by omega)
      refine ⟨w2, ledD u, rfl, ledv_dp lv, okD.1, okD.2.1, okD.2.2.1, okD.2.2.2, ?_⟩
      subst eJ2
      exact ⟨u, ls, rfl, s6.trans s7⟩
    subst eJ2
    rintro σ5 H5 ⟨u, ls, rfl, s5⟩
    have okD := ledD_ok ls (by omega)
    have C1 := B1.same s5
    have C2 := B2.same s5
    obtain ⟨J3, eJ3⟩ : ∃ J : L2.St → Hp → Prop, J = fun σ' H' => σ' = [some (.ref h), some (.ref p), some (.ref q), some (.ref x1), some (.ref x2), some (.int ((d.ms.length : Nat) : Int)), v6, some (.str (ledD u).shown), none, none, none, none, none] ∧ Same H4 H' := ⟨_, rfl⟩
    refine ⟨J3, ?_, ?_⟩
    · walk_at "f"
      refine ⟨zR d.ms, zR e.ms, d.r, e.r, oR d.lo, oR d.hi, oR e.lo, oR e.hi, 0, rfl, C1, C2, by rw [zR_len]; exact gD.ok.len0, by decide, by decide, fun v3 u3 H8 s8 lv3 ls3 => ?_⟩
      rw [zR_len] at ls3
      have eu : u3 = u := LedS.uniq ls3 ls
      subst eu
      refine ⟨v3, ledD u3, rfl, ledv_dp lv3, okD.1, okD.2.1, okD.2.2.1, okD.2.2.2, ?_⟩
      have ed : decide (V.str (ledD u3).shown = V.str (ledD u3).shown) = true := decide_eq_true rfl
      walk_at "f"
      rw [ed]
      refine iteF ?_
      subst eJ3
      exact ⟨rfl, s5.trans s8⟩
    subst eJ3
    rintro σ6 H6 ⟨rfl, s6⟩
    have C16 := B1.same s6
    have C26 := B2.same s6
    obtain ⟨J4, eJ4⟩ : ∃ J : L2.St → Hp → Prop, J = fun σ' H' => ∃ (v3 : V) (T1 : Addr) (ys : List V) (bs : List Nat), σ' = [some (.ref h), some (.ref p), some (.ref q), some (.ref x1), some (.ref x2), some (.int ((d.ms.length : Nat) : Int)), v6, some (.str (ledD u).shown), some v3, some (.ref T1), none, none, none] ∧ Same H4 H' ∧ LedV H' v3 u ∧ H' T1 = some (.tup ys) ∧ ys.length ≤ 24 ∧ PapS (He.ga K "Measure") H' (4 * 140 + 36) ys bs d.F e.F 0 0 e.ms.length ∧ PapZ (He.ga K "Measure") H' (4 * 140 + 36) ys bs (zR d.ms) (zR e.ms) d.r e.r (oR d.lo) (oR d.hi) (oR e.lo) (oR e.hi) 0 := ⟨_, rfl⟩
    refine ⟨J4, ?_, ?_⟩
    · walk_at "f"
      refine ⟨zR d.ms, zR e.ms, d.r, e.r, oR d.lo, oR d.hi, oR e.lo, oR e.hi, 0, rfl, C16, C26, by rw [zR_len]; exact gD.ok.len0, by decide, by decide, fun v3 u3 H8 s8 lv3 ls3 => ?_⟩
      rw [zR_len] at ls3
      have eu : u3 = u := LedS.uniq ls3 ls
      subst eu
      walk_at "f"
      refine ⟨zR d.ms, zR e.ms, d.r, e.r, oR d.lo, oR d.hi, oR e.lo, oR e.hi, 0, rfl, C16.same s8, C26.same s8, by rw [zR_len]; exact gD.ok.len0, by decide, by decide, fun T1 ys bs H9 s9 hT1 ly P1 PZ => ?_⟩
      rw [zR_len] at P1
      have sA := s6.trans (s8.trans s9)
      have lv4 := LedV.same27 lv3 s9
      walk_at "f"
      subst eJ4
      exact ⟨v3, T1, ys, bs, rfl, sA, lv4, hT1, ly, P1, PZ⟩
    subst eJ4
    rintro σ7 H7 ⟨v3, T1, ys, bs, rfl, s7, lv, hT1, ly, P1, PZ⟩
    have C17 := B1.same s7
    have C27 := B2.same s7
    obtain ⟨J5, eJ5⟩ : ∃ J : L2.St → Hp → Prop, J = fun σ' H' => σ' = [some (.ref h), some (.ref p), some (.ref q), some (.ref x1), some (.ref x2), some (.int ((d.ms.length : Nat) : Int)), v6, some (.str (ledD u).shown), some v3, some (.ref T1), none, none, none] ∧ Same H7 H' := ⟨_, rfl⟩
    refine ⟨J5, ?_, ?_⟩
    · obtain ⟨ws, lw, w1, w2⟩ := paper_zs (ys := ys) (bs := bs) P1.len PZ
      walk_at "f"
      refine marks_show0 (k := 4 * 140 + 36) (by decide) lw w1 ?_
      walk_at "f"
      refine ⟨zR d.ms, zR e.ms, d.r, e.r, oR d.lo, oR d.hi, oR e.lo, oR e.hi, 0, rfl, C17, C27, by rw [zR_len]; exact gD.ok.len0, by decide, by decide, fun T2 ys2 bs2 H9 s9 hT2 ly2 P2 PZ2 => ?_⟩
      rw [zR_len] at P2
      have eb : bs2 = bs := pap_bs P2 P1
      subst eb
      obtain ⟨ws2, lw2, w12, w22⟩ := paper_zs (ys := ys2) (bs := bs2) P2.len PZ2
      have l1 := P1.len
      have l2 := P2.len
      have ew : ws2 = ws := com_list (by omega) (by omega) w22 w2
      subst ew
      refine ⟨T2, ys2, rfl, SqT.of hT2, by omega, ?_⟩
      refine marks_show0 (k := 4 * 140 + 36) (by decide) lw2 w12 ?_
      have ed : decide (V.str (tupleText ([] ++ ws2.map mR)) = V.str (tupleText ([] ++ ws2.map mR))) = true := decide_eq_true rfl
      walk_at "f"
      rw [ed]
      refine iteF ?_
      subst eJ5
      exact ⟨rfl, s9⟩
    subst eJ5
    rintro σ8 H8 ⟨rfl, s8⟩
    obtain ⟨J6, eJ6⟩ : ∃ J : L2.St → Hp → Prop, J = fun σ' H' => σ' = [some (.ref h), some (.ref p), some (.ref q), some (.ref x1), some (.ref x2), some (.int ((d.ms.length : Nat) : Int)), v6, some (.str (ledD u).shown), some v3, some (.ref T1), none, none, none] ∧ Same H7 H' := ⟨_, rfl⟩
    refine ⟨J6, ?_, ?_⟩
    · have C18 := C17.same s8
      have C28 := C27.same s8
      have P8 := PapS.same P1 s8
      have lv8 := LedV.same27 lv s8
      have hT8 := s8 _ _ hT1
      have ls' : LedS (sizF (zR d.ms) d.r (oR d.lo) (oR d.hi)) (sizF (zR e.ms) e.r (oR e.lo) (oR e.hi)) 0 (zR e.ms).length u := by rw [zR_len]; exact ls
      have P8' : PapS (He.ga K "Measure") H8 (4 * 140 + 36) ys bs (sizF (zR d.ms) d.r (oR d.lo) (oR d.hi)) (sizF (zR e.ms) e.r (oR e.lo) (oR e.hi)) 0 0 (zR e.ms).length := by rw [zR_len]; exact P8
      walk_at "f"
      refine ⟨zR d.ms, zR e.ms, d.r, e.r, oR d.lo, oR d.hi, oR e.lo, oR e.hi, 0, u, ys, bs, rfl, C18, C28, by rw [zR_len]; exact gD.ok.len0, by decide, by decide, lv8, ls', hT8, P8', fun H9 s9 => ?_⟩
      walk_at "f"
      show (if _ = true then _ else _)
      rw [if_neg (by simp)]
      subst eJ6
      exact ⟨rfl, s8.trans s9⟩
    subst eJ6
    rintro σ9 H9 ⟨rfl, s9⟩
    have C19 := C17.same s9
    have k09 := k04.trans (Kp2.same (s7.trans s9))
    have pt9 := (pt4.same s7).same s9
    clear C17 C27 B1 B2 PZ P1 lv hT1 s9 s7 pt4 k04 hp4 hq4 C1 C2 C16 C26 s6 s5 okD ls
    obtain ⟨J7, eJ7⟩ : ∃ J : L2.St → Hp → Prop, J = fun σ' H' => ∃ (D : Addr) (xs : List V), σ' = [some (.ref h), some (.ref p), some (.ref q), some (.ref x1), some (.ref x2), some (.int ((d.ms.length : Nat) : Int)), v6, some (.str (ledD u).shown), some v3, some (.ref T1), some (.ref D), none, none] ∧ Same H9 H' ∧ H' D = some (.lst xs) ∧ xs.length ≤ 16 ∧ ∀ v ∈ xs, Odd15 K H' d.ms.length v := ⟨_, rfl⟩
    refine ⟨J7, ?_, ?_⟩
    · walk_at "f"
      intro a1 n1
      have f1 : upd H9 a1 (.tup [V.int 0]) a1 = some (.tup [V.int 0]) := upd_same
      have t1 := same1 (u := .tup [V.int 0]) n1
      generalize upd H9 a1 (.tup [V.int 0]) = G1 at *
      walk_at "f"
      intro a2 n2
      have f2 : upd G1 a2 (.tup []) a2 = some (.tup []) := upd_same
      have t2 := same1 (u := .tup []) n2
      generalize upd G1 a2 (.tup []) = G2 at *
      walk_at "f"
      intro a3 n3
      have f3 : upd G2 a3 (.lst [V.int 0]) a3 = some (.lst [V.int 0]) := upd_same
      have t3 := same1 (u := .lst [V.int 0]) n3
      generalize upd G2 a3 (.lst [V.int 0]) = G3 at *
      walk_at "f"
      intro a4 n4
      have f4 : upd G3 a4 (.dK []) a4 = some (.dK []) := upd_same
      have t4 := same1 (u := .dK []) n4
      generalize upd G3 a4 (.dK []) = G4 at *
      walk_at "f"
      intro a5 n5
      have f5 : upd G4 a5 (.tup [V.str "a"]) a5 = some (.tup [V.str "a"]) := upd_same
      have t5 := same1 (u := .tup [V.str "a"]) n5
      have tAll := t1.trans (t2.trans (t3.trans (t4.trans t5)))
      replace f1 := (t2.trans (t3.trans (t4.trans t5))) _ _ f1
      replace f2 := (t3.trans (t4.trans t5)) _ _ f2
      replace f3 := (t4.trans t5) _ _ f3
      replace f4 := t5 _ _ f4
      generalize upd G4 a5 (.tup [V.str "a"]) = G5 at *
      clear t1 t2 t3 t4 t5 n1 n2 n3 n4 n5
      walk_at "f"
      refine ⟨⟨by decide, by decide, by decide⟩, ?_⟩
      walk_at "f"
      have odd : ∀ v ∈ ([V.int ((d.ms.length : Nat) : Int), .int (-1), .int (((d.ms.length : Nat) : Int) + 7), .non, .bl true, .bl false, .str "0", .str "", .ref a1, .ref a2, .ref a3, .ref a4, .ref a5, .int ((10 : Int) ^ Int.toNat 30), .int (0 - ((d.ms.length : Nat) : Int))] : List V), Odd15 K G5 d.ms.length v := fun v hv => by
        simp only [List.mem_cons, List.not_mem_nil, or_false] at hv
        rcases hv with rfl | rfl | rfl | rfl | rfl | rfl | rfl | rfl | rfl | rfl | rfl | rfl | rfl | rfl | rfl
        · refine oddInt (by omega) ?_
          exact Nat.lt_of_le_of_lt (Nat.log2_le_self _) (by omega)
        · exact oddInt (by omega) (by decide +kernel)
        · refine oddInt (by omega) ?_
          exact Nat.lt_of_le_of_lt (Nat.log2_le_self _) (by omega)
        · exact oddData .non (by decide +kernel) (.inl ⟨rfl, rfl⟩) (fun z => nomatch z)
        · exact oddData (.bl _) (by decide +kernel) (.inr (.inl ⟨_, rfl, rfl⟩)) (fun z => nomatch z)
        · exact oddData (.bl _) (by decide +kernel) (.inr (.inl ⟨_, rfl, rfl⟩)) (fun z => nomatch z)
        · exact oddData (.str _) (by decide +kernel) (.inr (.inr (.inr (.inl ⟨_, rfl, rfl⟩)))) (fun z => nomatch z)
        · exact oddData (.str _) (by decide +kernel) (.inr (.inr (.inr (.inl ⟨_, rfl, rfl⟩)))) (fun z => nomatch z)
        · exact oddData (.tup (SqT.of f1) (.cons (.int 0) .nil)) (by decide +kernel) (.inr (.inr (.inr (.inr (.inr (.inl ⟨_, _, rfl, f1, rfl⟩)))))) (fun z => nomatch z)
        · exact oddData (.tup (SqT.of f2) .nil) (by decide +kernel) (.inr (.inr (.inr (.inr (.inr (.inl ⟨_, _, rfl, f2, rfl⟩)))))) (fun z => nomatch z)
        · exact oddData (.lst (SqL.of f3) (.cons (.int 0) .nil)) (by decide +kernel) (.inr (.inr (.inr (.inr (.inl ⟨_, _, rfl, f3, rfl⟩))))) (fun z => nomatch z)
        · exact oddDict f4 .nil (by decide +kernel)
        · exact oddData (.tup (SqT.of f5) (.cons (.str _) .nil)) (by decide +kernel) (.inr (.inr (.inr (.inr (.inr (.inl ⟨_, _, rfl, f5, rfl⟩)))))) (fun z => nomatch z)
        · refine oddInt (fun z => ?_) (by decide +kernel)
          have z2 : (10 : Int) ^ Int.toNat 30 < 24 + 1 := by omega
          exact absurd z2 (by decide +kernel)
        · refine oddInt (by have := gD.ok.len0; omega) ?_
          exact Nat.lt_of_le_of_lt (Nat.log2_le_self _) (by omega)
      intro D nD
      subst eJ7
      have sD := same1 (u := .lst [V.int ((d.ms.length : Nat) : Int), .int (-1), .int (((d.ms.length : Nat) : Int) + 7), .non, .bl true, .bl false, .str "0", .str "", .ref a1, .ref a2, .ref a3, .ref a4, .ref a5, .int ((10 : Int) ^ Int.toNat 30), .int (0 - ((d.ms.length : Nat) : Int))]) nD
      exact ⟨D, _, rfl, tAll.trans sD, upd_same, Nat.le_of_ble_eq_true rfl, fun v hv => (odd v hv).same sD⟩
    subst eJ7
    rintro σA HA ⟨D, xs, rfl, sA, hD, lx, odd⟩
    have CA := C19.same sA
    have hDS := SqL.of (K := K) hD
    rw [← zR_len] at odd
    obtain ⟨J8, eJ8⟩ : ∃ J : L2.St → Hp → Prop, J = fun σ' H' => σ' = [some (.ref h), some (.ref p), some (.ref q), some (.ref x1), some (.ref x2), some (.int ((d.ms.length : Nat) : Int)), v6, some (.str (ledD u).shown), some v3, some (.ref T1), some (.ref D), none, none] ∧ Same HA H' := ⟨_, rfl⟩
    refine ⟨J8, ?_, ?_⟩
    · walk_at "f"
      intro D2 nD2
      refine lcz (n := xs.length) walk_list (fun _ _ g s => s.seq g) (List.replicate xs.length (some (V.bl true))) List.length_replicate (szs (by omega)) hDS nD2 (fun i x H4 H5 o N M2 hi' ho s4 y hN hM2 => ?_) (fun H4 s4 hD4 => ?_)
      · obtain ⟨rfl, hx⟩ := y
        rw [List.getElem?_replicate, if_pos hi'] at ho
        cases ho
        refine ⟨rfl, yesT ?_⟩
        refine ⟨_, rfl, _, rfl, _, rfl, true, x1, _, _, _, _, _, x, .ref x2, rfl, CA.same s4, (odd x (List.mem_of_getElem? hx)).same s4, fun H6 s6 => hN _ _ rfl s6⟩
      rw [rep_fm] at hD4
      have hD4S := SqL.of (K := K) hD4
      walk_at "f"
      refine ⟨_, rfl, hD4S, ?_⟩
      walk_at "f"
      rw [rep_all]
      refine iteF ?_
      subst eJ8
      exact ⟨rfl, s4⟩
    subst eJ8
    rintro σB HB ⟨rfl, sB⟩
    have CB := CA.same sB
    have hDB := sB.seq hDS
    walk_at "f"
    refine ⟨⟨_, hDB⟩, fun D2 nD2 => ?_⟩
    refine lcz (n := xs.length) walk_list (fun _ _ g s => s.seq g) (List.replicate xs.length (some (V.bl true))) List.length_replicate (szs (by omega)) hDB nD2 (fun i x H4 H5 o N M2 hi' ho s4 y hN hM2 => ?_) (fun H4 s4 hD4 => ?_)
    · obtain ⟨rfl, hx⟩ := y
      rw [List.getElem?_replicate, if_pos hi'] at ho
      cases ho
      refine ⟨rfl, yesT ?_⟩
      refine ⟨_, rfl, _, rfl, _, rfl, false, x1, _, _, _, _, _, x, .ref x2, rfl, CB.same s4, ((odd x (List.mem_of_getElem? hx)).same sB).same s4, fun H6 s6 => hN _ _ rfl s6⟩
    rw [rep_fm] at hD4
    have hD4S := SqL.of (K := K) hD4
    walk_at "f"
    refine ⟨_, rfl, hD4S, ?_⟩
    rw [rep_all]
    exact fin _ ((k09.trans (Kp2.same sA)).trans ((Kp2.same sB).trans (Kp2.same s4))) ((((pt9.same sA).same sB).same s4).mono (by omega))
theorem ok_law {P : Program} {w : World} {K : PySem.W.Frag} {mg : Str → Option Value} {base : Heap} {φ : Fds} (T : Txt P K mg φ)   : FnG P w K mg base CX0 13 (He.fAd K ("law", none)) φ.law p_law (sp_law K) := by
  obtain ⟨_, B0v, B0⟩ := b_l_begin_1 T
  obtain ⟨_, B1v, B1⟩ := b_l_ladders_3 T
  obtain ⟨_, B2v, B2⟩ := b_l_pick_2 T
  obtain ⟨_, B3v, B3⟩ := b_l_right_3 T
  refine okG T.f_law sc_law (fun vs H Q E h => ?_) (fun cdv A outer s H vs Q E hr gd h => ?_)
  · obtain ⟨a, ns, rfl, hS, hn, kk⟩ := h; rfl
  · obtain ⟨a, ns, rfl, hS, hn, kk⟩ := h
    refine ⟨_, PSs.nox (pss_cons (ps_set (i := 1) sc_law.nd rfl (Or.inl rfl) (pe_call (ok_l_begin (K := K) T) (hr.mono (by decide)) rfl T.g_l_begin T.f_l_begin.kp B0 B0v pass0 (pa_cons (pv 0) pa_nil)))
      (pss_cons (ps_for PassesOwn.never rfl (pi_range1 rfl T.z_range (pa_cons (pe_op op_add pe_int (pe_callB (id := "min") (call_min2 rfl) (by rfl) T.z_min (by decide +kernel) (pa_cons (pe_callB (id := "len") (lenS (K := K)) (by rfl) T.z_len PySem.boot_len (pa_cons (pv 0) pa_nil)) (pa_cons pe_int pa_nil)))) pa_nil)) (pg_name (i := 2) sc_law.nd rfl (Or.inl rfl))
      (pss_cons (ps_asg (pe_call (ok_l_ladders (K := K) T) (hr.mono (by decide)) rfl T.g_l_ladders T.f_l_ladders.kp B1 B1v pass0 (pa_cons (pv 1) (pa_cons pe_int (pa_cons (pe_ix (ixl (K := K)) (pe_lst (pa_cons pe_int (pa_cons pe_int (pa_cons pe_int (pa_cons pe_int (pa_cons pe_int (pa_cons pe_int pa_nil))))))) (pe_call (ok_l_pick (K := K) T) (hr.mono (by decide)) rfl T.g_l_pick T.f_l_pick.kp B2 B2v pass0 (pa_cons (pv 1) (pa_cons pe_int pa_nil))) (fun _ _ => rfl)) pa_nil)))) (pg_lst rfl (pgs_cons (pg_name (i := 3) sc_law.nd rfl (Or.inl rfl)) (pgs_cons (pg_name (i := 4) sc_law.nd rfl (Or.inl rfl)) pgs_nil))))
      (pss_one (ps_if (PW.pt (pw_or (pt_not (pt_val (pe_callG (ok_l_right (K := K) T) gd (hr.mono (by decide)) rfl T.g_l_right T.f_l_right.kp B3 B3v pass0 (pa_cons (pv 1) (pa_cons (pv 3) (pa_cons (pv 4) pa_nil)))))) (pw_or1 (pt_not (pt_val (pe_callG (ok_l_right (K := K) T) gd (hr.mono (by decide)) rfl T.g_l_right T.f_l_right.kp B3 B3v pass0 (pa_cons (pv 1) (pa_cons (pv 4) (pa_cons (pv 3) pa_nil)))))))))
      (pss_one (ps_ret pe_bl))
      pss_nil))))
      (pss_one (ps_ret pe_bl)))), ?_⟩
    walk_at "f"
    all_goals (try refine ⟨ns, rfl, hS, hn, fun h g H1 s1 nh ng pt => ?_⟩)
    have hS1 := s1.seq hS
    walk_at "f"
    refine for_range (fun i σ H' => (∃ v2 v3 v4, σ = [some (.ref a), some (.ref h), v2, v3, v4]) ∧ PotAt H' h g (200 * i)) ⟨⟨_, _, _, rfl⟩, pt⟩ ?_ ?_
    · rintro i σ H2 hi ⟨⟨v2, v3, v4, rfl⟩, pt2⟩
      have hi3 : i < 4 := by
        refine Nat.lt_of_lt_of_le hi ?_
        split <;> omega
      clear hi hS hS1 nh ng pt s1
      walk_at "f"
      intro L0 nL0
      have hL0 : (upd H2 L0 (.lst [V.int 8, V.int 8, V.int 8, V.int 8, V.int 8, V.int 24])) L0 = some (.lst [V.int 8, V.int 8, V.int 8, V.int 8, V.int 8, V.int 24]) := upd_same
      have sL := same1 (u := .lst [V.int 8, V.int 8, V.int 8, V.int 8, V.int 8, V.int 24]) nL0
      obtain ⟨ne1, ne2⟩ := pt2.nel nL0
      generalize upd H2 L0 (.lst [V.int 8, V.int 8, V.int 8, V.int 8, V.int 8, V.int 24]) = H3 at *
      have pt3 := pt2.same sL
      refine ⟨_, rfl, h, g, 200 * i, 6, rfl, pt3, by omega, by decide, by decide, fun dd H4 d0 d1 pt4 k4 => ?_⟩
      obtain ⟨m, em, m0, m1⟩ : ∃ m : Nat, atI [V.int 8, V.int 8, V.int 8, V.int 8, V.int 8, V.int 24] dd = some (.int (m : Int)) ∧ 0 < m ∧ m ≤ 24 := by
        obtain rfl | rfl | rfl | rfl | rfl | rfl : dd = 0 ∨ dd = 1 ∨ dd = 2 ∨ dd = 3 ∨ dd = 4 ∨ dd = 5 := by omega
        · exact ⟨8, rfl, by decide, by decide⟩
        · exact ⟨8, rfl, by decide, by decide⟩
        · exact ⟨8, rfl, by decide, by decide⟩
        · exact ⟨8, rfl, by decide, by decide⟩
        · exact ⟨8, rfl, by decide, by decide⟩
        · exact ⟨24, rfl, by decide, by decide⟩
      have hL4 := k4 _ _ hL0 ne1 ne2
      refine ⟨L0, _, _, _, rfl, rfl, SqL.of hL4, em, ?_⟩
      refine ⟨h, g, 200 * i + 1, 2, m, rfl, pt4, by omega, by decide, m0, m1, fun D ys H5 _ k5 pt5 hD ly al => ?_⟩
      obtain ⟨y0, y1, rfl⟩ : ∃ y0 y1, ys = [y0, y1] := by
        match ys, ly with
        | [y0, y1], _ => exact ⟨y0, y1, rfl⟩
      obtain ⟨p, d, rfl, hp, gD⟩ := al y0 (by simp)
      obtain ⟨q, e, rfl, hq, gE⟩ := al y1 (by simp)
      walk_at "f"
      all_goals (try refine ⟨d, e, rfl, pt5, by omega, hp, hq, gD, gE, fun H6 k6 pt6 => ?_⟩)
      have hp6 := hp.kp gD.ok.len0 pt5 k6
      have hq6 := hq.kp gE.ok.len0 pt5 k6
      clear pt5 pt4 pt3 hp hq
      walk_at "f"
      all_goals (try refine ⟨e, d, rfl, pt6, by omega, hq6, hp6, gE, gD, fun H7 k7 pt7 => ?_⟩)
      walk_at "f"
      exact ⟨⟨_, _, _, rfl⟩, pt7.mono (by omega)⟩
    · rintro σ H2 ⟨⟨v2, v3, v4, rfl⟩, pt2⟩
      walk_at "f"
      exact kk _
end K26

open PySem PySem.W PySem.Calls PyProof.Rows
set_option maxRecDepth 100000 in
set_option maxHeartbeats 0 in
theorem PySem.Challenge.cw_sizeladders_k26_led_by_own_ends_holds : PySem.Challenge.rw_sizeladders_k26_led_by_own_ends.Holds := by
  exact K26.pre fun T => K26.ok_law T
