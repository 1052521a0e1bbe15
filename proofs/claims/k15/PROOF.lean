import PyProof.Rows.All
import Wide.All
import OpenK.AllK
import Wide.FinOn
import KE.KStateDown
import HandS.ForMost
import HandS.More
import HandS.WordsExc
import HandS.Defaults
import HandS.MakeKw
import HandS.MakeKwOnly
import HandS.Wide
import HandS.IsInst
import HandS.Flow
import HandS.Style
import HandS.OwnEq
import HandS.Head0
import HandS.Head1
import HandS.Head2
import HandS.HeadEnd
import HandS.HeadHook1
import HandS.HeadHook2
import HandS.ExcIs
import HandS.ExcOwn
import HandS.TryOnly
import HandS.ExcBuiltin
import HandS.FStr
import HandS.Text
import HandS.Codes
import HandS.StrMore
import HandS.Walk
import HandS.Zip
import HandS.Conv
import HandS.Iter
import KE.GoesEnum
import KE.DataMinMax
import HandS.SortKw
import HandS.TupAny
import HandS.FStrTup
import HandS.Deep
import HandS.SetFor
import HandS.Strs
import PyProof.ReprHeadsTuple
import PyProof.ReprNest
import KE.KFmtOwn
import HandS.RevRange
import HandS.ExcInit
import HandS.Nested
import KE.KExcSuper
import HandS.ExcField
import HandS.ExcValue
import PyProof.RowDictHeap
import PySem.Challenge.RW_sizeladders_k15_stretches_of_sizes
set_option Elab.async false
set_option linter.all false
set_option maxRecDepth 100000
set_option maxHeartbeats 4000000
namespace My
open PySem PySem.Spec PyProof.Rows L2
/-! ### operators of great numbers -/
section
variable {X : Cx}
theorem op_fd : OpR X (binaryOp .FloorDiv) (rI (fun _ j => j ≠ 0 ∧ j.natAbs.log2 < 9000) fun i j => .int (i.fdiv j)) :=
  opI fun _ _ _ _ _ _ _ hc q => floordiv_int hc.1 q (.inl (PyProof.noPylong_of_log2 hc.2))
theorem op_mulA : OpR X (binaryOp .Mult) (rI (fun i j => CMul i j ∨ CMulW i j) fun i j => .int (i * j)) :=
  opI fun _ _ _ _ _ _ _ hc q => mul_int q (hc.elim (fun h => h.ok) (fun h => h.ok))
/-! ### cuts: what is wanted behind a piece, said by a word of one's own -/
def tCutS (t : TS) : TS := fun D σ H => ∃ J : L2.St → Hp → Prop, t { D with nx := J } σ H ∧ ∀ σ' H', J σ' H' → D.nx σ' H'
theorem ps_cut {st : Stmt} {t : TS} (h : PS X st t) : PS X st (tCutS t) := by
  refine ⟨fun pins s σ H D I hw => ?_⟩
  obtain ⟨J, h1, h2⟩ := hw
  refine thn (h.run pins s σ H _ I h1) fun f s' q => ?_
  cases f with
  | next => obtain ⟨σ', H', I', q'⟩ := q; exact ⟨σ', H', I', h2 _ _ q'⟩
  | brk => exact q
  | cont => exact q
  | ret u => exact q
def tCutE (t : TE) : TE := fun σ H Q => ∃ J : V → Hp → Prop, t σ H J ∧ ∀ v H', J v H' → Q v H'
theorem pe_cut {e : Expr} {t : TE} (h : PE X e t) : PE X e (tCutE t) := by
  refine ⟨fun pins s σ H Q I hw => ?_⟩
  obtain ⟨J, h1, h2⟩ := hw
  exact thn (h.run pins s σ H _ I h1) fun u s' ⟨v, H', I', r, q'⟩ => ⟨v, H', I', r, h2 _ _ q'⟩
/-! ### calls by keywords -/
variable {CX : CXT} {k n : Nat} {f C : Addr} {fd : FuncData} {ps ks : List Str} {sp : Sp} {E : XK} {x m : Str} {p pos apos : Pos} {o e : Expr} {es : List Expr} {kws : List Keyword} {ta : TE} {t tk : TA} {g : List Value → List Value → List Value} {gV : List V → List V → List V}
/-- o.m(e, .., k = v, ..) -/
def tMethN (C : Addr) (m : Str) (n l : Nat) (sp : Sp) (gV : List V → List V → List V) (E : XK) (ta : TE) (t tk : TA) : TE := fun σ H Q => ta σ H fun x H1 => ∃ a dx fs, x = .ref a ∧ H1 a = some (.ins C dx fs) ∧ fs.lookup m = none ∧
  t σ H1 fun vs H2 => tk σ H2 fun zs H3 => vs.length = n ∧ zs.length = l ∧ sp (gV (.ref a :: vs) zs) H3 Q E
theorem pe_methK0 {pl : Sem Bool} (he : PE X o ta) (c : Cls X.K C) (hm : Meth X.K C m f) (F : FnOk X.prog X.w X.K X.mg X.base CX k f fd ps sp) (hr : Room k X.A) (hb : KBn X.K fd ps 1 ks g gV) (hx : Passes CX X E) (hkw : PK X kws tk)
    (hall : (backToKw pos (keywordEach kws X.env)).all (·.1.isSome) = true := by rfl) (hks : (backToKw pos (keywordEach kws X.env)).filterMap (·.1) = ks := by rfl)
    (hpl : ((backTo pos (starEach [] X.env)).any (·.1) || (backToKw pos (keywordEach kws X.env)).any (·.1.isNone)) = false := by rfl)
    (ht : eval (.Call (.Attribute o m apos) [] kws pos) X.env = (do
      let ov ← eval o X.env
      standAt apos.atName
      let (f, first) ← holding [ov] (getMethod ov m pl)
      callWith pos f first (backTo pos (starEach [] X.env)) (backToKw pos (keywordEach kws X.env))) := by rfl) :
    PE X (.Call (.Attribute o m apos) [] kws pos) (tMethN C m 0 ks.length sp gV E ta tNil tk) := by
  refine ⟨fun pins s σ H Q I h => ?_⟩
  refine PySem.W.methodCall_KW (pl := pl) (thn (he.run pins s σ H _ I h) fun u s1 ⟨x, H1, I1, rx, a, dx, fs, ex, ea, l, q⟩ => ?_) ht
  subst ex
  obtain rfl : u = Value.ref a := rx
  refine getmeth_ok I1 ea c hm l ?_
  refine PySem.W.callWith_KW0 (first := [.ref a]) (h₀ := X.base) I.ok.mod.kin hm.kp hall ?_ hpl
  refine thn (hkw.run pos pins s1 σ H1 _ I1 q) fun ws s3 ⟨zs, H3, I3, rz, l1, l2, q3⟩ => ⟨I3.kIn, ?_⟩
  rw [hks]
  exact run_fnN (us := [.ref a]) (vs := [.ref a]) F hr hb hx I3 (.cons rfl .nil) rz rfl l2 q3
end
theorem kb_none {K : PySem.W.Frag} {x qual : Str} {params : Arguments} {body : List Stmt} {scope : Scope} {kws : List (Str × V)} {f : Addr} {fd : FuncData} {ps : List Str} {n : Nat} {ks : List Str}
    (F : FunD K x qual params body scope [] kws f fd) (g : {α : Type} → List α → List α → List α)
    (hrel : ∀ {vs zs : List V} {us ws : List Value}, Vals vs us → Vals zs ws → Vals (g vs zs) (g us ws))
    (h : ∀ (kV doc pm : Value) (an : Option Addr) (cdv ct : Value) (us ws : List Value), us.length = n → ws.length = ks.length → bindArgs (PySem.W.fnOf x qual params body scope .none kV doc pm an cdv ct) ⟨us, ks.zip ws⟩ = pure (ps.zip (g us ws))) :
    KBn K fd ps n ks (fun us ws => g us ws) (fun vs zs => g vs zs) := by
  obtain ⟨oc, od, dV, kV, doc, pm, an, cdv, ct, osl, rfl, lk, hcd, hD, hK⟩ := F.ex
  rcases hD with ⟨_, rfl⟩ | ⟨e, _⟩
  · exact ⟨fun s us ws X l1 l2 => .of_eq (h kV doc pm an cdv ct us ws l1 l2), fun r1 r2 => hrel r1 r2⟩
  · exact absurd rfl e
/-! ### heaps -/
theorem up1 {H : Hp} {p x : Addr} {o u : HO} (hp : H p = none) (hx : H x = some o) : upd H p u x = some o := by
  rw [upd_ne (ne_of_none hx hp)]; exact hx
theorem same1 {H : Hp} {p : Addr} {u : HO} (hp : H p = none) : Same H (upd H p u) := fun _ _ e => up1 hp e
theorem _root_.L2.Same.sqt {K : PySem.W.Frag} {H H' : Hp} {a : Addr} {xs : List V} (e : Same H H') (h : SqT K H a xs) : SqT K H' a xs := by
  rcases h with (h | ⟨o, h⟩) | h
  · exact .inl (.inl (e _ _ h))
  · exact .inl (.inr ⟨o, e _ _ h⟩)
  · exact .inr h
/-- all stays but what stands at h -/
def Kp (h : Addr) (H H' : Hp) : Prop := ∀ b o, H b = some o → b ≠ h → H' b = some o
theorem Kp.refl (h : Addr) (H : Hp) : Kp h H H := fun _ _ e _ => e
theorem Kp.trans {h : Addr} {H H1 H2 : Hp} (a : Kp h H H1) (b : Kp h H1 H2) : Kp h H H2 := fun c o e n => b c o (a c o e n) n
theorem Kp.same {h : Addr} {H H1 : Hp} (a : Same H H1) : Kp h H H1 := fun c o e _ => a c o e
theorem Kp.up {h p : Addr} {H H1 : Hp} {u : HO} (a : Kp h H H1) (hp : H1 p = none) : Kp h H (upd H1 p u) := fun c o e n => up1 hp (a c o e n)
theorem Kp.set {h : Addr} {H H1 : Hp} {u : HO} (a : Kp h H H1) : Kp h H (upd H1 h u) := fun c o e n => by
  rw [upd_ne n]; exact a c o e n
/-- a list other than that at h, the script among them -/
theorem Kp.seq {K : PySem.W.Frag} {h a : Addr} {H H1 : Hp} {xs : List V} (k : Kp h H H1) (n : a ≠ h) (s : SqL K H a xs) : SqL K H1 a xs := by
  rcases s with (s | ⟨o, s⟩) | s
  · exact .inl (.inl (k _ _ s n))
  · exact .inl (.inr ⟨o, k _ _ s n⟩)
  · exact .inr s
/-! ### the hand: a list of three ints, drawn from -/
def HandAt (H : Hp) (h : Addr) (n : Nat) : Prop := ∃ a b c : Int, H h = some (.lst [.int a, .int b, .int c]) ∧ 0 ≤ a ∧ 0 ≤ b ∧ b < 4611686018427387904 ∧ 0 ≤ c ∧ c ≤ n
theorem HandAt.mono {H : Hp} {h : Addr} {n m : Nat} (a : HandAt H h n) (l : n ≤ m) : HandAt H h m := by
  obtain ⟨x, y, z, h1, h2, h3, h4, h5, h6⟩ := a
  exact ⟨x, y, z, h1, h2, h3, h4, h5, by omega⟩
theorem HandAt.same {H H' : Hp} {h : Addr} {n : Nat} (a : HandAt H h n) (s : Same H H') : HandAt H' h n := by
  obtain ⟨x, y, z, h1, h2⟩ := a
  exact ⟨x, y, z, s _ _ h1, h2⟩
theorem HandAt.up {H : Hp} {h p : Addr} {u : HO} {n : Nat} (a : HandAt H h n) (hp : H p = none) : HandAt (upd H p u) h n := a.same (same1 hp)
theorem HandAt.ne {H : Hp} {h p : Addr} {n : Nat} (a : HandAt H h n) (hp : H p = none) : p ≠ h := by
  obtain ⟨x, y, z, h1, _⟩ := a
  exact (ne_of_none h1 hp).symm
def notHand : HO → Bool
  | .lst _ => false
  | _ => true
theorem HandAt.apart {H : Hp} {h p : Addr} {o : HO} {n : Nat} (a : HandAt H h n) (hp : H p = some o) (ho : notHand o = true) : p ≠ h := by
  obtain ⟨x, y, z, h1, _⟩ := a
  exact ne_of hp h1 (by intro e; rw [e] at ho; cases ho)
def sp_take : Sp := fun vs H Q _ => ∃ (h : Addr) (n : Nat) (m : Int), vs = [.ref h, .int m] ∧ HandAt H h n ∧ n < 1000000 ∧ 0 < m ∧ m.natAbs.log2 < 9000 ∧
  ∀ (d : Int) (H' : Hp), 0 ≤ d → d < m → HandAt H' h (n + 1) → Kp h H H' → Q (.int d) H'
def sp_hand (K : PySem.W.Frag) : Sp := fun vs H Q _ => ∃ (a : Addr) (ns : List Int) (k : Nat), vs = [.ref a, .int k] ∧ SqL K H a (ns.map V.int) ∧ k ≤ 1000 ∧
  ∀ (p : Addr) (H' : Hp), H p = none → Same H H' → HandAt H' p 0 → Q (.ref p) H'
/-! ### numbers -/
abbrev Sz (k : Nat) (z : Int) : Prop := z.natAbs < 2 ^ k
theorem Sz.mono {a b : Nat} {z : Int} (h : Sz a z) (l : a ≤ b) : Sz b z := Nat.lt_of_lt_of_le h (Nat.pow_le_pow_right (by decide) l)
theorem Sz.mul {a b : Nat} {x y : Int} (h : Sz a x) (g : Sz b y) : Sz (a + b) (x * y) := wide_lt h g
theorem Sz.add {a : Nat} {x y : Int} (h : Sz a x) (g : Sz a y) : Sz (a + 1) (x + y) := by
  show (x + y).natAbs < 2 ^ (a + 1)
  have h1 : x.natAbs < 2 ^ a := h
  have h2 : y.natAbs < 2 ^ a := g
  rw [Nat.pow_succ]; omega
theorem Sz.sub {a : Nat} {x y : Int} (h : Sz a x) (g : Sz a y) : Sz (a + 1) (x - y) := by
  show (x - y).natAbs < 2 ^ (a + 1)
  have h1 : x.natAbs < 2 ^ a := h
  have h2 : y.natAbs < 2 ^ a := g
  rw [Nat.pow_succ]; omega
theorem Sz.le {a : Nat} {x y : Int} (h : Sz a x) (l : y.natAbs ≤ x.natAbs) : Sz a y := Nat.lt_of_le_of_lt l h
theorem Sz.cmul {a b : Nat} {x y : Int} (h : Sz a x) (g : Sz b y) (h0 : 0 < a) (h1 : 0 < b) (l : a + b ≤ 1000000) : CMul x y ∨ CMulW x y := .inr (wide_mul h g h0 h1 l)
theorem Sz.log {a : Nat} {x : Int} (h : Sz a x) (h0 : 0 < a) (l : a ≤ 9000) : x.natAbs.log2 < 9000 := Nat.lt_of_lt_of_le (PySem.Flt.log2_lt_of h0 h) l
theorem dI {i j : Int} : decide (V.int i = V.int j) = decide (i = j) := by
  rw [dec_int, Bool.beq_eq_decide_eq]
/-- t / u is a / b in lowest terms -/
structure Fr (t u a b : Int) : Prop where
  pos : 0 < u
  eq : t * b = a * u
  co : Int.gcd t u = 1
  lt : t.natAbs ≤ a.natAbs
  lu : u.natAbs ≤ b.natAbs
def sgn (b : Int) : Int := if 0 < b then 1 else -1
theorem gcd_step {g s : Int} (hs : 0 < s) (hg : 0 ≤ g) : Int.gcd s (g % s) = Int.gcd g s := by
  obtain ⟨m, rfl⟩ := Int.eq_ofNat_of_zero_le hg
  obtain ⟨n, rfl⟩ := Int.eq_ofNat_of_zero_le (Int.le_of_lt hs)
  show Nat.gcd n (m % n) = Nat.gcd m n
  rw [Nat.gcd_comm m n, Nat.gcd_comm n (m % n), ← Nat.gcd_rec]
theorem fr_mk {a b c : Int} (hb : b ≠ 0) (hc : c = sgn b * (Int.gcd a b : Int)) : c ≠ 0 ∧ c.natAbs ≤ b.natAbs ∧ Fr (a.fdiv c) (b.fdiv c) a b := by
  have g0 : 0 < Int.gcd a b := Int.gcd_pos_of_ne_zero_right a hb
  have gd : (Int.gcd a b : Int) ∣ a := Int.gcd_dvd_left ..
  have gb : (Int.gcd a b : Int) ∣ b := Int.gcd_dvd_right ..
  have hs : sgn b = 1 ∨ sgn b = -1 := by unfold sgn; split <;> simp
  have cd : c ∣ a := by
    rcases hs with e | e <;> rw [hc, e]
    · rw [Int.one_mul]; exact gd
    · rw [Int.neg_one_mul]; exact (Int.neg_dvd).mpr gd
  have cb : c ∣ b := by
    rcases hs with e | e <;> rw [hc, e]
    · rw [Int.one_mul]; exact gb
    · rw [Int.neg_one_mul]; exact (Int.neg_dvd).mpr gb
  have cn : c.natAbs = Int.gcd a b := by
    rcases hs with e | e <;> rw [hc, e]
    · rw [Int.one_mul, Int.natAbs_natCast]
    · rw [Int.neg_one_mul, Int.natAbs_neg, Int.natAbs_natCast]
  have c0 : c ≠ 0 := by
    intro e; rw [e] at cn; simp at cn; omega
  have ta : a.fdiv c * c = a := Int.fdiv_mul_cancel cd
  have tb : b.fdiv c * c = b := Int.fdiv_mul_cancel cb
  have c1 : 1 ≤ c.natAbs := by omega
  have na : a.natAbs = (a.fdiv c).natAbs * c.natAbs := by rw [← Int.natAbs_mul, ta]
  have nb : b.natAbs = (b.fdiv c).natAbs * c.natAbs := by rw [← Int.natAbs_mul, tb]
  refine ⟨c0, ?_, ?_, ?_, ?_, ?_, ?_⟩
  · rw [cn]
    exact Nat.le_of_dvd (by omega) (Int.gcd_dvd_natAbs_right a b)
  · rcases Int.lt_trichotomy b 0 with h | h | h
    · have e : sgn b = -1 := by unfold sgn; rw [if_neg (by omega)]
      have cneg : c < 0 := by rw [hc, e]; omega
      rcases Int.lt_or_le 0 (b.fdiv c) with z | z
      · exact z
      · have : 0 ≤ b.fdiv c * c := Int.mul_nonneg_of_nonpos_of_nonpos z (by omega)
        omega
    · exact absurd h hb
    · have e : sgn b = 1 := by unfold sgn; rw [if_pos h]
      have cpos : 0 < c := by rw [hc, e]; omega
      rcases Int.lt_or_le 0 (b.fdiv c) with z | z
      · exact z
      · have : b.fdiv c * c ≤ 0 := Int.mul_nonpos_of_nonpos_of_nonneg z (by omega)
        omega
  · have : a.fdiv c * (b.fdiv c * c) = a.fdiv c * c * b.fdiv c := by
      rw [Int.mul_assoc, Int.mul_comm c]
    rw [tb, ta] at this
    exact this
  · have e : Int.gcd a b = Int.gcd (a.fdiv c) (b.fdiv c) * c.natAbs := by
      have := Int.gcd_mul_right (a.fdiv c) c (b.fdiv c)
      rw [ta, tb] at this
      exact this
    rw [← cn] at e
    have e2 : 1 * c.natAbs = Int.gcd (a.fdiv c) (b.fdiv c) * c.natAbs := by rw [Nat.one_mul]; exact e
    exact (Nat.eq_of_mul_eq_mul_right (by omega) e2).symm
  · rw [na]; exact Nat.le_mul_of_pos_right _ (by omega)
  · rw [nb]; exact Nat.le_mul_of_pos_right _ (by omega)
/-! ### a Measure -/
def mf (t u : Int) : List (Str × V) := [("top", .int t), ("bottom", .int u)]
theorem ne_tb : ¬ (("top" : Str) = "bottom") := by decide +kernel
theorem mf_put (t u : Int) : putF "bottom" (.int u) (putF "top" (.int t) []) = mf t u := by
  show (if ("top" : Str) = "bottom" then [(("top" : Str), V.int u)] else (("top" : Str), V.int t) :: putF "bottom" (V.int u) []) = mf t u
  rw [if_neg ne_tb] <;> rfl
theorem mf_top (t u : Int) : (mf t u).lookup ("top" : Str) = some (.int t) := by
  rw [← mf_put, lookup_putF, if_neg ne_tb, lookup_putF, if_pos rfl]
theorem mf_bottom (t u : Int) : (mf t u).lookup ("bottom" : Str) = some (.int u) := by
  rw [← mf_put, lookup_putF, if_pos rfl]
theorem mf_no (t u : Int) {m : Str} (h1 : ¬ m = "top") (h2 : ¬ m = "bottom") : (mf t u).lookup m = none := by
  rw [← mf_put, lookup_putF, if_neg h2, lookup_putF, if_neg h1] <;> rfl
def MAt (C : Addr) (H : Hp) (p : Addr) (t u : Int) : Prop := ∃ dx, H p = some (.ins C dx (mf t u))
theorem MAt.same {C p : Addr} {H H' : Hp} {t u : Int} (m : MAt C H p t u) (s : Same H H') : MAt C H' p t u := by
  obtain ⟨dx, h⟩ := m; exact ⟨dx, s _ _ h⟩
theorem MAt.kp {C p h : Addr} {H H' : Hp} {t u : Int} {n : Nat} (m : MAt C H p t u) (hh : HandAt H h n) (s : Kp h H H') : MAt C H' p t u := by
  obtain ⟨dx, e⟩ := m; exact ⟨dx, s _ _ e (hh.apart e rfl)⟩
def sp_minit (C : Addr) : Sp := fun vs H Q _ => ∃ (p dx : Addr) (a b : Int), vs = [.ref p, .int a, .int b] ∧ H p = some (.ins C dx []) ∧ b ≠ 0 ∧ b.natAbs.log2 < 9000 ∧
  ∀ (t u : Int) (H' : Hp), Fr t u a b → H' p = some (.ins C dx (mf t u)) → (∀ c o, H c = some o → c ≠ p → H' c = some o) → Q .non H'
theorem made {C : Addr} {H : Hp} {Q : VK} {E : XK} {a b : Int} (hb : b ≠ 0) (hl : b.natAbs.log2 < 9000) (k : ∀ (p : Addr) (t u : Int) (H' : Hp), H p = none → Same H H' → MAt C H' p t u → Fr t u a b → Q (.ref p) H') :
    ∀ x dx, H x = none → H dx = none → dx ≠ x → sp_minit C [.ref x, .int a, .int b] (upd (upd H dx (.own x)) x (.ins C dx [])) (fun v H2 => v = .non ∧ Q (.ref x) H2) E := by
  intro x dx nx nd ne
  refine ⟨x, dx, a, b, rfl, upd_same, hb, hl, fun t u H' fr hx kp => ⟨rfl, ?_⟩⟩
  refine k x t u H' nx (fun c o e => ?_) ⟨dx, hx⟩ fr
  have n1 : c ≠ x := ne_of_none e nx
  refine kp c o ?_ n1
  rw [upd_ne n1]
  exact up1 nd e
def sp_whole : Sp := fun vs H Q _ => ∃ n : Int, vs = [.int n] ∧ Q (.bl true) H
def sp_common : Sp := fun vs H Q _ => ∃ a b : Int, vs = [.int a, .int b] ∧ Q (.int (Int.gcd a b : Int)) H
def lessA (t u t' u' : Int) (al : Bool) : Bool := decide (t * u' < t' * u) || (al && decide (t * u' = t' * u))
def sp_below (C : Addr) : Sp := fun vs H Q _ => ∃ (p q : Addr) (t u t' u' : Int) (al : Bool), vs = [.ref p, .ref q, .bl al] ∧ MAt C H p t u ∧ MAt C H q t' u' ∧ Sz 9000 t ∧ Sz 9000 u ∧ Sz 9000 t' ∧ Sz 9000 u' ∧ Q (.bl (lessA t u t' u' al)) H
theorem Kp.get {h q : Addr} {H H' : Hp} {o : HO} {n : Nat} (k : Kp h H H') (hh : HandAt H h n) (e : H q = some o) (no : notHand o = true) : H' q = some o := k _ _ e (hh.apart e no)
theorem _root_.L2.Same.get {q : Addr} {H H' : Hp} {o : HO} (k : Same H H') (e : H q = some o) : H' q = some o := k _ _ e
theorem _root_.L2.Same.ofKp {h : Addr} {H H1 H2 : Hp} (s : Same H H1) (nh : H h = none) (k : Kp h H1 H2) : Same H H2 := fun c o e => k c o (s c o e) (ne_of_none e nh)
theorem _root_.L2.Same.up {p : Addr} {H H1 : Hp} {u : HO} (s : Same H H1) (hp : H1 p = none) : Same H (upd H1 p u) := s.trans (same1 hp)
theorem isTrueN {b : Bool} (h : ¬ b = true) : b = false := by cases b <;> simp_all
theorem sgn_cases (b : Int) : sgn b = 1 ∨ sgn b = -1 := by unfold sgn; split <;> simp
/-! ### rules with the written part by its name (for the blocks of comprehensions) -/
section
variable {X : Cx} {K : PySem.W.Frag}
theorem ixl (hK : X.K = K := by rfl) : IxR X (rIxL K) := by subst hK; exact ix_list
theorem ixt (hK : X.K = K := by rfl) : IxR X (rIxT K) := by subst hK; exact ix_tup
theorem isi (hK : X.K = K := by rfl) : CallR X (.builtin "isinstance") (rIsi K) := by subst hK; exact call_isi
theorem isiT (hK : X.K = K := by rfl) : CallR X (.builtin "isinstance") (rIsiT K) := by subst hK; exact call_isiT
def rLenS (K : PySem.W.Frag) : List V → Hp → VK → Prop := fun xs H Q => ∃ p ys, xs = [.ref p] ∧ (SqL K H p ys ∨ SqT K H p ys) ∧ Q (.int (ys.length : Int)) H
theorem lenS (hK : X.K = K := by rfl) : CallR X (.builtin "len") (rLenS K) := by subst hK; exact call_len_seq
theorem allK (hK : X.K = K := by rfl) (hc : X.calm = true := by rfl) : CallR X (.builtin "all") (rAll K) := by subst hK; exact cr_all hc
theorem inK (hK : X.K = K := by rfl) : OpR X (compareOp .In) (rIn K false) := by subst hK; exact op_in_seq
theorem slT (hK : X.K = K := by rfl) : SlR X (rSlT K) := by subst hK; exact sl_tup
theorem fldK {e : Expr} {f : Str} {pos : Pos} {ta : TE} (he : PE X e ta) (hb : attributeBase e f X.env (eval e X.env) = eval e X.env) (hK : X.K = K := by rfl) : PE X (.Attribute e f pos) (tFld K ta f) := by subst hK; exact pe_fld he hb
end
theorem yesT {te : TE} {σ : L2.St} {H : Hp} {N : VK} {M : Hp → Prop} (h : te σ H N) : tYes σ H (fun b H3 => if b = true then te σ H3 N else M H3) := by
  show (if true = true then te σ H N else M H)
  rw [if_pos rfl]; exact h
theorem made_same {H H' : Hp} {x dx C : Addr} (nx : H x = none) (nd : H dx = none) (kp : ∀ c o, (upd (upd H dx (.own x)) x (.ins C dx [])) c = some o → c ≠ x → H' c = some o) : Same H H' := fun c o e => by
  have n1 : c ≠ x := ne_of_none e nx
  refine kp c o ?_ n1
  rw [upd_ne n1]
  exact up1 nd e
/-! ### the head's facts, and more of them -/
theorem ex_at {ex : List (PySem.W.Frag → Bool)} {K : PySem.W.Frag} (c : (ex.all fun f => f K) = true) (i : Nat) {f : PySem.W.Frag → Bool} (h : ex[i]? = some f) : f K = true := List.all_eq_true.mp c f (List.mem_of_getElem? h)
/-- what isinstance asks of an own class -/
structure IsC (K : PySem.W.Frag) (C : Addr) : Prop where
  ha : PySem.W.findIn K (.ref C) "__class__" = some (some (.builtin "object.__class__"))
  hn : PySem.W.specialIn K (.builtin "object.__class__") "__get__" = some (some (.builtin "getset_descriptor.__get__"))
  htk : PySem.W.takesIn K (.builtin "object.__class__") = some true
  hm : PySem.W.mroIn K C (.type "object") = some true
def isCB (x : Str) : PySem.W.Frag → Bool := fun K => He.eqO (PySem.W.findIn K (.ref (He.ga K x)) "__class__") (some (some (.builtin "object.__class__"))) && (He.eqO (PySem.W.specialIn K (.builtin "object.__class__") "__get__") (some (some (.builtin "getset_descriptor.__get__"))) &&
  (decide (PySem.W.takesIn K (.builtin "object.__class__") = some true) && decide (PySem.W.mroIn K (He.ga K x) (.type "object") = some true)))
theorem isC_ok {x : Str} {K : PySem.W.Frag} (c : isCB x K = true) : IsC K (He.ga K x) := by
  obtain ⟨c1, c⟩ := He.ba c
  obtain ⟨c2, c⟩ := He.ba c
  obtain ⟨c3, c4⟩ := He.ba c
  exact ⟨He.eqO_ok c1, He.eqO_ok c2, of_decide_eq_true c3, of_decide_eq_true c4⟩
/-- a class by name: an own one, a built-in one -/
def cv (K : PySem.W.Frag) : Str ⊕ String → Value
  | .inl x => .ref (He.ga K x)
  | .inr n => .type n
def kitF (a b : Str ⊕ String) (r : Bool) : PySem.W.Frag → Bool := fun K => decide (PySem.W.kitOne K (cv K a) (cv K b) = some r)
theorem kitF_ok {a b : Str ⊕ String} {r : Bool} {K : PySem.W.Frag} (c : kitF a b r K = true) : PySem.W.kitOne K (cv K a) (cv K b) = some r := of_decide_eq_true c
theorem tyM {K : PySem.W.Frag} {H : Hp} {a C dx : Addr} {fs : List (Str × V)} (e : H a = some (.ins C dx fs)) (cl : Cls K C) (i : IsC K C) : TyX K H (.ref a) (.ref C) := .base (.ins e cl i.ha i.hn i.htk i.hm)
/-! ### sums and parts of Measures -/
/-- the same fraction once more -/
theorem Fr.of {t u a b c d : Int} (f : Fr t u a b) (hb : b ≠ 0) (e : a * d = c * b) : t * d = c * u := by
  have h1 := f.eq
  have h2 : (t * d) * b = (c * u) * b := by
    calc (t * d) * b = (t * b) * d := by simp only [Int.mul_assoc, Int.mul_comm, Int.mul_left_comm]
      _ = (a * u) * d := by rw [h1]
      _ = (a * d) * u := by simp only [Int.mul_assoc, Int.mul_comm, Int.mul_left_comm]
      _ = (c * b) * u := by rw [e]
      _ = (c * u) * b := by simp only [Int.mul_assoc, Int.mul_comm, Int.mul_left_comm]
  exact Int.eq_of_mul_eq_mul_right hb h2
/-- what stood at the start stands (by another name than the steps') -/
structure Old (H H' : Hp) : Prop where
  s : Same H H'
theorem Old.refl (H : Hp) : Old H H := ⟨Same.refl _⟩
theorem Old.up {p : Addr} {H H1 : Hp} {u : HO} (a : Old H H1) (hp : H1 p = none) : Old H (upd H1 p u) := ⟨a.s.up hp⟩
theorem Old.then {H H1 H2 : Hp} (a : Old H H1) (b : Same H1 H2) : Old H H2 := ⟨a.s.trans b⟩
theorem Old.kp {h : Addr} {H H1 H2 : Hp} (a : Old H H1) (nh : H h = none) (k : Kp h H1 H2) : Old H H2 := ⟨a.s.ofKp nh k⟩
theorem Old.put {h : Addr} {H H1 : Hp} {u : HO} (a : Old H H1) (nh : H h = none) : Old H (upd H1 h u) := ⟨fun c o e => by rw [upd_ne (ne_of_none e nh)]; exact a.s _ _ e⟩
/-- a list is changed, what is no list stays -/
theorem up2 {H : Hp} {l x : Addr} {xs : List V} {o u : HO} (hl : H l = some (.lst xs)) (hx : H x = some o) (no : notHand o = true) : upd H l u x = some o := by
  rw [upd_ne (ne_of hx hl (by intro e; rw [e] at no; cases no))]; exact hx
end My
namespace My
open PySem PySem.Spec PyProof.Rows L2
/-! ### fractions as pairs, stretches as ends -/
abbrev Q2 := Int × Int
def ltq (a b : Q2) : Bool := decide (a.1 * b.2 < b.1 * a.2)
def eqq (a b : Q2) : Bool := decide (a.1 * b.2 = b.1 * a.2)
def someB : Option Q2 → Option Q2 → Bool → Bool → Bool
  | some a, some b, ia, ib => ltq a b || (eqq a b && ia && ib)
  | _, _, _, _ => true
def Re (a b : Q2) : Prop := 0 < a.2 ∧ 0 < b.2 ∧ a.1 * b.2 = b.1 * a.2
def ReO : Option Q2 → Option Q2 → Prop
  | none, none => True
  | some a, some b => Re a b
  | _, _ => False
theorem Re.symm {a b : Q2} (h : Re a b) : Re b a := ⟨h.2.1, h.1, h.2.2.symm⟩
theorem Re.refl {a : Q2} (h : 0 < a.2) : Re a a := ⟨h, h, rfl⟩
theorem ReO.symm : ∀ {a b : Option Q2}, ReO a b → ReO b a
  | none, none, _ => trivial
  | some _, some _, h => Re.symm h
  | none, some _, h => h.elim
  | some _, none, h => h.elim
theorem pos_key {a b c d : Q2} (h : Re a c) (g : Re b d) : (a.1 * b.2) * (c.2 * d.2) = (c.1 * d.2) * (a.2 * b.2) := by
  have := h.2.2
  grind
theorem pos_key' {a b c d : Q2} (h : Re a c) (g : Re b d) : (b.1 * a.2) * (c.2 * d.2) = (d.1 * c.2) * (a.2 * b.2) := by
  have := g.2.2
  grind
theorem ltq_congr {a b c d : Q2} (h : Re a c) (g : Re b d) : ltq a b = ltq c d := by
  unfold ltq
  have k1 := pos_key h g
  have k2 := pos_key' h g
  have p1 : 0 < c.2 * d.2 := Int.mul_pos h.2.1 g.2.1
  have p2 : 0 < a.2 * b.2 := Int.mul_pos h.1 g.1
  refine decide_eq_decide.mpr ⟨fun x => ?_, fun x => ?_⟩
  · have := Int.mul_lt_mul_of_pos_right x p1
    rw [k1, k2] at this
    exact Int.lt_of_mul_lt_mul_right this (Int.le_of_lt p2)
  · have := Int.mul_lt_mul_of_pos_right x p2
    rw [← k1, ← k2] at this
    exact Int.lt_of_mul_lt_mul_right this (Int.le_of_lt p1)
theorem eqq_congr {a b c d : Q2} (h : Re a c) (g : Re b d) : eqq a b = eqq c d := by
  unfold eqq
  have k1 := pos_key h g
  have k2 := pos_key' h g
  have p1 : 0 < c.2 * d.2 := Int.mul_pos h.2.1 g.2.1
  have p2 : 0 < a.2 * b.2 := Int.mul_pos h.1 g.1
  refine decide_eq_decide.mpr ⟨fun x => ?_, fun x => ?_⟩
  · rw [x] at k1
    rw [k1] at k2
    exact Int.eq_of_mul_eq_mul_right (by omega) k2
  · rw [x] at k1
    rw [← k2] at k1
    exact Int.eq_of_mul_eq_mul_right (by omega) k1
theorem someB_congr : ∀ {a b c d : Option Q2} {i j : Bool}, ReO a c → ReO b d → someB a b i j = someB c d i j
  | some a, some b, some c, some d, i, j, h, g => by
    show (ltq a b || (eqq a b && i && j)) = (ltq c d || (eqq c d && i && j))
    rw [ltq_congr h g, eqq_congr h g]
  | none, some _, none, some _, _, _, _, _ => rfl
  | none, none, none, none, _, _, _, _ => rfl
  | some _, none, some _, none, _, _, _, _ => rfl
  | some _, _, none, _, _, _, h, _ => h.elim
  | none, _, some _, _, _, _, h, _ => h.elim
  | some _, some _, some _, none, _, _, _, g => g.elim
  | some _, none, some _, some _, _, _, _, g => g.elim
  | none, some _, none, none, _, _, _, g => g.elim
  | none, none, none, some _, _, _, _, g => g.elim
theorem lt_tri (a b : Q2) : (ltq a b = true ∧ eqq a b = false ∧ ltq b a = false) ∨ (ltq a b = false ∧ eqq a b = true ∧ ltq b a = false) ∨ (ltq a b = false ∧ eqq a b = false ∧ ltq b a = true) := by
  unfold ltq eqq
  rcases Int.lt_trichotomy (a.1 * b.2) (b.1 * a.2) with h | h | h
  · exact .inl ⟨decide_eq_true h, decide_eq_false (by omega), decide_eq_false (by omega)⟩
  · exact .inr (.inl ⟨decide_eq_false (by omega), decide_eq_true h, decide_eq_false (by omega)⟩)
  · exact .inr (.inr ⟨decide_eq_false (by omega), decide_eq_false (by omega), decide_eq_true h⟩)
/-- in lowest terms, its numbers of less than four thousand bits -/
structure Low (a : Q2) : Prop where
  pos : 0 < a.2
  co : Int.gcd a.1 a.2 = 1
  s1 : Sz 4000 a.1
  s2 : Sz 4000 a.2
def LowO : Option Q2 → Prop
  | none => True
  | some a => Low a
theorem dvd_co {a b c : Int} (h : a ∣ b * c) (g : Int.gcd a b = 1) : a ∣ c := by
  have h1 : a.natAbs ∣ b.natAbs * c.natAbs := by rw [← Int.natAbs_mul]; exact Int.natAbs_dvd_natAbs.mpr h
  exact Int.natAbs_dvd_natAbs.mp (Nat.Coprime.dvd_of_dvd_mul_left g h1)
theorem low_eq {a b : Q2} (h : Low a) (g : Low b) (e : a.1 * b.2 = b.1 * a.2) : a = b := by
  have h1 := h.pos
  have g1 := g.pos
  have d1 : a.2 ∣ b.2 := by
    have : a.2 ∣ a.1 * b.2 := ⟨b.1, by rw [e, Int.mul_comm]⟩
    exact dvd_co this (by rw [Int.gcd_comm]; exact h.co)
  have d2 : b.2 ∣ a.2 := by
    have : b.2 ∣ b.1 * a.2 := ⟨a.1, by rw [← e, Int.mul_comm]⟩
    exact dvd_co this (by rw [Int.gcd_comm]; exact g.co)
  have e2 : a.2 = b.2 := Int.le_antisymm (Int.le_of_dvd g1 d1) (Int.le_of_dvd h1 d2)
  rw [e2] at e
  exact Prod.ext (Int.eq_of_mul_eq_mul_right (by omega) e) e2
theorem low_eqq {a b : Q2} (h : Low a) (g : Low b) : (decide (a.1 = b.1) && decide (a.2 = b.2)) = eqq a b := by
  unfold eqq
  by_cases e : a.1 * b.2 = b.1 * a.2
  · rw [decide_eq_true e, low_eq h g e]; simp
  · rw [decide_eq_false e]
    cases z1 : decide (a.1 = b.1) with
    | false => rfl
    | true =>
      cases z2 : decide (a.2 = b.2) with
      | false => rfl
      | true =>
        exact absurd (by rw [of_decide_eq_true z1, of_decide_eq_true z2]) e
/-! ### their values -/
/-- None, or the tuple of an end's two numbers -/
def EndV (k : Nat) (H : Hp) (v : V) : Option Q2 → Prop
  | none => v = .non
  | some a => ∃ p, v = .ref p ∧ H p = some (.tup [.int a.1, .int a.2]) ∧ 0 < a.2 ∧ Sz k a.1 ∧ Sz k a.2
theorem EndV.mono {k j : Nat} (l : k ≤ j) {H : Hp} {v : V} : ∀ {e : Option Q2}, EndV k H v e → EndV j H v e
  | none, h => h
  | some _, ⟨p, h1, h2, h3, h4, h5⟩ => ⟨p, h1, h2, h3, h4.mono l, h5.mono l⟩
def MsV (C : Addr) (H : Hp) (v : V) : Option Q2 → Prop
  | none => v = .non
  | some a => ∃ p, v = .ref p ∧ MAt C H p a.1 a.2
theorem EndV.same {k : Nat} {H H' : Hp} {v : V} : ∀ {e : Option Q2}, EndV k H v e → Same H H' → EndV k H' v e
  | none, h, _ => h
  | some _, ⟨p, h1, h2, h3⟩, s => ⟨p, h1, s _ _ h2, h3⟩
theorem EndV.kp {j : Nat} {H H' : Hp} {h : Addr} {n : Nat} {v : V} : ∀ {e : Option Q2}, EndV j H v e → HandAt H h n → Kp h H H' → EndV j H' v e
  | none, h, _, _ => h
  | some _, ⟨p, h1, h2, h3⟩, hh, k => ⟨p, h1, k.get hh h2 rfl, h3⟩
theorem MsV.same {C : Addr} {H H' : Hp} {v : V} : ∀ {e : Option Q2}, MsV C H v e → Same H H' → MsV C H' v e
  | none, h, _ => h
  | some _, ⟨p, h1, h2⟩, s => ⟨p, h1, h2.same s⟩
theorem MsV.kp {C : Addr} {H H' : Hp} {h : Addr} {n : Nat} {v : V} : ∀ {e : Option Q2}, MsV C H v e → HandAt H h n → Kp h H H' → MsV C H' v e
  | none, h, _, _ => h
  | some _, ⟨p, h1, h2⟩, hh, k => ⟨p, h1, h2.kp hh k⟩
/-! ### a Stretch -/
def sf (l h : V) (li hi : Bool) : List (Str × V) := [("low", l), ("high", h), ("low_in", .bl li), ("high_in", .bl hi)]
theorem sf_put (l h : V) (li hi : Bool) : putF "high_in" (.bl hi) (putF "low_in" (.bl li) (putF "high" h (putF "low" l []))) = sf l h li hi := by
  have e1 : putF ("high" : Str) h (putF ("low" : Str) l []) = ([("low", l), ("high", h)] : List (Str × V)) := by
    show (if ("low" : Str) = "high" then [(("low" : Str), h)] else (("low" : Str), l) :: putF "high" h []) = _
    rw [if_neg (by decide +kernel)] <;> rfl
  have e2 : putF ("low_in" : Str) (.bl li) [("low", l), ("high", h)] = ([("low", l), ("high", h), ("low_in", .bl li)] : List (Str × V)) := by
    show (if ("low" : Str) = "low_in" then _ else (("low" : Str), l) :: (if ("high" : Str) = "low_in" then _ else (("high" : Str), h) :: putF "low_in" (V.bl li) [])) = _
    rw [if_neg (by decide +kernel), if_neg (by decide +kernel)] <;> rfl
  have e3 : putF ("high_in" : Str) (.bl hi) [("low", l), ("high", h), ("low_in", .bl li)] = sf l h li hi := by
    show (if ("low" : Str) = "high_in" then _ else (("low" : Str), l) :: (if ("high" : Str) = "high_in" then _ else (("high" : Str), h) :: (if ("low_in" : Str) = "high_in" then _ else (("low_in" : Str), V.bl li) :: putF "high_in" (V.bl hi) []))) = _
    rw [if_neg (by decide +kernel), if_neg (by decide +kernel), if_neg (by decide +kernel)] <;> rfl
  rw [e1, e2, e3]
theorem sf_low (l h : V) (li hi : Bool) : (sf l h li hi).lookup ("low" : Str) = some l := by
  rw [← sf_put, lookup_putF, if_neg (by decide +kernel), lookup_putF, if_neg (by decide +kernel), lookup_putF, if_neg (by decide +kernel), lookup_putF, if_pos rfl]
theorem sf_high (l h : V) (li hi : Bool) : (sf l h li hi).lookup ("high" : Str) = some h := by
  rw [← sf_put, lookup_putF, if_neg (by decide +kernel), lookup_putF, if_neg (by decide +kernel), lookup_putF, if_pos rfl]
theorem sf_low_in (l h : V) (li hi : Bool) : (sf l h li hi).lookup ("low_in" : Str) = some (.bl li) := by
  rw [← sf_put, lookup_putF, if_neg (by decide +kernel), lookup_putF, if_pos rfl]
theorem sf_high_in (l h : V) (li hi : Bool) : (sf l h li hi).lookup ("high_in" : Str) = some (.bl hi) := by
  rw [← sf_put, lookup_putF, if_pos rfl]
theorem sf_no (l h : V) (li hi : Bool) {m : Str} (h1 : ¬ m = "low") (h2 : ¬ m = "high") (h3 : ¬ m = "low_in") (h4 : ¬ m = "high_in") : (sf l h li hi).lookup m = none := by
  rw [← sf_put, lookup_putF, if_neg h4, lookup_putF, if_neg h3, lookup_putF, if_neg h2, lookup_putF, if_neg h1] <;> rfl
/-- a Stretch at p: its ends, whether they are in -/
structure StAt (CM CS : Addr) (H : Hp) (p : Addr) (lo hi : Option Q2) (li hj : Bool) : Prop where
  ob : ∃ dx l h, H p = some (.ins CS dx (sf l h li hj)) ∧ MsV CM H l lo ∧ MsV CM H h hi
  l1 : LowO lo
  l2 : LowO hi
  n1 : lo = none → li = false
  n2 : hi = none → hj = false
theorem StAt.same {CM CS p : Addr} {H H' : Hp} {lo hi : Option Q2} {li hj : Bool} (a : StAt CM CS H p lo hi li hj) (s : Same H H') : StAt CM CS H' p lo hi li hj := by
  obtain ⟨⟨dx, l, h, h1, h2, h3⟩, a1, a2, a3, a4⟩ := a
  exact ⟨⟨dx, l, h, s _ _ h1, h2.same s, h3.same s⟩, a1, a2, a3, a4⟩
theorem StAt.kp {CM CS p h : Addr} {H H' : Hp} {n : Nat} {lo hi : Option Q2} {li hj : Bool} (a : StAt CM CS H p lo hi li hj) (hh : HandAt H h n) (s : Kp h H H') : StAt CM CS H' p lo hi li hj := by
  obtain ⟨⟨dx, l, h, h1, h2, h3⟩, a1, a2, a3, a4⟩ := a
  exact ⟨⟨dx, l, h, s.get hh h1 rfl, h2.kp hh s, h3.kp hh s⟩, a1, a2, a3, a4⟩
theorem cmpBack_of {X : Cx} {pins : List (Addr × Obj)} {σ : L2.St} {Q : VK} {u : Value} {s' : Shared} (h : EP X pins σ Q u s') : PySem.W.CmpBack (EP X pins σ Q) u s' := by
  have h0 := h
  obtain ⟨v, H', I', r, q⟩ := h
  cases v with
  | non => cases r; exact h0
  | bl _ => cases r; exact h0
  | int _ => obtain ⟨t, rfl⟩ := r; exact h0
  | str _ => obtain ⟨t, rfl⟩ := r; exact h0
  | byt _ => obtain ⟨t, rfl⟩ := r; exact h0
  | flt _ => obtain ⟨t, rfl⟩ := r; exact h0
  | ref _ => cases r; exact h0
  | ty _ => cases r; exact h0
/-- == by an own __eq__, of two instances of one class -/
theorem op_eqI {X : Cx} {CX : CXT} {n : Nat} {C f : Addr} {fd : FuncData} {ps : List Str} {sp : Sp} {E : XK} (F : FnOk X.prog X.w X.K X.mg X.base CX n f fd ps sp) (hr : Room n X.A) {ds : List Value} (hm : Meth X.K C "__eq__" f) (hb : Binds X.K fd ps ds) (hd : Vals [] ds) (hx : Passes CX X E) :
    OpR X (compareOp .Eq) (fun x y H Q => ∃ a b dx dy fs gs, x = .ref a ∧ y = .ref b ∧ H a = some (.ins C dx fs) ∧ H b = some (.ins C dy gs) ∧ sp [.ref a, .ref b] H Q E) := by
  intro pins s σ H x y v u Q I rx ry hq
  obtain ⟨a, b, dx, dy, fs, gs, rfl, rfl, ha, hb', hsp⟩ := hq
  cases rx
  cases ry
  show wpAny (model X.prog X.w) X.A (richCompare .Eq (.ref a) (.ref b)) (EP X pins σ Q) X.xe s
  obtain ⟨mA, J, _⟩ := ins_get I.hok ha
  obtain ⟨mB, J', _⟩ := ins_get I.hok hb'
  obtain ⟨od, J, _⟩ := J.look
  obtain ⟨od', J', _⟩ := J'.look
  obtain ⟨m, hF⟩ := I.fr
  refine PySem.W.cmp_K (op := .Eq) (tb := .ref C) hr.units0 hF I.ok.mod.kin J J'.type (by simp [PySem.W.notFirst]) hm.at_ hm.fn ?_
  refine thn ?_ fun u s' => cmpBack_of
  exact run_fn (us := [.ref a, .ref b]) (vs := [.ref a, .ref b]) F hr hb hd hx I (.cons rfl (.cons rfl .nil)) hsp
/-! ### promises -/
/-- the tuple of two ends and two truths, between which something is -/
structure EndsAt (H : Hp) (p : Addr) (ea eb : Option Q2) (ia ib : Bool) : Prop where
  ob : ∃ va vb, H p = some (.tup [va, vb, .bl ia, .bl ib]) ∧ EndV 140 H va ea ∧ EndV 140 H vb eb
  so : someB ea eb ia ib = true
theorem EndsAt.same {H H' : Hp} {p : Addr} {ea eb : Option Q2} {ia ib : Bool} (a : EndsAt H p ea eb ia ib) (s : Same H H') : EndsAt H' p ea eb ia ib := by
  obtain ⟨⟨va, vb, h1, h2, h3⟩, h4⟩ := a
  exact ⟨⟨va, vb, s _ _ h1, h2.same s, h3.same s⟩, h4⟩
theorem EndsAt.kp {H H' : Hp} {p h : Addr} {n : Nat} {ea eb : Option Q2} {ia ib : Bool} (a : EndsAt H p ea eb ia ib) (hh : HandAt H h n) (s : Kp h H H') : EndsAt H' p ea eb ia ib := by
  obtain ⟨⟨va, vb, h1, h2, h3⟩, h4⟩ := a
  exact ⟨⟨va, vb, s.get hh h1 rfl, h2.kp hh s, h3.kp hh s⟩, h4⟩
def sp_isend (CM : Addr) : Sp := fun vs H Q _ => ∃ (v : V) (m : Option Q2), vs = [v] ∧ MsV CM H v m ∧ Q (.bl true) H
def sp_meq (CM : Addr) : Sp := fun vs H Q _ => ∃ (p q : Addr) (a b : Q2), vs = [.ref p, .ref q] ∧ MAt CM H p a.1 a.2 ∧ MAt CM H q b.1 b.2 ∧ Q (.bl (decide (a.1 = b.1) && decide (a.2 = b.2))) H
def sp_empty (CM : Addr) : Sp := fun vs H Q _ => ∃ (l h : V) (lo hi : Option Q2) (li hj : Bool), vs = [l, h, .bl li, .bl hj] ∧ MsV CM H l lo ∧ MsV CM H h hi ∧ LowO lo ∧ LowO hi ∧ Q (.bl (!someB lo hi li hj)) H
def sp_sinit (CM CS : Addr) : Sp := fun vs H Q _ => ∃ (p dx : Addr) (l h : V) (lo hi : Option Q2) (li hj : Bool), vs = [.ref p, l, h, .bl li, .bl hj] ∧ H p = some (.ins CS dx []) ∧ MsV CM H l lo ∧ MsV CM H h hi ∧ LowO lo ∧ LowO hi ∧ someB lo hi li hj = true ∧
  ∀ H', H' p = some (.ins CS dx (sf l h (li && lo.isSome) (hj && hi.isSome))) → (∀ q o, H q = some o → q ≠ p → H' q = some o) → Q .non H'
theorem MsV.put {CM p C dx : Addr} {H : Hp} {v : V} {o : HO} (hp : H p = some (.ins C dx [])) : ∀ {m : Option Q2}, MsV CM H v m → MsV CM (upd H p o) v m
  | none, h => h
  | some _, ⟨q, h1, ⟨dy, h2⟩⟩ => ⟨q, h1, ⟨dy, by
      rw [upd_ne (ne_of h2 hp (by intro e; injection e with _ _ e; cases e))]; exact h2⟩⟩
theorem StAt.mk' {CM CS p dx : Addr} {H H' : Hp} {l h : V} {lo hi : Option Q2} {li hj : Bool} (h1 : H' p = some (.ins CS dx (sf l h (li && lo.isSome) (hj && hi.isSome)))) (s : Same H H') (ml : MsV CM H l lo) (mh : MsV CM H h hi) (l1 : LowO lo) (l2 : LowO hi) :
    StAt CM CS H' p lo hi (li && lo.isSome) (hj && hi.isSome) :=
  ⟨⟨dx, l, h, h1, ml.same s, mh.same s⟩, l1, l2, fun e => by rw [e]; simp, fun e => by rw [e]; simp⟩
theorem ReO.isS : ∀ {a b : Option Q2}, ReO a b → a.isSome = b.isSome
  | none, none, _ => rfl
  | some _, some _, _ => rfl
  | none, some _, h => h.elim
  | some _, none, h => h.elim
/-! ### what two stretches have in common -/
def cutLo : Option Q2 → Bool → Option Q2 → Bool → Option Q2 × Bool
  | none, _, n, j => (n, j)
  | some a, i, none, _ => (some a, i)
  | some a, i, some b, j => if ltq a b then (some b, j) else if eqq a b then (some a, i && j) else (some a, i)
def cutHi : Option Q2 → Bool → Option Q2 → Bool → Option Q2 × Bool
  | none, _, n, j => (n, j)
  | some a, i, none, _ => (some a, i)
  | some a, i, some b, j => if ltq b a then (some b, j) else if eqq a b then (some a, i && j) else (some a, i)
/-- the same end, and in or not alike where there is one -/
def Alike (x y : Option Q2 × Bool) : Prop := ReO x.1 y.1 ∧ (x.1.isSome = true → x.2 = y.2)
theorem Alike.flag {x y : Option Q2 × Bool} (h : Alike x y) : (x.2 && x.1.isSome) = (y.2 && y.1.isSome) := by
  obtain ⟨h1, h2⟩ := h
  rw [← h1.isS]
  cases e : x.1.isSome with
  | true => rw [h2 e]
  | false => simp
theorem Alike.someB {x y z w : Option Q2 × Bool} (h : Alike x y) (g : Alike z w) : My.someB x.1 z.1 x.2 z.2 = My.someB y.1 w.1 y.2 w.2 := by
  obtain ⟨x, i⟩ := x
  obtain ⟨y, j⟩ := y
  obtain ⟨z, k⟩ := z
  obtain ⟨w, l⟩ := w
  obtain ⟨h1, h2⟩ := h
  obtain ⟨g1, g2⟩ := g
  rw [someB_congr h1 g1]
  cases x with
  | none => cases y with
    | none => rfl
    | some _ => exact h1.elim
  | some a => cases z with
    | none => cases w with
      | none => cases y <;> rfl
      | some _ => exact g1.elim
    | some b =>
      have e1 : i = j := h2 rfl
      have e2 : k = l := g2 rfl
      rw [e1, e2]
theorem Alike.norm {a b : Option Q2} {i : Bool} (h : ReO a b) : Alike (a, i && b.isSome) (b, i) := ⟨h, fun e => by
  have e1 : a.isSome = true := e
  rw [h.isS] at e1
  show (i && b.isSome) = i
  rw [e1]; simp⟩
theorem cutLo_alike {x y z w : Option Q2 × Bool} (h : Alike x y) (g : Alike z w) : Alike (cutLo x.1 x.2 z.1 z.2) (cutLo y.1 y.2 w.1 w.2) := by
  obtain ⟨x, i⟩ := x
  obtain ⟨y, j⟩ := y
  obtain ⟨z, k⟩ := z
  obtain ⟨w, l⟩ := w
  obtain ⟨h1, h2⟩ := h
  obtain ⟨g1, g2⟩ := g
  cases x with
  | none => cases y with
    | none => exact ⟨g1, g2⟩
    | some _ => exact h1.elim
  | some a => cases y with
    | none => exact h1.elim
    | some a' => cases z with
      | none => cases w with
        | none => exact ⟨h1, h2⟩
        | some _ => exact g1.elim
      | some b => cases w with
        | none => exact g1.elim
        | some b' =>
          have e1 : i = j := h2 rfl
          have e2 : k = l := g2 rfl
          show Alike (if ltq a b then (some b, k) else if eqq a b then (some a, i && k) else (some a, i)) (if ltq a' b' then (some b', l) else if eqq a' b' then (some a', j && l) else (some a', j))
          rw [ltq_congr h1 g1, eqq_congr h1 g1, e1, e2]
          split
          · exact ⟨g1, fun _ => rfl⟩
          · split
            · exact ⟨h1, fun _ => rfl⟩
            · exact ⟨h1, fun _ => rfl⟩
theorem cutHi_alike {x y z w : Option Q2 × Bool} (h : Alike x y) (g : Alike z w) : Alike (cutHi x.1 x.2 z.1 z.2) (cutHi y.1 y.2 w.1 w.2) := by
  obtain ⟨x, i⟩ := x
  obtain ⟨y, j⟩ := y
  obtain ⟨z, k⟩ := z
  obtain ⟨w, l⟩ := w
  obtain ⟨h1, h2⟩ := h
  obtain ⟨g1, g2⟩ := g
  cases x with
  | none => cases y with
    | none => exact ⟨g1, g2⟩
    | some _ => exact h1.elim
  | some a => cases y with
    | none => exact h1.elim
    | some a' => cases z with
      | none => cases w with
        | none => exact ⟨h1, h2⟩
        | some _ => exact g1.elim
      | some b => cases w with
        | none => exact g1.elim
        | some b' =>
          have e1 : i = j := h2 rfl
          have e2 : k = l := g2 rfl
          show Alike (if ltq b a then (some b, k) else if eqq a b then (some a, i && k) else (some a, i)) (if ltq b' a' then (some b', l) else if eqq a' b' then (some a', j && l) else (some a', j))
          rw [ltq_congr g1 h1, eqq_congr h1 g1, e1, e2]
          split
          · exact ⟨g1, fun _ => rfl⟩
          · split
            · exact ⟨h1, fun _ => rfl⟩
            · exact ⟨h1, fun _ => rfl⟩
theorem cutLo_low {a b : Option Q2} {i j : Bool} (h : LowO a) (g : LowO b) : LowO (cutLo a i b j).1 := by
  cases a with
  | none => exact g
  | some a => cases b with
    | none => exact h
    | some b =>
      show LowO (if ltq a b then (some b, j) else if eqq a b then (some a, i && j) else (some a, i)).1
      split
      · exact g
      · split <;> exact h
theorem cutHi_low {a b : Option Q2} {i j : Bool} (h : LowO a) (g : LowO b) : LowO (cutHi a i b j).1 := by
  cases a with
  | none => exact g
  | some a => cases b with
    | none => exact h
    | some b =>
      show LowO (if ltq b a then (some b, j) else if eqq a b then (some a, i && j) else (some a, i)).1
      split
      · exact g
      · split <;> exact h
def sp_cutEnd (CM CS : Addr) (f : Option Q2 → Option Q2 → Bool → Bool → Option Q2 → Option Q2 → Bool → Bool → Option Q2 × Bool) : Sp := fun vs H Q _ => ∃ (p q : Addr) (m1 m2 n1 n2 : Option Q2) (i1 i2 j1 j2 : Bool), vs = [.ref p, .ref q] ∧ StAt CM CS H p m1 m2 i1 i2 ∧ StAt CM CS H q n1 n2 j1 j2 ∧
  ∀ (r : Addr) (v : V) (H' : Hp), Same H H' → H' r = some (.tup [v, .bl (f m1 m2 i1 i2 n1 n2 j1 j2).2]) → MsV CM H' v (f m1 m2 i1 i2 n1 n2 j1 j2).1 → Q (.ref r) H'
/-- a Stretch, or None where nothing is between -/
def CutV (CM CS : Addr) (H : Hp) (v : V) (lo hi : Option Q2 × Bool) : Prop :=
  (someB lo.1 hi.1 lo.2 hi.2 = true ∧ ∃ r, v = .ref r ∧ StAt CM CS H r lo.1 hi.1 (lo.2 && lo.1.isSome) (hi.2 && hi.1.isSome)) ∨ (someB lo.1 hi.1 lo.2 hi.2 = false ∧ v = .non)
def sp_cutS (CM CS : Addr) : Sp := fun vs H Q _ => ∃ (p q : Addr) (m1 m2 n1 n2 : Option Q2) (i1 i2 j1 j2 : Bool), vs = [.ref p, .ref q] ∧ StAt CM CS H p m1 m2 i1 i2 ∧ StAt CM CS H q n1 n2 j1 j2 ∧
  ∀ (v : V) (H' : Hp), Same H H' → CutV CM CS H' v (cutLo m1 i1 n1 j1) (cutHi m2 i2 n2 j2) → Q v H'
/-- the law's own: a tuple of four, or None -/
def DueV (H : Hp) (v : V) (lo hi : Option Q2 × Bool) : Prop :=
  (someB lo.1 hi.1 lo.2 hi.2 = true ∧ ∃ r, v = .ref r ∧ EndsAt H r lo.1 hi.1 lo.2 hi.2) ∨ (someB lo.1 hi.1 lo.2 hi.2 = false ∧ v = .non)
theorem DueV.same {H H' : Hp} {v : V} {lo hi : Option Q2 × Bool} (h : DueV H v lo hi) (s : Same H H') : DueV H' v lo hi := by
  rcases h with ⟨h1, r, h2, h3⟩ | h
  · exact .inl ⟨h1, r, h2, h3.same s⟩
  · exact .inr h
theorem CutV.same {CM CS : Addr} {H H' : Hp} {v : V} {lo hi : Option Q2 × Bool} (h : CutV CM CS H v lo hi) (s : Same H H') : CutV CM CS H' v lo hi := by
  rcases h with ⟨h1, r, h2, h3⟩ | h
  · exact .inl ⟨h1, r, h2, h3.same s⟩
  · exact .inr h
/-- what is told is what is due -/
def Match (CM CS : Addr) (H : Hp) (found due : V) : Prop :=
  (found = .non ∧ due = .non) ∨ ∃ (r d : Addr) (lo hi ea eb : Option Q2) (ia ib : Bool), found = .ref r ∧ due = .ref d ∧ EndsAt H d ea eb ia ib ∧ StAt CM CS H r lo hi (ia && ea.isSome) (ib && eb.isSome) ∧ ReO lo ea ∧ ReO hi eb
theorem Match.same {CM CS : Addr} {H H' : Hp} {f d : V} (h : Match CM CS H f d) (s : Same H H') : Match CM CS H' f d := by
  rcases h with h | ⟨r, d, lo, hi, ea, eb, ia, ib, h1, h2, h3, h4, h5, h6⟩
  · exact .inl h
  · exact .inr ⟨r, d, lo, hi, ea, eb, ia, ib, h1, h2, h3.same s, h4.same s, h5, h6⟩
theorem Re.trans {a b c : Q2} (h : Re a b) (g : Re b c) : Re a c := by
  obtain ⟨h1, h2, h3⟩ := h
  obtain ⟨g1, g2, g3⟩ := g
  refine ⟨h1, g2, Int.eq_of_mul_eq_mul_right (show b.2 ≠ 0 by omega) ?_⟩
  grind
theorem ReO.trans : ∀ {a b c : Option Q2}, ReO a b → ReO b c → ReO a c
  | none, none, none, _, _ => trivial
  | some _, some _, some _, h, g => Re.trans h g
  | none, some _, _, h, _ => h.elim
  | some _, none, _, h, _ => h.elim
  | none, none, some _, _, g => g.elim
  | some _, some _, none, _, g => g.elim
def PosO : Option Q2 → Prop
  | none => True
  | some a => 0 < a.2
theorem ReO.refl : ∀ {a : Option Q2}, PosO a → ReO a a
  | none, _ => trivial
  | some _, h => Re.refl h
theorem Alike.trans {x y z : Option Q2 × Bool} (h : Alike x y) (g : Alike y z) : Alike x z := ⟨h.1.trans g.1, fun e => (h.2 e).trans (g.2 (by rw [← h.1.isS]; exact e))⟩
theorem StAt.raw {CM CS p : Addr} {H : Hp} {lo hi : Option Q2} {li hj : Bool} (a : StAt CM CS H p lo hi li hj) {m : Str} (h1 : ¬ m = "low") (h2 : ¬ m = "high") (h3 : ¬ m = "low_in") (h4 : ¬ m = "high_in") : ∃ dx fs, H p = some (.ins CS dx fs) ∧ fs.lookup m = none := by
  obtain ⟨⟨dx, l, h, e, _⟩, _⟩ := a
  exact ⟨dx, _, e, sf_no _ _ _ _ h1 h2 h3 h4⟩
theorem EndsAt.due {H : Hp} {p : Addr} {ea eb : Option Q2} {ia ib : Bool} (a : EndsAt H p ea eb ia ib) : DueV H (.ref p) (ea, ia) (eb, ib) := .inl ⟨a.so, p, rfl, a⟩
/-! ### what a stretch holds -/
def loIn : Option Q2 → Bool → Q2 → Bool
  | none, _, _ => true
  | some a, i, x => ltq a x || (i && eqq a x)
def hiIn : Option Q2 → Bool → Q2 → Bool
  | none, _, _ => true
  | some b, j, x => ltq x b || (j && eqq x b)
theorem ltq_trans {a b c : Q2} (hb : 0 < b.2) (ha : 0 < a.2) (hc : 0 < c.2) (h : ltq a b = true) (g : ltq b c = true) : ltq a c = true := by
  unfold ltq at *
  have h := of_decide_eq_true h
  have g := of_decide_eq_true g
  refine decide_eq_true ?_
  have h2 := Int.mul_lt_mul_of_pos_right h hc
  have g2 := Int.mul_lt_mul_of_pos_right g ha
  have e1 : b.1 * a.2 * c.2 = b.1 * c.2 * a.2 := by simp only [Int.mul_assoc, Int.mul_comm, Int.mul_left_comm]
  rw [e1] at h2
  have k := Int.lt_trans h2 g2
  have e2 : a.1 * b.2 * c.2 = a.1 * c.2 * b.2 := by simp only [Int.mul_assoc, Int.mul_comm, Int.mul_left_comm]
  have e3 : c.1 * b.2 * a.2 = c.1 * a.2 * b.2 := by simp only [Int.mul_assoc, Int.mul_comm, Int.mul_left_comm]
  rw [e2, e3] at k
  exact Int.lt_of_mul_lt_mul_right k (Int.le_of_lt hb)
/-! ### sums, once more, by the size of the new bottom -/
def sp_bin2 (C : Addr) (f g : Int → Int → Int → Int → Int) : Sp := fun vs H Q _ => ∃ (p q : Addr) (t u t' u' : Int), vs = [.ref p, .ref q] ∧ MAt C H p t u ∧ MAt C H q t' u' ∧ 0 < u ∧ 0 < u' ∧ Sz 100000 t ∧ Sz 100000 u ∧ Sz 100000 t' ∧ Sz 100000 u' ∧ Sz 9000 (u * u') ∧
  ∀ (r : Addr) (t2 u2 : Int) (H' : Hp), H r = none → Same H H' → MAt C H' r t2 u2 → Fr t2 u2 (f t u t' u') (g t u t' u') → Q (.ref r) H'
def sp_part2 (C : Addr) : Sp := fun vs H Q _ => ∃ (p : Addr) (t u m : Int), vs = [.ref p, .int m] ∧ MAt C H p t u ∧ 0 < u ∧ m ≠ 0 ∧ Sz 100000 t ∧ Sz 100000 u ∧ Sz 100000 m ∧ Sz 9000 (u * m) ∧
  ∀ (r : Addr) (t2 u2 : Int) (H' : Hp), H r = none → Same H H' → MAt C H' r t2 u2 → Fr t2 u2 t (u * m) → Q (.ref r) H'
/-- a Measure that the stretch holds -/
structure Held (CM : Addr) (H : Hp) (r : Addr) (x : Q2) (lo hi : Option Q2) (li hj : Bool) : Prop where
  at_ : MAt CM H r x.1 x.2
  pos : 0 < x.2
  s1 : Sz 15000 x.1
  s2 : Sz 15000 x.2
  low : loIn lo li x = true
  high : hiIn hi hj x = true
/-- a Measure in both, or None -/
def ShV (CM : Addr) (H : Hp) (v : V) (m1 m2 n1 n2 : Option Q2) (i1 i2 j1 j2 : Bool) : Prop :=
  (someB (cutLo m1 i1 n1 j1).1 (cutHi m2 i2 n2 j2).1 (cutLo m1 i1 n1 j1).2 (cutHi m2 i2 n2 j2).2 = true ∧ ∃ r x, v = .ref r ∧ Held CM H r x m1 m2 i1 i2 ∧ Held CM H r x n1 n2 j1 j2) ∨
  (someB (cutLo m1 i1 n1 j1).1 (cutHi m2 i2 n2 j2).1 (cutLo m1 i1 n1 j1).2 (cutHi m2 i2 n2 j2).2 = false ∧ v = .non)
theorem Held.same {CM r : Addr} {H H' : Hp} {x : Q2} {lo hi : Option Q2} {li hj : Bool} (a : Held CM H r x lo hi li hj) (s : Same H H') : Held CM H' r x lo hi li hj := ⟨a.at_.same s, a.pos, a.s1, a.s2, a.low, a.high⟩
theorem ShV.same {CM : Addr} {H H' : Hp} {v : V} {m1 m2 n1 n2 : Option Q2} {i1 i2 j1 j2 : Bool} (a : ShV CM H v m1 m2 n1 n2 i1 i2 j1 j2) (s : Same H H') : ShV CM H' v m1 m2 n1 n2 i1 i2 j1 j2 := by
  rcases a with ⟨e, r, x, h1, h2, h3⟩ | h
  · exact .inl ⟨e, r, x, h1, h2.same s, h3.same s⟩
  · exact .inr h
theorem eqq_self (a : Q2) : eqq a a = true := decide_eq_true rfl
/-! ### lists of points, made in comprehensions -/
/-- all but lists stays -/
def Nl (H H' : Hp) : Prop := ∀ c o, H c = some o → notHand o = true → H' c = some o
theorem Nl.of {H H' : Hp} (s : Same H H') : Nl H H' := fun c o e _ => s c o e
theorem Nl.put {H : Hp} {l : Addr} {xs : List V} {u : HO} (h : H l = some (.lst xs)) : Nl H (upd H l u) := fun c o e no => up2 h e no
theorem EndV.nl {k : Nat} {H H' : Hp} {v : V} : ∀ {e : Option Q2}, EndV k H v e → Nl H H' → EndV k H' v e
  | none, h, _ => h
  | some _, ⟨p, h1, h2, h3⟩, s => ⟨p, h1, s _ _ h2 rfl, h3⟩
def PtV (k : Nat) (H : Hp) (v : V) : Prop := ∃ a : Q2, EndV k H v (some a)
theorem PtV.nl {k : Nat} {H H' : Hp} {v : V} (h : PtV k H v) (s : Nl H H') : PtV k H' v := by
  obtain ⟨a, h⟩ := h
  exact ⟨a, h.nl s⟩
end My
namespace My
open PySem PySem.Spec PyProof.Rows L2
/-! ### errors -/
section
variable {P : Program} {w : World} {K : PySem.W.Frag} {mg : Str → Option Value} {base : Heap} {k : Nat} {f : Addr} {fd : FuncData} {ps : List Str}
/-- a def that lets nothing out keeps its promise where more may be let out -/
theorem lift {CX : CXT} {sp : Sp} (F : FnOk P w K mg base CX0 k f fd ps sp) : FnOk P w K mg base CX k f fd ps sp :=
  ⟨F.len, fun A outer s H args us vs Q E hr he hb hv hs => codeAny_mono (F.run A outer s H args us vs Q E hr he hb hv hs) fun r s' hq => by
    cases r with
    | error e => exact False.elim hq
    | ok fl => cases fl <;> exact hq⟩
end
section
variable {X : Cx} {CX : CXT} {k : Nat} {f C : Addr} {fd : FuncData} {ps : List Str} {sp : Sp} {dvs : List V} {ds : List Value} {x : Str} {p pos : Pos} {e : Expr} {es : List Expr} {t : TA} {E : L2.St → XK}
end
/-! ### several clauses, each with the error by the same name; nothing leaves -/
/-! ### facts of error classes -/
def excCB (x : Str) : PySem.W.Frag → Bool := fun K => He.eqO (PySem.W.findIn K (.ref (He.ga K x)) "__getattribute__") (some (some (.builtin "BaseException.__getattribute__"))) && (He.eqO (PySem.W.findIn K (.ref (He.ga K x)) "__getattr__") (some none) &&
  (decide (PySem.W.subIn K (.ref (He.ga K x)) (.type "BaseException") = some true) && (PySem.W.hasDictIn K (He.ga K x) && isCB x K)))
theorem excC_ok {x : Str} {K : PySem.W.Frag} (c : excCB x K = true) : ExcC K (He.ga K x) := by
  obtain ⟨c1, c⟩ := He.ba c
  obtain ⟨c2, c⟩ := He.ba c
  obtain ⟨c3, c⟩ := He.ba c
  obtain ⟨c4, c5⟩ := He.ba c
  have z := isC_ok c5
  exact ⟨He.eqO_ok c1, He.eqO_ok c2, of_decide_eq_true c3, c4, z.ha, z.hn, z.htk, z.hm⟩
def exmB (x y : Str) (r : Bool) : PySem.W.Frag → Bool := fun K => decide (PySem.W.exmOne K (.ref (He.ga K x)) (.ref (He.ga K y)) = some r)
theorem exm_ok {x y : Str} {r : Bool} {K : PySem.W.Frag} (c : exmB x y r K = true) : PySem.W.exmOne K (.ref (He.ga K x)) (.ref (He.ga K y)) = some r := of_decide_eq_true c
/-! ### things of any kind -/
/-- a thing that is no Measure and no Stretch; h: not the hand -/
def Thing (h : Addr) (H : Hp) (v : V) : Prop := v = .non ∨ (∃ b, v = .bl b) ∨ (∃ i, v = .int i) ∨ (∃ z, v = .str z) ∨ (∃ a xs, v = .ref a ∧ a ≠ h ∧ H a = some (.lst xs)) ∨ (∃ a xs, v = .ref a ∧ H a = some (.tup xs)) ∨ (∃ a kvs, v = .ref a ∧ H a = some (.dK kvs))
theorem Thing.same {h : Addr} {H H' : Hp} {v : V} (t : Thing h H v) (s : Same H H') : Thing h H' v := by
  rcases t with t | t | t | t | ⟨a, xs, e, n, t⟩ | ⟨a, xs, e, t⟩ | ⟨a, xs, e, t⟩
  · exact .inl t
  · exact .inr (.inl t)
  · exact .inr (.inr (.inl t))
  · exact .inr (.inr (.inr (.inl t)))
  · exact .inr (.inr (.inr (.inr (.inl ⟨a, xs, e, n, s _ _ t⟩))))
  · exact .inr (.inr (.inr (.inr (.inr (.inl ⟨a, xs, e, s _ _ t⟩)))))
  · exact .inr (.inr (.inr (.inr (.inr (.inr ⟨a, xs, e, s _ _ t⟩)))))
theorem Thing.kp {h : Addr} {n : Nat} {H H' : Hp} {v : V} (t : Thing h H v) (hh : HandAt H h n) (s : Kp h H H') : Thing h H' v := by
  rcases t with t | t | t | t | ⟨a, xs, e, n, t⟩ | ⟨a, xs, e, t⟩ | ⟨a, xs, e, t⟩
  · exact .inl t
  · exact .inr (.inl t)
  · exact .inr (.inr (.inl t))
  · exact .inr (.inr (.inr (.inl t)))
  · exact .inr (.inr (.inr (.inr (.inl ⟨a, xs, e, n, s _ _ t n⟩))))
  · exact .inr (.inr (.inr (.inr (.inr (.inl ⟨a, xs, e, s.get hh t rfl⟩)))))
  · exact .inr (.inr (.inr (.inr (.inr (.inr ⟨a, xs, e, s.get hh t rfl⟩)))))
/-- its class, as isinstance asks it -/
theorem Thing.ty {K : PySem.W.Frag} {h : Addr} {H : Hp} {v : V} (t : Thing h H v) : ∃ n : String, TyX K H v (.type n) ∧ (n = "NoneType" ∨ n = "bool" ∨ n = "int" ∨ n = "str" ∨ n = "list" ∨ n = "tuple" ∨ n = "dict") := by
  rcases t with rfl | ⟨b, rfl⟩ | ⟨i, rfl⟩ | ⟨z, rfl⟩ | ⟨a, xs, rfl, n, t⟩ | ⟨a, xs, rfl, t⟩ | ⟨a, xs, rfl, t⟩
  · exact ⟨_, .base .non, .inl rfl⟩
  · exact ⟨_, .base (.bl b), .inr (.inl rfl)⟩
  · exact ⟨_, .base (.int i), .inr (.inr (.inl rfl))⟩
  · exact ⟨_, .base (.str z), .inr (.inr (.inr (.inl rfl)))⟩
  · exact ⟨_, .base (.lst t), .inr (.inr (.inr (.inr (.inl rfl))))⟩
  · exact ⟨_, .base (.tup t), .inr (.inr (.inr (.inr (.inr (.inl rfl)))))⟩
  · exact ⟨_, .base (.dK t), .inr (.inr (.inr (.inr (.inr (.inr rfl)))))⟩
end My
namespace My
open PySem PySem.Spec PyProof.Rows L2
/-! ### == and != by an own __eq__, beside things of any kind -/
section
open AutoSeq1 (wpAny_loadPart')
variable {prog : Program} {w : World} {A : Around} {E : Value → Shared → Prop} {s : Shared}
end
/-- a value of a built-in kind -/
inductive Bk (H : Hp) : V → String → Prop where
  | non : Bk H .non "NoneType"
  | bl (b : Bool) : Bk H (.bl b) "bool"
  | int (i : Int) : Bk H (.int i) "int"
  | str (z : Str) : Bk H (.str z) "str"
  | lst {a : Addr} {xs : List V} (e : H a = some (.lst xs)) : Bk H (.ref a) "list"
  | tup {a : Addr} {xs : List V} (e : H a = some (.tup xs)) : Bk H (.ref a) "tuple"
theorem Bk.ty {K : PySem.W.Frag} {H : Hp} {x : V} {T : String} (b : Bk H x T) : TyX K H x (.type T) := by
  cases b with
  | non => exact .base .non
  | bl b => exact .base (.bl b)
  | int i => exact .base (.int i)
  | str z => exact .base (.str z)
  | lst e => exact .base (.lst e)
  | tup e => exact .base (.tup e)
theorem Bk.same {H H' : Hp} {x : V} {T : String} (b : Bk H x T) (s : Same H H') : Bk H' x T := by
  cases b with
  | non => exact .non
  | bl b => exact .bl b
  | int i => exact .int i
  | str z => exact .str z
  | lst e => exact .lst (s _ _ e)
  | tup e => exact .tup (s _ _ e)
/-- the kinds that no own class stands under -/
def kinds : List String := ["NoneType", "bool", "int", "str", "list", "tuple"]
theorem Bk.mem {H : Hp} {x : V} {T : String} (b : Bk H x T) : T ∈ kinds := by
  cases b <;> simp [kinds]
/-- what == and != ask of a class with an own __eq__ and no own __ne__ -/
structure EqC (K : PySem.W.Frag) (C : Addr) : Prop where
  ne : PySem.W.findIn K (.ref C) "__ne__" = some (some (.builtin "object.__ne__"))
  ob : PySem.W.mroIn K C (.type "object") = some true
  sub : ∀ T, T ∈ kinds → PySem.W.subIn K (.ref C) (.type T) = some false
  nf : ∀ T, T ∈ kinds → PySem.W.notFirst K C (.type T) = true
  kit : ∀ T, T ∈ kinds → PySem.W.kitOne K (.type T) (.ref C) = some false
section
variable {X : Cx} {pins : List (Addr × Obj)} {σ : L2.St} {H : Hp} {s : Shared} {A : Around} {E : Value → Shared → Prop}
end
/-- how == answers: x == y tells b, and nothing changes -/
abbrev Eqb := V → V → Hp → Bool → Prop
def RcB (X : Cx) (n : Nat) (D : Eqb) : Prop := ∀ (A : Around) (pins : List (Addr × Obj)) (s : Shared) (σ : L2.St) (H : Hp) (x y : V) (u v : Value) (b : Bool), Sub X n A → Inv X pins σ H s → RelV x u → RelV y v → D x y H b →
  wpAny (model X.prog X.w) A (richCompare .Eq u v) (fun r s' => r = .bool b ∧ Inv X pins σ H s') X.xe s
def EqB (X : Cx) (n : Nat) (D : Eqb) : Prop := ∀ (A : Around) (pins : List (Addr × Obj)) (s : Shared) (σ : L2.St) (H : Hp) (x y : V) (u v : Value) (b : Bool), Sub X n A → Inv X pins σ H s → RelV x u → RelV y v → D x y H b →
  wpAny (model X.prog X.w) A (eqBool u v) (fun r s' => r = b ∧ Inv X pins σ H s') X.xe s
/-- the own object first -/
def DOwn (K : PySem.W.Frag) (C : Addr) (R : Eqb) : Eqb := fun x y H b => ∃ a dx fs tb, x = .ref a ∧ H a = some (.ins C dx fs) ∧ TyX K H y tb ∧ PySem.W.notFirst K C tb = true ∧ (x = y → b = true) ∧ R x y H b
/-- the own object behind a thing of a built-in kind -/
def DRef (C : Addr) (R : Eqb) : Eqb := fun x y H b => ∃ a dx fs T, y = .ref a ∧ H a = some (.ins C dx fs) ∧ Bk H x T ∧ (x = y → b = true) ∧ R y x H b
def DOr (D D' : Eqb) : Eqb := fun x y H b => D x y H b ∨ D' x y H b
section
variable {X : Cx} {n : Nat} {CX : CXT} {C f : Addr} {fd : FuncData} {ps : List Str} {R D D' : Eqb} {E : XK}
theorem RcB.mono {m : Nat} (h : RcB X n D) (l : n ≤ m) : RcB X m D := fun A pins s σ H x y u v b sb I rx ry d => h A pins s σ H x y u v b (sb.mono l) I rx ry d
theorem EqB.mono {m : Nat} (h : EqB X n D) (l : n ≤ m) : EqB X m D := fun A pins s σ H x y u v b sb I rx ry d => h A pins s σ H x y u v b (sb.mono l) I rx ry d
theorem RcB.or (h : RcB X n D) (h' : RcB X n D') : RcB X n (DOr D D') := fun A pins s σ H x y u v b sb I rx ry d => d.elim (h A pins s σ H x y u v b sb I rx ry) (h' A pins s σ H x y u v b sb I rx ry)
theorem EqB.or (h : EqB X n D) (h' : EqB X n D') : EqB X n (DOr D D') := fun A pins s σ H x y u v b sb I rx ry d => d.elim (h A pins s σ H x y u v b sb I rx ry) (h' A pins s σ H x y u v b sb I rx ry)
/-! ### in, by an own == -/
def InB (D : Eqb) (x : V) (H : Hp) : List V → Bool → Prop
  | [], b => b = false
  | y :: r, b => (D y x H true ∧ b = true) ∨ (D y x H false ∧ InB D x H r b)
open AutoSeq1 (wpAny_loadPart') in
open AutoSeq1 (wpAny_loadPart') in
/-- a text beside a thing of a built-in kind -/
def DTxt : Eqb := fun x y H b => ∃ (z : Str) (T : String), x = .str z ∧ Bk H y T ∧ b = decide (y = .str z)
end
/-! ### Measures alike, beside Measures and things of built-in kinds -/
def REq (K : PySem.W.Frag) (C : Addr) : Eqb := fun x y H b => ∃ p t u, x = .ref p ∧ MAt C H p t u ∧ ((∃ q t' u', y = .ref q ∧ MAt C H q t' u' ∧ b = (decide (t = t') && decide (u = u'))) ∨ ∃ tv, TyX K H y tv ∧ PySem.W.kitOne K tv (.ref C) = some false ∧ b = false)
inductive Like (C : Addr) (H : Hp) (p : Addr) : V → Bool → Prop where
  | ms {q : Addr} {t u t' u' : Int} (a : MAt C H p t u) (b : MAt C H q t' u') : Like C H p (.ref q) (decide (t = t') && decide (u = u'))
  | kd {y : V} {T : String} {t u : Int} (a : MAt C H p t u) (b : Bk H y T) : Like C H p y false
theorem Like.same {C p : Addr} {H H' : Hp} {y : V} {b : Bool} (h : Like C H p y b) (s : Same H H') : Like C H' p y b := by
  cases h with
  | ms a b => exact .ms (a.same s) (b.same s)
  | kd a k => exact .kd (a.same s) (k.same s)
theorem mf_inj {t u t' u' : Int} (h : mf t u = mf t' u') : t = t' ∧ u = u' := by
  unfold mf at h
  injection h with h1 h2
  injection h2 with h3 _
  exact ⟨V.int.inj (congrArg Prod.snd h1), V.int.inj (congrArg Prod.snd h3)⟩
theorem MAt.uniq {C p : Addr} {H : Hp} {t u t' u' : Int} (a : MAt C H p t u) (b : MAt C H p t' u') : t = t' ∧ u = u' := by
  obtain ⟨d, a⟩ := a
  obtain ⟨d', b⟩ := b
  rw [a] at b
  have e := HO.ins.inj (Option.some.inj b)
  exact mf_inj e.2.2
theorem Bk.notIns {C p dx : Addr} {H : Hp} {T : String} {fs : List (Str × V)} (b : Bk H (.ref p) T) (e : H p = some (.ins C dx fs)) : False := by
  cases b with
  | lst z => rw [z] at e; cases e
  | tup z => rw [z] at e; cases e
section
variable {K : PySem.W.Frag} {C p : Addr} {H : Hp} {y : V} {b : Bool}
theorem nf_self : PySem.W.notFirst K C (.ref C) = true := by simp [PySem.W.notFirst]
theorem Like.fwd (cl : Cls K C) (ii : IsC K C) (ec : EqC K C) (h : Like C H p y b) : DOwn K C (REq K C) (.ref p) y H b := by
  cases h with
  | @ms q t u t' u' a b =>
    obtain ⟨da, ha⟩ := _root_.id a
    obtain ⟨db, hb⟩ := _root_.id b
    refine ⟨p, da, _, _, rfl, ha, tyM hb cl ii, nf_self, fun e => ?_, p, t, u, rfl, a, .inl ⟨q, t', u', rfl, b, rfl⟩⟩
    cases e
    obtain ⟨rfl, rfl⟩ := a.uniq b
    simp
  | @kd _ T t u a k =>
    obtain ⟨da, ha⟩ := _root_.id a
    refine ⟨p, da, _, _, rfl, ha, k.ty, ec.nf T k.mem, fun e => ?_, p, t, u, rfl, a, .inr ⟨_, k.ty, ec.kit T k.mem, rfl⟩⟩
    subst e
    exact (k.notIns ha).elim
theorem Like.bwd (cl : Cls K C) (ii : IsC K C) (ec : EqC K C) (h : Like C H p y b) : DOr (DOwn K C (REq K C)) (DRef C (REq K C)) y (.ref p) H b := by
  cases h with
  | @ms q t u t' u' a b =>
    obtain ⟨da, ha⟩ := _root_.id a
    obtain ⟨db, hb⟩ := _root_.id b
    have e2 : (decide (t = t') && decide (u = u')) = (decide (t' = t) && decide (u' = u)) := by
      rw [decide_eq_decide.mpr (eq_comm (a := t)), decide_eq_decide.mpr (eq_comm (a := u))]
    rw [e2]
    refine .inl ⟨q, db, _, _, rfl, hb, tyM ha cl ii, nf_self, fun e => ?_, q, t', u', rfl, b, .inl ⟨p, t, u, rfl, a, rfl⟩⟩
    cases e
    obtain ⟨rfl, rfl⟩ := a.uniq b
    simp
  | @kd _ T t u a k =>
    obtain ⟨da, ha⟩ := _root_.id a
    refine .inr ⟨p, da, _, T, rfl, ha, k, fun e => ?_, p, t, u, rfl, a, .inr ⟨_, k.ty, ec.kit T k.mem, rfl⟩⟩
    subst e
    exact (k.notIns ha).elim
theorem Like.non (ec : EqC K C) (h : Like C H p y b) : DOr (DOwn K C (REq K C)) (DRef C (REq K C)) .non (.ref p) H false := by
  have go : ∀ {t u : Int}, MAt C H p t u → DOr (DOwn K C (REq K C)) (DRef C (REq K C)) .non (.ref p) H false := fun {t u} a => by
    obtain ⟨da, ha⟩ := _root_.id a
    exact .inr ⟨p, da, _, _, rfl, ha, .non, (fun e => nomatch e), p, t, u, rfl, a, .inr ⟨_, (Bk.non (H := H)).ty, ec.kit _ (Bk.non (H := H)).mem, rfl⟩⟩
  cases h with
  | ms a _ => exact go a
  | kd a _ => exact go a
/-- one in [None, y] -/
theorem Like.inl (cl : Cls K C) (ii : IsC K C) (ec : EqC K C) (h : Like C H p y b) : InB (DOr (DOwn K C (REq K C)) (DRef C (REq K C))) (.ref p) H [.non, y] b := by
  refine .inr ⟨h.non ec, ?_⟩
  cases b with
  | true => exact .inl ⟨h.bwd cl ii ec, rfl⟩
  | false => exact .inr ⟨h.bwd cl ii ec, rfl⟩
/-- y in (one, z) -/
theorem Like.inr {z : Str} (cl : Cls K C) (ii : IsC K C) (ec : EqC K C) (h : Like C H p y b) (hz : y ≠ .str z) : InB (DOr (DOr (DOwn K C (REq K C)) (DRef C (REq K C))) DTxt) y H [.ref p, .str z] b := by
  have key : ∀ {c : Bool}, Like C H p y c → DOr (DOr (DOwn K C (REq K C)) (DRef C (REq K C))) DTxt (.str z) y H false := fun {c} h => by
    cases h with
    | @ms q t u t' u' a b =>
      obtain ⟨dq, hq⟩ := _root_.id b
      exact .inl (.inr ⟨q, dq, _, _, rfl, hq, .str z, (fun e => nomatch e), q, t', u', rfl, b, .inr ⟨_, (Bk.str (H := H) z).ty, ec.kit _ (Bk.str (H := H) z).mem, rfl⟩⟩)
    | @kd _ T t u a k => exact .inr ⟨z, T, rfl, k, (decide_eq_false hz).symm⟩
  cases b with
  | true => exact .inl ⟨.inl (.inl (h.fwd cl ii ec)), rfl⟩
  | false => exact .inr ⟨.inl (.inl (h.fwd cl ii ec)), .inr ⟨key h, rfl⟩⟩
end
end My
namespace My
open PySem PySem.Spec PyProof.Rows L2
/-! ### texts: str and repr of own objects, pieces of f-strings, divmod -/
section
variable {X : Cx} {n : Nat} {CX : CXT} {C f : Addr} {fd : FuncData} {ps : List Str} {sp : Sp} {E : XK}
/-- an own def is called from within a built-in one -/
theorem fn_at (F : FnOk X.prog X.w X.K X.mg X.base CX n f fd ps sp) (hb : Binds X.K fd ps []) (hx : Passes CX X E) {A : Around} {pins : List (Addr × Obj)} {s : Shared} {σ : L2.St} {H : Hp} {vs : List V} {us : List Value} {Q : VK}
    (sb : Sub X n A) (I : Inv X pins σ H s) (r : Vals vs us) (h : sp vs H Q E) : wpAny (model X.prog X.w) A (call (.ref f) us) (fun u s' => ∃ v H', Inv X pins σ H' s' ∧ RelV v u ∧ Q v H') X.xe s := by
  have e := I.env0
  have e0 : Env0 X.prog X.w X.K X.mg X.base A X.stack s H := ⟨by rw [sb.fr]; exact e.frames, e.mod, e.bs, e.bsz, e.funs, e.frf, e.hok, e.bare⟩
  have hl := F.len _ _ _ _ h
  have hbs := hb s us I.kIn (by rw [List.append_nil, ← r.length]; exact hl)
  rw [List.append_nil] at hbs
  refine wpAny_call (codeAny_mono (F.run A X.stack s H ⟨us, []⟩ us vs _ E sb.room e0 hbs r h) fun r s' hq => ?_)
  cases r with
  | error e => exact hx pins σ H s e s' I hq
  | ok fl =>
    cases fl with
    | ret w =>
      obtain ⟨z, H', I', rz, q⟩ := I.after hq
      exact ⟨z, H', I', rz, q⟩
    | next => exact False.elim hq
    | brk => exact False.elim hq
    | cont => exact False.elim hq
/-- what a text of an own object asks: the def tells a text -/
def tOwn (C : Addr) (sp : Sp) (E : XK) : V → Hp → VK → Prop := fun x H Q => ∃ a dx fs, x = .ref a ∧ H a = some (.ins C dx fs) ∧ sp [.ref a] H (fun v H' => ∃ z : Str, v = .str z ∧ Q (.str z) H') E
end
/-! ### the text of a number, of a Measure -/
end My
namespace My
open PySem PySem.Spec PyProof.Rows L2
/-! ### Stretches alike -/
def optEq : Option Q2 → Option Q2 → Bool
  | none, none => true
  | some a, some b => eqq a b
  | _, _ => false
theorem optEq_self (a : Option Q2) : optEq a a = true := by
  cases a with
  | none => rfl
  | some a => exact eqq_self a
theorem eqq_comm' (a b : Q2) : eqq a b = eqq b a := by
  unfold eqq
  exact decide_eq_decide.mpr eq_comm
theorem optEq_comm (a b : Option Q2) : optEq a b = optEq b a := by
  cases a with
  | none => cases b <;> rfl
  | some a =>
    cases b with
    | none => rfl
    | some b => exact eqq_comm' a b
def eqS (lo hi : Option Q2) (li hj : Bool) (lo' hi' : Option Q2) (li' hj' : Bool) : Bool := optEq lo lo' && (optEq hi hi' && (decide (V.bl li = V.bl li') && decide (V.bl hj = V.bl hj')))
theorem eqS_self (lo hi : Option Q2) (li hj : Bool) : eqS lo hi li hj lo hi li hj = true := by
  unfold eqS
  rw [optEq_self, optEq_self, decide_eq_true rfl, decide_eq_true rfl]
  rfl
theorem eqS_comm (lo hi : Option Q2) (li hj : Bool) (lo' hi' : Option Q2) (li' hj' : Bool) : eqS lo hi li hj lo' hi' li' hj' = eqS lo' hi' li' hj' lo hi li hj := by
  unfold eqS
  rw [optEq_comm lo, optEq_comm hi, decide_eq_decide.mpr (eq_comm (a := V.bl li)), decide_eq_decide.mpr (eq_comm (a := V.bl hj))]
section
variable {K : PySem.W.Frag} {CM CS p : Addr} {H : Hp}
def REqS (K : PySem.W.Frag) (CM CS : Addr) : Eqb := fun x y H b => ∃ p lo hi li hj, x = .ref p ∧ StAt CM CS H p lo hi li hj ∧ ((∃ q lo' hi' li' hj', y = .ref q ∧ StAt CM CS H q lo' hi' li' hj' ∧ b = eqS lo hi li hj lo' hi' li' hj') ∨
  ∃ tv, TyX K H y tv ∧ PySem.W.kitOne K tv (.ref CS) = some false ∧ b = false)
inductive LikeS (CM CS : Addr) (H : Hp) (p : Addr) : V → Bool → Prop where
  | st {q : Addr} {lo hi lo' hi' : Option Q2} {li hj li' hj' : Bool} (a : StAt CM CS H p lo hi li hj) (b : StAt CM CS H q lo' hi' li' hj') : LikeS CM CS H p (.ref q) (eqS lo hi li hj lo' hi' li' hj')
  | kd {y : V} {T : String} {lo hi : Option Q2} {li hj : Bool} (a : StAt CM CS H p lo hi li hj) (b : Bk H y T) : LikeS CM CS H p y false
  | ms {q : Addr} {t u : Int} {lo hi : Option Q2} {li hj : Bool} (a : StAt CM CS H p lo hi li hj) (b : MAt CM H q t u) : LikeS CM CS H p (.ref q) false
theorem LikeS.same {H' : Hp} {y : V} {b : Bool} (h : LikeS CM CS H p y b) (s : Same H H') : LikeS CM CS H' p y b := by
  cases h with
  | st a b => exact .st (a.same s) (b.same s)
  | kd a k => exact .kd (a.same s) (k.same s)
  | ms a m => exact .ms (a.same s) (m.same s)
theorem MsV.uniq {v : V} {e f : Option Q2} (a : MsV CM H v e) (b : MsV CM H v f) : e = f := by
  cases e with
  | none =>
    cases a
    cases f with
    | none => rfl
    | some y => obtain ⟨q, z, _⟩ := b; exact nomatch z
  | some x =>
    obtain ⟨p, rfl, hp⟩ := a
    cases f with
    | none => exact nomatch (show V.ref p = V.non from b)
    | some y =>
      obtain ⟨q, z, hq⟩ := b
      cases z
      obtain ⟨h1, h2⟩ := hp.uniq hq
      rw [show x = (x.1, x.2) from rfl, show y = (y.1, y.2) from rfl, h1, h2]
theorem sf_inj {l h l' h' : V} {i j i' j' : Bool} (e : sf l h i j = sf l' h' i' j') : l = l' ∧ h = h' ∧ i = i' ∧ j = j' := by
  have g : ∀ m : Str, (sf l h i j).lookup m = (sf l' h' i' j').lookup m := fun m => by rw [e]
  have g1 := g "low"
  have g2 := g "high"
  have g3 := g "low_in"
  have g4 := g "high_in"
  rw [sf_low, sf_low] at g1
  rw [sf_high, sf_high] at g2
  rw [sf_low_in, sf_low_in] at g3
  rw [sf_high_in, sf_high_in] at g4
  exact ⟨Option.some.inj g1, Option.some.inj g2, V.bl.inj (Option.some.inj g3), V.bl.inj (Option.some.inj g4)⟩
theorem StAt.uniq {lo hi lo' hi' : Option Q2} {li hj li' hj' : Bool} (a : StAt CM CS H p lo hi li hj) (b : StAt CM CS H p lo' hi' li' hj') : lo = lo' ∧ hi = hi' ∧ li = li' ∧ hj = hj' := by
  obtain ⟨⟨d, l, h, h1, h2, h3⟩, _⟩ := a
  obtain ⟨⟨d', l', h', k1, k2, k3⟩, _⟩ := b
  rw [h1] at k1
  have e := HO.ins.inj (Option.some.inj k1)
  obtain ⟨rfl, rfl, rfl, rfl⟩ := sf_inj e.2.2
  exact ⟨h2.uniq k2, h3.uniq k3, rfl, rfl⟩
theorem st_notM {q : Addr} {lo hi : Option Q2} {li hj : Bool} {t u : Int} (a : StAt CM CS H p lo hi li hj) (m : MAt CM H p t u) : False := by
  obtain ⟨⟨d, l, hh, h1, _⟩, _⟩ := a
  obtain ⟨dm, hm⟩ := m
  rw [h1] at hm
  have e := (HO.ins.inj (Option.some.inj hm)).2.2
  have e2 := congrArg (fun fs : List (Str × V) => fs.lookup ("top" : Str)) e
  have e3 : (sf l hh li hj).lookup ("top" : Str) = none := sf_no _ _ _ _ (by decide +kernel) (by decide +kernel) (by decide +kernel) (by decide +kernel)
  have e4 := mf_top t u
  rw [show (sf l hh li hj).lookup ("top" : Str) = (mf t u).lookup ("top" : Str) from e2, e4] at e3
  cases e3
/-- what is asked of the two classes -/
structure Two (K : PySem.W.Frag) (CM CS : Addr) : Prop where
  clM : Cls K CM
  iiM : IsC K CM
  ecM : EqC K CM
  clS : Cls K CS
  iiS : IsC K CS
  ecS : EqC K CS
  nMS : PySem.W.notFirst K CM (.ref CS) = true
  nSM : PySem.W.notFirst K CS (.ref CM) = true
  kMS : PySem.W.kitOne K (.ref CM) (.ref CS) = some false
  kSM : PySem.W.kitOne K (.ref CS) (.ref CM) = some false
def DAllS (K : PySem.W.Frag) (CM CS : Addr) : Eqb := DOr (DOr (DOwn K CS (REqS K CM CS)) (DRef CS (REqS K CM CS))) (DOwn K CM (REq K CM))
theorem LikeS.fwd {y : V} {b : Bool} (T : Two K CM CS) (h : LikeS CM CS H p y b) : DOwn K CS (REqS K CM CS) (.ref p) y H b := by
  cases h with
  | @st q lo hi lo' hi' li hj li' hj' a b =>
    obtain ⟨⟨d, l, hh, h1, _⟩, _⟩ := _root_.id a
    obtain ⟨⟨d', l', hh', k1, _⟩, _⟩ := _root_.id b
    refine ⟨p, d, _, _, rfl, h1, tyM k1 T.clS T.iiS, nf_self, fun e => ?_, p, lo, hi, li, hj, rfl, a, .inl ⟨q, lo', hi', li', hj', rfl, b, rfl⟩⟩
    cases e
    obtain ⟨rfl, rfl, rfl, rfl⟩ := a.uniq b
    exact eqS_self _ _ _ _
  | @kd _ Ty lo hi li hj a k =>
    obtain ⟨⟨d, l, hh, h1, _⟩, _⟩ := _root_.id a
    refine ⟨p, d, _, _, rfl, h1, k.ty, T.ecS.nf Ty k.mem, fun e => ?_, p, lo, hi, li, hj, rfl, a, .inr ⟨_, k.ty, T.ecS.kit Ty k.mem, rfl⟩⟩
    subst e
    exact (k.notIns h1).elim
  | @ms q t u lo hi li hj a m =>
    obtain ⟨⟨d, l, hh, h1, _⟩, _⟩ := _root_.id a
    obtain ⟨dm, hm⟩ := _root_.id m
    have ty := tyM hm T.clM T.iiM
    refine ⟨p, d, _, _, rfl, h1, ty, T.nSM, fun e => ?_, p, lo, hi, li, hj, rfl, a, .inr ⟨_, ty, T.kMS, rfl⟩⟩
    cases e
    exact (st_notM (q := p) a m).elim
theorem LikeS.bwd {y : V} {b : Bool} (T : Two K CM CS) (h : LikeS CM CS H p y b) : DAllS K CM CS y (.ref p) H b := by
  cases h with
  | @st q lo hi lo' hi' li hj li' hj' a b =>
    rw [eqS_comm]
    exact .inl (.inl (LikeS.fwd T (.st b a)))
  | @kd _ Ty lo hi li hj a k =>
    obtain ⟨⟨d, l, hh, h1, _⟩, _⟩ := _root_.id a
    refine .inl (.inr ⟨p, d, _, Ty, rfl, h1, k, fun e => ?_, p, lo, hi, li, hj, rfl, a, .inr ⟨_, k.ty, T.ecS.kit Ty k.mem, rfl⟩⟩)
    subst e
    exact (k.notIns h1).elim
  | @ms q t u lo hi li hj a m =>
    obtain ⟨⟨d, l, hh, h1, _⟩, _⟩ := _root_.id a
    obtain ⟨dm, hm⟩ := _root_.id m
    have ty := tyM h1 T.clS T.iiS
    refine .inr ⟨q, dm, _, _, rfl, hm, ty, T.nMS, fun e => ?_, q, t, u, rfl, m, .inr ⟨_, ty, T.kSM, rfl⟩⟩
    cases e
    exact (st_notM (q := p) a m).elim
theorem LikeS.inl {y : V} {b : Bool} (T : Two K CM CS) (h : LikeS CM CS H p y b) : InB (DAllS K CM CS) (.ref p) H [.non, y] b := by
  have go : ∀ {lo hi li hj}, StAt CM CS H p lo hi li hj → DAllS K CM CS .non (.ref p) H false := fun {lo hi li hj} a => LikeS.bwd T (.kd a .non)
  have nn : DAllS K CM CS .non (.ref p) H false := by
    cases h with
    | st a _ => exact go a
    | kd a _ => exact go a
    | ms a _ => exact go a
  refine .inr ⟨nn, ?_⟩
  cases b with
  | true => exact .inl ⟨h.bwd T, rfl⟩
  | false => exact .inr ⟨h.bwd T, rfl⟩
end
/-! ### texts of Stretches -/
/-- the tuple of two ends and two truths -/
def EndsK (k : Nat) (H : Hp) (v : V) (ea eb : Option Q2) (ia ib : Bool) : Prop := ∃ p va vb, v = .ref p ∧ H p = some (.tup [va, vb, .bl ia, .bl ib]) ∧ EndV k H va ea ∧ EndV k H vb eb
theorem EndsK.nl {k : Nat} {H H' : Hp} {v : V} {ea eb : Option Q2} {ia ib : Bool} (a : EndsK k H v ea eb ia ib) (s : Nl H H') : EndsK k H' v ea eb ia ib := by
  obtain ⟨p, va, vb, h0, h1, h2, h3⟩ := a
  exact ⟨p, va, vb, h0, s _ _ h1 rfl, h2.nl s, h3.nl s⟩
theorem EndsK.same {k : Nat} {H H' : Hp} {v : V} {ea eb : Option Q2} {ia ib : Bool} (a : EndsK k H v ea eb ia ib) (s : Same H H') : EndsK k H' v ea eb ia ib := a.nl (Nl.of s)
theorem EndsAt.k {H : Hp} {p : Addr} {ea eb : Option Q2} {ia ib : Bool} (a : EndsAt H p ea eb ia ib) : EndsK 150 H (.ref p) ea eb ia ib := by
  obtain ⟨⟨va, vb, h1, h2, h3⟩, _⟩ := a
  exact ⟨p, va, vb, rfl, h1, h2.mono (by decide), h3.mono (by decide)⟩
end My
namespace My
open PySem PySem.Spec PyProof.Rows L2
/-! ### texts by their signs: partings at the last and the first sign -/
/-! ### x.rpartition(sep) -/
/-! ### a leading sign -/
/-! ### the words of a measure's text -/
/-! ### the text of a Measure by its signs -/
end My
namespace My
open PySem PySem.Spec PyProof.Rows L2
/-! ### list.count(True) of truths -/
/-! ### Measures as fractions -/
theorem fr_of {t u A B : Int} (hu : 0 < u) (co : Int.gcd t u = 1) (hB : 0 < B) (e : t * B = A * u) : Fr t u A B := by
  have co' : Int.gcd u t = 1 := by rw [Int.gcd_comm]; exact co
  have d2 : u ∣ B := dvd_co (b := t) ⟨A, by rw [e, Int.mul_comm]⟩ co'
  obtain ⟨k, hk⟩ := d2
  have k0 : 0 < k := by
    rcases Int.lt_or_le 0 k with z | z
    · exact z
    · have := Int.mul_nonneg_of_nonpos_of_nonpos (show -u ≤ 0 by omega) z
      have e2 : -u * k = -(u * k) := Int.neg_mul ..
      omega
  have e1 : A = t * k := by
    have : A * u = (t * k) * u := by
      rw [← e, hk]
      simp only [Int.mul_assoc, Int.mul_comm, Int.mul_left_comm]
    exact Int.eq_of_mul_eq_mul_right (by omega) this
  refine ⟨hu, e, co, ?_, ?_⟩
  · rw [e1, Int.natAbs_mul]
    exact Nat.le_mul_of_pos_right _ (by omega)
  · rw [hk, Int.natAbs_mul]
    exact Nat.le_mul_of_pos_right _ (by omega)
def qadd (x y : Q2) : Q2 := (x.1 * y.2 + y.1 * x.2, x.2 * y.2)
def qsub (x y : Q2) : Q2 := (x.1 * y.2 - y.1 * x.2, x.2 * y.2)
def qmul (x y : Q2) : Q2 := (x.1 * y.1, x.2 * y.2)
def qprt (x : Q2) (m : Int) : Q2 := (x.1 * sgn m, x.2 * (m * sgn m))
def qmk (a b : Int) : Q2 := (a * sgn b, b * sgn b)
theorem sgn_pos {m : Int} (h : m ≠ 0) : 0 < m * sgn m := by
  unfold sgn; split
  · omega
  · rw [Int.mul_neg_one]; omega
structure QAt (C : Addr) (H : Hp) (p : Addr) (k : Nat) (x : Q2) : Prop where
  ob : ∃ t u, MAt C H p t u ∧ Fr t u x.1 x.2
  pos : 0 < x.2
  s1 : Sz k x.1
  s2 : Sz k x.2
theorem QAt.same {C p : Addr} {H H' : Hp} {k : Nat} {x : Q2} (h : QAt C H p k x) (s : Same H H') : QAt C H' p k x := by
  obtain ⟨⟨t, u, m, f⟩, h1, h2, h3⟩ := h
  exact ⟨⟨t, u, m.same s, f⟩, h1, h2, h3⟩
theorem QAt.mono {C p : Addr} {H : Hp} {k j : Nat} {x : Q2} (h : QAt C H p k x) (l : k ≤ j) : QAt C H p j x := ⟨h.ob, h.pos, h.s1.mono l, h.s2.mono l⟩
theorem QAt.kp {C p hd : Addr} {H H' : Hp} {n k : Nat} {x : Q2} (h : QAt C H p k x) (hh : HandAt H hd n) (s : Kp hd H H') : QAt C H' p k x := by
  obtain ⟨⟨t, u, m, f⟩, h1, h2, h3⟩ := h
  exact ⟨⟨t, u, m.kp hh s, f⟩, h1, h2, h3⟩
theorem QAt.nl {C p : Addr} {H H' : Hp} {k : Nat} {x : Q2} (h : QAt C H p k x) (s : Nl H H') : QAt C H' p k x := by
  obtain ⟨⟨t, u, ⟨d, m⟩, f⟩, h1, h2, h3⟩ := h
  exact ⟨⟨t, u, ⟨d, s _ _ m rfl⟩, f⟩, h1, h2, h3⟩
section
variable {C p q : Addr} {H : Hp} {Q : VK} {E : XK} {k j : Nat} {x y : Q2}
theorem QAt.raw (h : QAt C H p k x) {m : Str} (h1 : ¬ m = "top") (h2 : ¬ m = "bottom") : ∃ dx fs, H p = some (.ins C dx fs) ∧ fs.lookup m = none := by
  obtain ⟨⟨t, u, ⟨d, m⟩, f⟩, _⟩ := h
  exact ⟨d, _, m, mf_no _ _ h1 h2⟩
theorem q_add (hx : QAt C H p k x) (hy : QAt C H q j y) (l : k + j ≤ 8900) (l0 : 0 < k) (l1 : 0 < j) (f : ∀ (r : Addr) (H' : Hp), Same H H' → QAt C H' r (k + j + 1) (qadd x y) → Q (.ref r) H') :
    sp_bin2 C (fun t u t' u' => t * u' + t' * u) (fun t u t' u' => u * u') [.ref p, .ref q] H Q E := by
  obtain ⟨⟨t, u, m1, f1⟩, px, a1, a2⟩ := hx
  obtain ⟨⟨t', u', m2, f2⟩, py, b1, b2⟩ := hy
  refine ⟨p, q, t, u, t', u', rfl, m1, m2, f1.pos, f2.pos, (a1.le f1.lt).mono (by omega), (a2.le f1.lu).mono (by omega), (b1.le f2.lt).mono (by omega), (b2.le f2.lu).mono (by omega), ((a2.le f1.lu).mul (b2.le f2.lu)).mono (by omega), fun r t2 u2 H' _ s m f3 => ?_⟩
  refine f r H' s ⟨⟨t2, u2, m, fr_of f3.pos f3.co (Int.mul_pos px py) ?_⟩, Int.mul_pos px py, (a1.mul b2).add ((b1.mul a2).mono (by omega)), (a2.mul b2).mono (by omega)⟩
  have e1 := f1.eq
  have e2 := f2.eq
  have e3 := f3.eq
  have z : (t2 * (x.2 * y.2)) * (u * u') = ((x.1 * y.2 + y.1 * x.2) * u2) * (u * u') := by
    have : (t2 * (x.2 * y.2)) * (u * u') = (t2 * (u * u')) * (x.2 * y.2) := by grind
    rw [this, e3]
    have w1 : (t * u' + t' * u) * u2 * (x.2 * y.2) = ((t * x.2) * u' * y.2 + (t' * y.2) * u * x.2) * u2 := by grind
    rw [w1, e1, e2]
    grind
  have pu := Int.mul_pos f1.pos f2.pos
  exact Int.eq_of_mul_eq_mul_right (by omega) z
theorem q_sub (hx : QAt C H p k x) (hy : QAt C H q j y) (l : k + j ≤ 8900) (l0 : 0 < k) (l1 : 0 < j) (f : ∀ (r : Addr) (H' : Hp), Same H H' → QAt C H' r (k + j + 1) (qsub x y) → Q (.ref r) H') :
    sp_bin2 C (fun t u t' u' => t * u' - t' * u) (fun t u t' u' => u * u') [.ref p, .ref q] H Q E := by
  obtain ⟨⟨t, u, m1, f1⟩, px, a1, a2⟩ := hx
  obtain ⟨⟨t', u', m2, f2⟩, py, b1, b2⟩ := hy
  refine ⟨p, q, t, u, t', u', rfl, m1, m2, f1.pos, f2.pos, (a1.le f1.lt).mono (by omega), (a2.le f1.lu).mono (by omega), (b1.le f2.lt).mono (by omega), (b2.le f2.lu).mono (by omega), ((a2.le f1.lu).mul (b2.le f2.lu)).mono (by omega), fun r t2 u2 H' _ s m f3 => ?_⟩
  refine f r H' s ⟨⟨t2, u2, m, fr_of f3.pos f3.co (Int.mul_pos px py) ?_⟩, Int.mul_pos px py, (a1.mul b2).sub ((b1.mul a2).mono (by omega)), (a2.mul b2).mono (by omega)⟩
  have e1 := f1.eq
  have e2 := f2.eq
  have e3 := f3.eq
  have z : (t2 * (x.2 * y.2)) * (u * u') = ((x.1 * y.2 - y.1 * x.2) * u2) * (u * u') := by
    have : (t2 * (x.2 * y.2)) * (u * u') = (t2 * (u * u')) * (x.2 * y.2) := by grind
    rw [this, e3]
    have w1 : (t * u' - t' * u) * u2 * (x.2 * y.2) = ((t * x.2) * u' * y.2 - (t' * y.2) * u * x.2) * u2 := by grind
    rw [w1, e1, e2]
    grind
  have pu := Int.mul_pos f1.pos f2.pos
  exact Int.eq_of_mul_eq_mul_right (by omega) z
theorem q_mul (hx : QAt C H p k x) (hy : QAt C H q j y) (l : k + j ≤ 8900) (l0 : 0 < k) (l1 : 0 < j) (f : ∀ (r : Addr) (H' : Hp), Same H H' → QAt C H' r (k + j + 1) (qmul x y) → Q (.ref r) H') :
    sp_bin2 C (fun t u t' u' => t * t') (fun t u t' u' => u * u') [.ref p, .ref q] H Q E := by
  obtain ⟨⟨t, u, m1, f1⟩, px, a1, a2⟩ := hx
  obtain ⟨⟨t', u', m2, f2⟩, py, b1, b2⟩ := hy
  refine ⟨p, q, t, u, t', u', rfl, m1, m2, f1.pos, f2.pos, (a1.le f1.lt).mono (by omega), (a2.le f1.lu).mono (by omega), (b1.le f2.lt).mono (by omega), (b2.le f2.lu).mono (by omega), ((a2.le f1.lu).mul (b2.le f2.lu)).mono (by omega), fun r t2 u2 H' _ s m f3 => ?_⟩
  refine f r H' s ⟨⟨t2, u2, m, fr_of f3.pos f3.co (Int.mul_pos px py) ?_⟩, Int.mul_pos px py, (a1.mul b1).mono (by omega), (a2.mul b2).mono (by omega)⟩
  have e1 := f1.eq
  have e2 := f2.eq
  have e3 := f3.eq
  have z : (t2 * (x.2 * y.2)) * (u * u') = ((x.1 * y.1) * u2) * (u * u') := by
    have : (t2 * (x.2 * y.2)) * (u * u') = (t2 * (u * u')) * (x.2 * y.2) := by grind
    rw [this, e3]
    have w1 : (t * t') * u2 * (x.2 * y.2) = (t * x.2) * (t' * y.2) * u2 := by grind
    rw [w1, e1, e2]
    grind
  have pu := Int.mul_pos f1.pos f2.pos
  exact Int.eq_of_mul_eq_mul_right (by omega) z
theorem q_prt {m : Int} (hx : QAt C H p k x) (hm : m ≠ 0) (sm : Sz j m) (l : k + j ≤ 8900) (l0 : 0 < k) (l1 : 0 < j) (f : ∀ (r : Addr) (H' : Hp), Same H H' → QAt C H' r (k + j + 1) (qprt x m) → Q (.ref r) H') :
    sp_part2 C [.ref p, .int m] H Q E := by
  obtain ⟨⟨t, u, m1, f1⟩, px, a1, a2⟩ := hx
  have pm := sgn_pos hm
  have sgnN : (sgn m).natAbs = 1 := by rcases sgn_cases m with e | e <;> rw [e] <;> rfl
  refine ⟨p, t, u, m, rfl, m1, f1.pos, hm, (a1.le f1.lt).mono (by omega), (a2.le f1.lu).mono (by omega), sm.mono (by omega), ((a2.le f1.lu).mul sm).mono (by omega), fun r t2 u2 H' _ s mm f3 => ?_⟩
  have z1 : Sz (k + j + 1) (x.1 * sgn m) := (a1.le (y := x.1 * sgn m) (by rw [Int.natAbs_mul, sgnN, Nat.mul_one]; exact Nat.le_refl _)).mono (by omega)
  have z2 : Sz j (m * sgn m) := sm.le (by rw [Int.natAbs_mul, sgnN, Nat.mul_one]; exact Nat.le_refl _)
  refine f r H' s ⟨⟨t2, u2, mm, fr_of f3.pos f3.co (Int.mul_pos px pm) ?_⟩, Int.mul_pos px pm, z1, (a2.mul z2).mono (by omega)⟩
  have e1 := f1.eq
  have e3 := f3.eq
  have hu := f1.pos
  have z : (t2 * (x.2 * (m * sgn m))) * u = ((x.1 * sgn m) * u2) * u := by
    have w0 : (t2 * (x.2 * (m * sgn m))) * u = (t2 * (u * m)) * x.2 * sgn m := by grind
    rw [w0, e3]
    have w1 : t * u2 * x.2 * sgn m = (t * x.2) * u2 * sgn m := by grind
    rw [w1, e1]
    grind
  exact Int.eq_of_mul_eq_mul_right (by omega) z
theorem q_mk {a b t u : Int} {H' : Hp} (m : MAt C H' p t u) (f : Fr t u a b) (hb : b ≠ 0) (sa : Sz k a) (sb : Sz k b) : QAt C H' p k (qmk a b) := by
  have pm := sgn_pos hb
  have sgnN : (sgn b).natAbs = 1 := by rcases sgn_cases b with e | e <;> rw [e] <;> rfl
  refine ⟨⟨t, u, m, fr_of f.pos f.co pm ?_⟩, pm, sa.le (by show (a * sgn b).natAbs ≤ _; rw [Int.natAbs_mul, sgnN, Nat.mul_one]; exact Nat.le_refl _), sb.le (by show (b * sgn b).natAbs ≤ _; rw [Int.natAbs_mul, sgnN, Nat.mul_one]; exact Nat.le_refl _)⟩
  show t * (b * sgn b) = a * sgn b * u
  have e := f.eq
  have : t * (b * sgn b) = (t * b) * sgn b := by grind
  rw [this, e]
  grind
theorem q_below {al : Bool} (hx : QAt C H p k x) (hy : QAt C H q j y) (l : k ≤ 9000) (l1 : j ≤ 9000) (f : Q (.bl (ltq x y || (al && eqq x y))) H) : sp_below C [.ref p, .ref q, .bl al] H Q E := by
  obtain ⟨⟨t, u, m1, f1⟩, px, a1, a2⟩ := hx
  obtain ⟨⟨t', u', m2, f2⟩, py, b1, b2⟩ := hy
  refine ⟨p, q, t, u, t', u', al, rfl, m1, m2, (a1.le f1.lt).mono l, (a2.le f1.lu).mono l, (b1.le f2.lt).mono l1, (b2.le f2.lu).mono l1, ?_⟩
  have r1 : Re (t, u) x := ⟨f1.pos, px, f1.eq⟩
  have r2 : Re (t', u') y := ⟨f2.pos, py, f2.eq⟩
  have e : lessA t u t' u' al = (ltq x y || (al && eqq x y)) := by
    rw [← ltq_congr r1 r2, ← eqq_congr r1 r2]
    rfl
  rw [e]
  exact f
end
/-! the same, behind the arguments -/
section
variable {C p q : Addr} {H : Hp} {Q : VK} {E : XK} {k j : Nat} {x y : Q2} {σ : L2.St}
theorem q_addT (hx : QAt C H p k x) (hy : QAt C H q j y) (l : k + j ≤ 8900) (l0 : 0 < k) (l1 : 0 < j) (f : ∀ (r : Addr) (H' : Hp), Same H H' → QAt C H' r (k + j + 1) (qadd x y) → Q (.ref r) H') :
    tNil σ H (fun xs H2 => sp_bin2 C (fun t u t' u' => t * u' + t' * u) (fun t u t' u' => u * u') (.ref p :: ((.ref q :: xs) ++ [])) H2 Q E) := q_add (E := E) hx hy l l0 l1 f
theorem q_subT (hx : QAt C H p k x) (hy : QAt C H q j y) (l : k + j ≤ 8900) (l0 : 0 < k) (l1 : 0 < j) (f : ∀ (r : Addr) (H' : Hp), Same H H' → QAt C H' r (k + j + 1) (qsub x y) → Q (.ref r) H') :
    tNil σ H (fun xs H2 => sp_bin2 C (fun t u t' u' => t * u' - t' * u) (fun t u t' u' => u * u') (.ref p :: ((.ref q :: xs) ++ [])) H2 Q E) := q_sub (E := E) hx hy l l0 l1 f
theorem q_mulT (hx : QAt C H p k x) (hy : QAt C H q j y) (l : k + j ≤ 8900) (l0 : 0 < k) (l1 : 0 < j) (f : ∀ (r : Addr) (H' : Hp), Same H H' → QAt C H' r (k + j + 1) (qmul x y) → Q (.ref r) H') :
    tNil σ H (fun xs H2 => sp_bin2 C (fun t u t' u' => t * t') (fun t u t' u' => u * u') (.ref p :: ((.ref q :: xs) ++ [])) H2 Q E) := q_mul (E := E) hx hy l l0 l1 f
theorem q_prt2T (hx : QAt C H p k x) (l : k + 10 ≤ 8900) (l0 : 0 < k) (f : ∀ (r : Addr) (H' : Hp), Same H H' → QAt C H' r (k + 10 + 1) (qprt x 2) → Q (.ref r) H') :
    tNil σ H (fun xs H2 => sp_part2 C (.ref p :: (xs ++ [.int 2])) H2 Q E) := q_prt (E := E) (j := 10) hx (by decide) (by decide) l l0 (by decide) f
theorem q_belowT (hx : QAt C H p k x) (hy : QAt C H q j y) (l : k ≤ 9000) (l1 : j ≤ 9000) (f : Q (.bl (ltq x y)) H) :
    tNil σ H (fun xs H2 => sp_below C (.ref p :: ((.ref q :: xs) ++ [.bl false])) H2 Q E) := q_below (E := E) (al := false) hx hy l l1 (by rw [Bool.false_and, Bool.or_false]; exact f)
theorem q_belowA (hx : QAt C H p k x) (hy : QAt C H q j y) (l : k ≤ 9000) (l1 : j ≤ 9000) (f : Q (.bl (ltq x y || eqq x y)) H) :
    tCons (tC (.bl true)) tNil σ H (fun xs H2 => sp_below C (.ref p :: ((.ref q :: xs) ++ [])) H2 Q E) := q_below (E := E) (al := true) hx hy l l1 (by rw [Bool.true_and]; exact f)
end
/-! ### sums keep the order; the midst lies between -/
def qhalf (x y : Q2) : Q2 := qprt (qadd x y) 2
theorem qhalf_eq (x y : Q2) : qhalf x y = (x.1 * y.2 + y.1 * x.2, x.2 * y.2 * 2) := by
  unfold qhalf qprt qadd
  have : sgn 2 = 1 := by decide
  rw [this, Int.mul_one, Int.mul_one]
theorem half_lo {x y : Q2} (hx : 0 < x.2) (hy : 0 < y.2) : ltq x (qhalf x y) = ltq x y ∧ ltq (qhalf x y) y = ltq x y ∧ eqq (qhalf x y) x = eqq x y ∧ eqq x (qhalf x y) = eqq x y := by
  rw [qhalf_eq]
  unfold ltq eqq
  have e1 : x.1 * (x.2 * y.2 * 2) = (2 * (x.1 * y.2)) * x.2 := by grind
  have e2 : (x.1 * y.2 + y.1 * x.2) * x.2 = (x.1 * y.2 + y.1 * x.2) * x.2 := rfl
  have e3 : y.1 * (x.2 * y.2 * 2) = (2 * (y.1 * x.2)) * y.2 := by grind
  refine ⟨decide_eq_decide.mpr ?_, decide_eq_decide.mpr ?_, decide_eq_decide.mpr ?_, decide_eq_decide.mpr ?_⟩
  · show x.1 * (x.2 * y.2 * 2) < (x.1 * y.2 + y.1 * x.2) * x.2 ↔ _
    rw [e1]
    exact ⟨fun h => by have := Int.lt_of_mul_lt_mul_right h (Int.le_of_lt hx); omega, fun h => Int.mul_lt_mul_of_pos_right (by omega) hx⟩
  · show (x.1 * y.2 + y.1 * x.2) * y.2 < y.1 * (x.2 * y.2 * 2) ↔ _
    rw [e3]
    exact ⟨fun h => by have := Int.lt_of_mul_lt_mul_right h (Int.le_of_lt hy); omega, fun h => Int.mul_lt_mul_of_pos_right (by omega) hy⟩
  · show (x.1 * y.2 + y.1 * x.2) * x.2 = x.1 * (x.2 * y.2 * 2) ↔ _
    rw [e1]
    exact ⟨fun h => by have := Int.eq_of_mul_eq_mul_right (by omega) h; omega, fun h => by rw [h]; grind⟩
  · show x.1 * (x.2 * y.2 * 2) = (x.1 * y.2 + y.1 * x.2) * x.2 ↔ _
    rw [e1]
    exact ⟨fun h => by have := Int.eq_of_mul_eq_mul_right (by omega) h; omega, fun h => by rw [h]; grind⟩
/-! ### numbers of at most twelve figures -/
/-! ### constants by their signs -/
/-! ### a comprehension over a text -/
end My
namespace My
open PySem PySem.Spec PyProof.Rows L2
/-! ### comprehensions over anything that is walked -/
section
variable {J : It} {n : Nat} {G : Hp → Prop} {Y : Nat → Hp → V → Hp → Prop} {g : TG} {tt : TT} {te : TE} {vs : List Nat} {σ : L2.St} {H1 : Hp} {D : Addr} {Qd : Hp → Prop}
/-- the elements are known: z some y is told, z none is left out -/
theorem lcz (w : Walk J n G Y) (hGs : ∀ H H', G H → Same H H' → G H') (zs : List (Option V)) (hlen : zs.length = n) (hz : n < sizeLine) (hG : G H1) (hD : H1 D = none)
    (hs : ∀ (i : Nat) (x : V) (H H' : Hp) (z : Option V) (N : VK) (M : Hp → Prop), i < n → zs[i]? = some z → Same H1 H → Y i H x H' → (∀ y H4, z = some y → Same H H4 → N y H4) → (∀ H4, z = none → Same H H4 → M H4) →
      g x (wipe σ vs) H' fun σ2 H2 => wipe σ2 vs = wipe σ vs ∧ tt σ2 H2 fun b H3 => if b = true then te σ2 H3 N else M H3)
    (hd : ∀ H, Same H1 H → H D = some (.lst (zs.filterMap _root_.id)) → Qd H) :
    ∃ W : Nat → Nat → Hp → Prop, (∃ m, W 0 m (upd H1 D (.lst []))) ∧ ∀ i m H, W i m H →
      (J.stop i H ∧ Qd H) ∨ (J.go i H ∧ ∃ Nx : Hp → Prop, (∀ H', Nx H' → ∃ m', m' < m ∧ W (i + 1) m' H') ∧ ∀ x H', J.yld i H x H' → g x (wipe σ vs) H' fun σ2 H2 => wipe σ2 vs = wipe σ vs ∧ tt σ2 H2 fun b H3 =>
        if b = true then te σ2 H3 fun y H4 => ∃ acc, H4 D = some (.lst acc) ∧ acc.length < sizeLine ∧ Nx (upd H4 D (.lst (acc ++ [y]))) else Nx H3) := by
  refine lc_it w (fun i H => Same H1 H ∧ H D = some (.lst ((zs.take i).filterMap _root_.id))) ⟨same1 hD, upd_same⟩ (fun i H _ p => hGs _ _ hG p.1) (fun i x H H' hi p y => ?_) (fun H p => hd H p.1 ?_)
  · have hi2 : i < zs.length := by omega
    have tk : ∀ z, zs[i]? = some z → (zs.take (i + 1)).filterMap _root_.id = (zs.take i).filterMap _root_.id ++ z.toList := fun z e => by
      rw [List.take_add_one, e, List.filterMap_append]
      cases z <;> rfl
    have ez : zs[i]? = some zs[i] := List.getElem?_eq_getElem hi2
    refine hs i x H H' zs[i] _ _ hi ez p.1 y (fun v H4 e s4 => ⟨_, s4 _ _ p.2, ?_, ?_, ?_⟩) (fun H4 e s4 => ⟨p.1.trans s4, ?_⟩)
    · refine Nat.lt_of_le_of_lt (List.length_filterMap_le _ _) ?_
      rw [List.length_take]; omega
    · intro c o ec
      rw [upd_ne (ne_of_none ec hD)]
      exact s4 _ _ (p.1 _ _ ec)
    · rw [upd_same, tk _ ez, e]
      rfl
    · rw [tk _ ez, e, Option.toList_none, List.append_nil]
      exact s4 _ _ p.2
  · have e := p.2
    rw [← hlen, List.take_length] at e
    exact e
/-- the elements are told by what holds of them -/
theorem lcr (w : Walk J n G Y) (hGs : ∀ H H', G H → Same H H' → G H') (R : Nat → Hp → V → Prop) (hR : ∀ i H H' y, R i H y → Nl H H' → R i H' y) (hz : n < sizeLine) (hG : G H1) (hD : H1 D = none)
    (hs : ∀ (i : Nat) (x : V) (H H' : Hp) (N : VK) (M : Hp → Prop), i < n → Same H1 H → Y i H x H' → (∀ y H4, Same H H4 → R i H4 y → N y H4) →
      g x (wipe σ vs) H' fun σ2 H2 => wipe σ2 vs = wipe σ vs ∧ tt σ2 H2 fun b H3 => if b = true then te σ2 H3 N else M H3)
    (hd : ∀ H ys, Same H1 H → H D = some (.lst ys) → ys.length = n → (∀ i y, ys[i]? = some y → R i H y) → Qd H) :
    ∃ W : Nat → Nat → Hp → Prop, (∃ m, W 0 m (upd H1 D (.lst []))) ∧ ∀ i m H, W i m H →
      (J.stop i H ∧ Qd H) ∨ (J.go i H ∧ ∃ Nx : Hp → Prop, (∀ H', Nx H' → ∃ m', m' < m ∧ W (i + 1) m' H') ∧ ∀ x H', J.yld i H x H' → g x (wipe σ vs) H' fun σ2 H2 => wipe σ2 vs = wipe σ vs ∧ tt σ2 H2 fun b H3 =>
        if b = true then te σ2 H3 fun y H4 => ∃ acc, H4 D = some (.lst acc) ∧ acc.length < sizeLine ∧ Nx (upd H4 D (.lst (acc ++ [y]))) else Nx H3) := by
  refine lc_it w (fun i H => Same H1 H ∧ ∃ ys, H D = some (.lst ys) ∧ ys.length = i ∧ ∀ j y, ys[j]? = some y → R j H y) ⟨same1 hD, [], upd_same, rfl, fun j y hy => by simp at hy⟩ (fun i H _ p => hGs _ _ hG p.1) (fun i x H H' hi p y => ?_) (fun H p => ?_)
  · obtain ⟨s1, ys, h1, h2, h3⟩ := p
    refine hs i x H H' _ _ hi s1 y (fun v H4 s4 r4 => ⟨ys, s4 _ _ h1, by omega, ?_, ys ++ [v], upd_same, by rw [List.length_append, h2]; rfl, ?_⟩)
    · intro c o ec
      rw [upd_ne (ne_of_none ec hD)]
      exact s4 _ _ (s1 _ _ ec)
    · intro j z hj
      have n4 : Nl H4 (upd H4 D (.lst (ys ++ [v]))) := Nl.put (s4 _ _ h1)
      by_cases hlt : j < ys.length
      · rw [List.getElem?_append_left hlt] at hj
        exact hR _ _ _ _ (hR _ _ _ _ (h3 j z hj) (Nl.of s4)) n4
      · have hj2 : j = ys.length := by
          have := (List.getElem?_eq_some_iff.mp hj).1
          rw [List.length_append, List.length_singleton] at this
          omega
        subst hj2
        rw [List.getElem?_append_right (Nat.le_refl _), Nat.sub_self] at hj
        cases hj
        rw [h2]
        exact hR _ _ _ _ r4 n4
  · obtain ⟨s1, ys, h1, h2, h3⟩ := p
    exact hd H ys s1 h1 h2 h3
end
/-! ### several Measures -/
/-- the values ps are Measures of the fractions zs -/
structure Mks (C : Addr) (H : Hp) (k : Nat) (ps : List V) (zs : List Q2) : Prop where
  len : ps.length = zs.length
  all : ∀ (i : Nat) (v : V) (z : Q2), ps[i]? = some v → zs[i]? = some z → ∃ p, v = V.ref p ∧ QAt C H p k z
section
variable {C : Addr} {H H' : Hp} {k : Nat} {ps : List V} {zs : List Q2} {v : V}
theorem Mks.same (m : Mks C H k ps zs) (s : Same H H') : Mks C H' k ps zs := ⟨m.len, fun i v z h1 h2 => by
  obtain ⟨p, e, q⟩ := m.all i v z h1 h2
  exact ⟨p, e, q.same s⟩⟩
theorem Mks.kp {hd : Addr} {n : Nat} (m : Mks C H k ps zs) (hh : HandAt H hd n) (s : Kp hd H H') : Mks C H' k ps zs := ⟨m.len, fun i v z h1 h2 => by
  obtain ⟨p, e, q⟩ := m.all i v z h1 h2
  exact ⟨p, e, q.kp hh s⟩⟩
theorem Mks.at (m : Mks C H k ps zs) {i : Nat} {z : Q2} (h : zs[i]? = some z) : ∃ p, ps[i]? = some (.ref p) ∧ QAt C H p k z := by
  have hi : i < ps.length := by rw [m.len]; exact (List.getElem?_eq_some_iff.mp h).1
  obtain ⟨p, e, q⟩ := m.all i _ z (List.getElem?_eq_getElem hi) h
  exact ⟨p, by rw [List.getElem?_eq_getElem hi, e], q⟩
theorem Mks.of (m : Mks C H k ps zs) {i : Nat} {v : V} (h : ps[i]? = some v) : ∃ p z, v = .ref p ∧ zs[i]? = some z ∧ QAt C H p k z := by
  have hi : i < zs.length := by rw [← m.len]; exact (List.getElem?_eq_some_iff.mp h).1
  obtain ⟨p, e, q⟩ := m.all i v _ h (List.getElem?_eq_getElem hi)
  exact ⟨p, _, e, List.getElem?_eq_getElem hi, q⟩
/-- None, or a Measure -/
def QO (C : Addr) (H : Hp) (k : Nat) (v : V) : Option Q2 → Prop
  | none => v = .non
  | some z => ∃ p, v = .ref p ∧ QAt C H p k z
theorem QO.same : ∀ {e : Option Q2}, QO C H k v e → Same H H' → QO C H' k v e
  | none, h, _ => h
  | some _, ⟨p, h1, h2⟩, s => ⟨p, h1, h2.same s⟩
theorem QO.kp {hd : Addr} {n : Nat} : ∀ {e : Option Q2}, QO C H k v e → HandAt H hd n → Kp hd H H' → QO C H' k v e
  | none, h, _, _ => h
  | some _, ⟨p, h1, h2⟩, hh, s => ⟨p, h1, h2.kp hh s⟩
/-- the exact numbers of such a Measure -/
theorem QAt.low {p : Addr} {z : Q2} (q : QAt C H p k z) (l : k ≤ 4000) : ∃ a : Q2, MAt C H p a.1 a.2 ∧ Low a ∧ Re a z := by
  obtain ⟨⟨t, u, m, f⟩, h1, h2, h3⟩ := q
  exact ⟨(t, u), m, ⟨f.pos, f.co, (h2.le f.lt).mono l, (h3.le f.lu).mono l⟩, f.pos, h1, f.eq⟩
theorem QO.low (l : k ≤ 4000) : ∀ {e : Option Q2}, QO C H k v e → ∃ m, MsV C H v m ∧ LowO m ∧ ReO m e
  | none, h => ⟨none, h, trivial, trivial⟩
  | some _, ⟨p, h1, h2⟩ => by
    obtain ⟨a, ma, la, ra⟩ := h2.low l
    exact ⟨some a, ⟨p, h1, ma⟩, la, ra⟩
theorem QAt.of {p : Addr} {a z : Q2} (m : MAt C H p a.1 a.2) (l : Low a) (r : Re a z) (s1 : Sz k z.1) (s2 : Sz k z.2) : QAt C H p k z :=
  ⟨⟨a.1, a.2, m, fr_of l.pos l.co r.2.1 r.2.2⟩, r.2.1, s1, s2⟩
end
/-! ### a Ladder -/
def lf (T : V) (r : Str) (l h : V) : List (Str × V) := [("marks", T), ("rule", .str r), ("least", l), ("most", h)]
theorem lf_put (T : V) (r : Str) (l h : V) : putF "most" h (putF "least" l (putF "rule" (.str r) (putF "marks" T []))) = lf T r l h := by
  have e1 : putF ("rule" : Str) (.str r) (putF ("marks" : Str) T []) = ([("marks", T), ("rule", .str r)] : List (Str × V)) := by
    show (if ("marks" : Str) = "rule" then [(("marks" : Str), V.str r)] else (("marks" : Str), T) :: putF "rule" (.str r) []) = _
    rw [if_neg (by decide +kernel)] <;> rfl
  have e2 : putF ("least" : Str) l [("marks", T), ("rule", .str r)] = ([("marks", T), ("rule", .str r), ("least", l)] : List (Str × V)) := by
    show (if ("marks" : Str) = "least" then _ else (("marks" : Str), T) :: (if ("rule" : Str) = "least" then _ else (("rule" : Str), V.str r) :: putF "least" l [])) = _
    rw [if_neg (by decide +kernel), if_neg (by decide +kernel)] <;> rfl
  have e3 : putF ("most" : Str) h [("marks", T), ("rule", .str r), ("least", l)] = lf T r l h := by
    show (if ("marks" : Str) = "most" then _ else (("marks" : Str), T) :: (if ("rule" : Str) = "most" then _ else (("rule" : Str), V.str r) :: (if ("least" : Str) = "most" then _ else (("least" : Str), l) :: putF "most" h []))) = _
    rw [if_neg (by decide +kernel), if_neg (by decide +kernel), if_neg (by decide +kernel)] <;> rfl
  rw [e1, e2, e3]
section
variable (T : V) (r : Str) (l h : V)
theorem lf_marks : (lf T r l h).lookup ("marks" : Str) = some T := by
  rw [← lf_put, lookup_putF, if_neg (by decide +kernel), lookup_putF, if_neg (by decide +kernel), lookup_putF, if_neg (by decide +kernel), lookup_putF, if_pos rfl]
theorem lf_rule : (lf T r l h).lookup ("rule" : Str) = some (.str r) := by
  rw [← lf_put, lookup_putF, if_neg (by decide +kernel), lookup_putF, if_neg (by decide +kernel), lookup_putF, if_pos rfl]
theorem lf_least : (lf T r l h).lookup ("least" : Str) = some l := by
  rw [← lf_put, lookup_putF, if_neg (by decide +kernel), lookup_putF, if_pos rfl]
theorem lf_most : (lf T r l h).lookup ("most" : Str) = some h := by
  rw [← lf_put, lookup_putF, if_pos rfl]
theorem lf_no {m : Str} (h1 : ¬ m = "marks") (h2 : ¬ m = "rule") (h3 : ¬ m = "least") (h4 : ¬ m = "most") : (lf T r l h).lookup m = none := by
  rw [← lf_put, lookup_putF, if_neg h4, lookup_putF, if_neg h3, lookup_putF, if_neg h2, lookup_putF, if_neg h1] <;> rfl
end
/-- rows that rise -/
def RiseQ (zs : List Q2) : Prop := ∀ i a b, zs[i]? = some a → zs[i + 1]? = some b → ltq a b = true
/-- the first row that isn't above the one ahead -/
def SlipQ (zs : List Q2) : Option Nat → Prop
  | none => RiseQ zs
  | some n => 1 ≤ n ∧ n < zs.length ∧ (∀ a b, zs[n - 1]? = some a → zs[n]? = some b → ltq a b = false) ∧ ∀ i a b, i + 1 < n → zs[i]? = some a → zs[i + 1]? = some b → ltq a b = true
def optI : Option Nat → V
  | none => .non
  | some n => .int (n : Int)
def leq (a b : Q2) : Bool := ltq a b || eqq a b
/-- least isn't above most -/
def spanB : Option Q2 → Option Q2 → Bool
  | some a, some b => !ltq b a
  | _, _ => true
def IsRule (r : Str) : Prop := r = "up" ∨ r = "down" ∨ r = "near"
structure LadAt (K : PySem.W.Frag) (CM CL : Addr) (H : Hp) (p : Addr) (k : Nat) (zs : List Q2) (r : Str) (lo hi : Option Q2) : Prop where
  ob : ∃ dx T ps l h, H p = some (.ins CL dx (lf (.ref T) r l h)) ∧ SqT K H T ps ∧ Mks CM H k ps zs ∧ QO CM H k l lo ∧ QO CM H k h hi
  len0 : 0 < zs.length
  len1 : zs.length ≤ 24
  rise : RiseQ zs
  rule : IsRule r
  span : spanB lo hi = true
theorem LadAt.same {K : PySem.W.Frag} {CM CL p : Addr} {H H' : Hp} {k : Nat} {zs : List Q2} {r : Str} {lo hi : Option Q2} (a : LadAt K CM CL H p k zs r lo hi) (s : Same H H') : LadAt K CM CL H' p k zs r lo hi := by
  obtain ⟨⟨dx, T, ps, l, h, h1, h2, h3, h4, h5⟩, a1, a2, a3, a4, a5⟩ := a
  exact ⟨⟨dx, T, ps, l, h, s _ _ h1, s.sqt h2, h3.same s, h4.same s, h5.same s⟩, a1, a2, a3, a4, a5⟩
theorem LadAt.raw {K : PySem.W.Frag} {CM CL p : Addr} {H : Hp} {k : Nat} {zs : List Q2} {r : Str} {lo hi : Option Q2} (a : LadAt K CM CL H p k zs r lo hi) {m : Str} (h1 : ¬ m = "marks") (h2 : ¬ m = "rule") (h3 : ¬ m = "least") (h4 : ¬ m = "most") : ∃ dx fs, H p = some (.ins CL dx fs) ∧ fs.lookup m = none := by
  obtain ⟨⟨dx, T, ps, l, h, e1, _⟩, _⟩ := a
  exact ⟨dx, _, e1, lf_no _ _ _ _ h1 h2 h3 h4⟩
/-- the midsts of neighbours -/
def midq : List Q2 → List Q2
  | a :: b :: r => qhalf a b :: midq (b :: r)
  | _ => []
theorem midq_len : ∀ zs : List Q2, (midq zs).length = zs.length - 1
  | [] => rfl
  | [_] => rfl
  | a :: b :: r => by
    show (midq (b :: r)).length + 1 = _
    rw [midq_len (b :: r)]
    simp
theorem midq_get : ∀ (zs : List Q2) (i : Nat) (a b : Q2), zs[i]? = some a → zs[i + 1]? = some b → (midq zs)[i]? = some (qhalf a b)
  | [], i, a, b, h, _ => by simp at h
  | [x], i, a, b, _, h => by simp at h
  | x :: y :: r, 0, a, b, h1, h2 => by
    cases h1; cases h2; rfl
  | x :: y :: r, i + 1, a, b, h1, h2 => by
    have := midq_get (y :: r) i a b (by simpa using h1) (by simpa using h2)
    simpa [midq] using this
theorem atI_of {xs : List V} {z : Int} {n : Nat} {v : V} (e : z = (n : Int)) (h : xs[n]? = some v) : atI xs z = some v := by
  rw [e]; exact atI_nat h
theorem ge2 {n : Nat} {zs : List Q2} (h : n < zs.length) : ∃ a, zs[n]? = some a := ⟨_, List.getElem?_eq_getElem h⟩
/-- a constant of the module: a tuple of texts -/
def strsOf : List Value → Option (List Str)
  | [] => some []
  | .str x _ :: r => (strsOf r).map (x :: ·)
  | _ => none
theorem strsOf_ok : ∀ {l : List Value} {ss : List Str}, strsOf l = some ss → Vals (ss.map V.str) l
  | [], ss, h => by cases h; exact .nil
  | .str x t :: r, ss, h => by
    cases e : strsOf r with
    | none => simp [strsOf, e] at h
    | some l =>
      simp [strsOf, e] at h
      subst h
      exact .cons ⟨t, rfl⟩ (strsOf_ok e)
def tupB (x : Str) (ss : List Str) : PySem.W.Frag → Bool := fun K => match K.lookup (He.ga K x) with
  | some ⟨.type "tuple", _, .seq its _, _⟩ => decide (its.size ≤ sizeLine) && decide (strsOf its.toList = some ss)
  | _ => false
theorem tup_ok {x : Str} {ss : List Str} {K : PySem.W.Frag} (c : tupB x ss K = true) : ∀ H, SqT K H (He.ga K x) (ss.map V.str) := by
  intro H
  unfold tupB at c
  split at c
  · rename_i d its n sl e
    obtain ⟨c1, c2⟩ := He.ba c
    exact .inr ⟨_, its, n, e, rfl, rfl, of_decide_eq_true c1, strsOf_ok (of_decide_eq_true c2)⟩
  · cases c
theorem tyTup {K : PySem.W.Frag} {H : Hp} {T : Addr} {ps : List V} (h : SqT K H T ps) : TyX K H (.ref T) (.type "tuple") := by
  rcases h with (h | ⟨o, h⟩) | ⟨o, its, n, h, c, _⟩
  · exact .base (.tup h)
  · exact .fTuple h
  · exact .kTuple h c
/-! ### what the defs of ladders promise -/
def sp_slip (K : PySem.W.Frag) (CM : Addr) : Sp := fun vs H Q _ => ∃ (T : Addr) (k : Nat) (ps : List V) (zs : List Q2), vs = [.ref T] ∧ SqT K H T ps ∧ Mks CM H k ps zs ∧ k ≤ 9000 ∧ zs.length ≤ 1000 ∧ ∀ o, SlipQ zs o → Q (optI o) H
def sp_arem (K : PySem.W.Frag) (CM : Addr) : Sp := fun vs H Q _ => ∃ (T : Addr) (k : Nat) (ps : List V) (zs : List Q2), vs = [.ref T] ∧ SqT K H T ps ∧ Mks CM H k ps zs ∧ 0 < zs.length ∧ zs.length ≤ 24 ∧ ∀ H', Same H H' → Q (.bl true) H'
def sp_isrule : Sp := fun vs H Q _ => ∃ r : Str, vs = [.str r] ∧ IsRule r ∧ Q (.bl true) H
def sp_linit (K : PySem.W.Frag) (CM CL : Addr) : Sp := fun vs H Q _ => ∃ (p dx T : Addr) (k : Nat) (ps : List V) (zs : List Q2) (r : Str) (l h : V) (lo hi : Option Q2), vs = [.ref p, .ref T, .str r, l, h] ∧ H p = some (.ins CL dx []) ∧ SqT K H T ps ∧ Mks CM H k ps zs ∧ k ≤ 4000 ∧ 0 < zs.length ∧ zs.length ≤ 24 ∧ RiseQ zs ∧ IsRule r ∧
  QO CM H k l lo ∧ QO CM H k h hi ∧ spanB lo hi = true ∧ ∀ H', H' p = some (.ins CL dx (lf (.ref T) r l h)) → (∀ q o, H q = some o → q ≠ p → H' q = some o) → Q .non H'
def sp_mids (K : PySem.W.Frag) (CM : Addr) : Sp := fun vs H Q _ => ∃ (T : Addr) (k : Nat) (ps : List V) (zs : List Q2), vs = [.ref T] ∧ SqT K H T ps ∧ Mks CM H k ps zs ∧ 0 < k ∧ k ≤ 1000 ∧ 0 < zs.length ∧ zs.length ≤ 24 ∧ ∀ (D : Addr) (ys : List V) (H' : Hp), Same H H' → H' D = some (.lst ys) → Mks CM H' (k + k + 1 + 10 + 1) ys (midq zs) → Q (.ref D) H'
/-- a Ladder is made -/
theorem lad_made {K : PySem.W.Frag} {CM CL T : Addr} {H : Hp} {Qa : Addr → Hp → Prop} {E : XK} {k : Nat} {ps : List V} {zs : List Q2} {r : Str} {l h : V} {lo hi : Option Q2} (hT : SqT K H T ps) (hm : Mks CM H k ps zs) (hk : k ≤ 4000) (l0 : 0 < zs.length) (l1 : zs.length ≤ 24) (ri : RiseQ zs) (ru : IsRule r)
    (q1 : QO CM H k l lo) (q2 : QO CM H k h hi) (sp : spanB lo hi = true) (f : ∀ (p : Addr) (H' : Hp), H p = none → Same H H' → LadAt K CM CL H' p k zs r lo hi → (∃ dx, H' p = some (.ins CL dx (lf (.ref T) r l h))) → Qa p H') :
    ∀ x dx, H x = none → H dx = none → dx ≠ x → sp_linit K CM CL [.ref x, .ref T, .str r, l, h] (upd (upd H dx (.own x)) x (.ins CL dx [])) (fun v H2 => v = .non ∧ Qa x H2) E := by
  intro x dx nx nd ne
  have s0 : Same H (upd (upd H dx (.own x)) x (.ins CL dx [])) := fun c o e => by
    rw [upd_ne (ne_of_none e nx)]
    exact up1 nd e
  refine ⟨x, dx, T, k, ps, zs, r, l, h, lo, hi, rfl, upd_same, s0.sqt hT, hm.same s0, hk, l0, l1, ri, ru, q1.same s0, q2.same s0, sp, fun H' hx kp => ⟨rfl, ?_⟩⟩
  have s1 : Same H H' := made_same nx nd kp
  exact f x H' nx s1 ⟨⟨dx, T, ps, l, h, hx, s1.sqt hT, hm.same s1, q1.same s1, q2.same s1⟩, l0, l1, ri, ru, sp⟩ ⟨dx, hx⟩
theorem iteDT {c A B : Prop} [Decidable c] (hc : c) (h : A) : if decide c = true then A else B := by
  rw [if_pos (decide_eq_true hc)]; exact h
theorem iteDF {c A B : Prop} [Decidable c] (hc : ¬ c) (h : B) : if decide c = true then A else B := by
  rw [if_neg (by simpa using hc)]; exact h
theorem iteNT {c A B : Prop} [Decidable c] (hc : ¬ c) (h : A) : if (!decide c) = true then A else B := by
  rw [if_pos (by simpa using hc)]; exact h
section
variable {C H p k} {m : Str} {R : Prop}
theorem meth_q {x : Q2} (q : QAt C H p k x) (h1 : ¬ m = "top") (h2 : ¬ m = "bottom") (h : R) : ∃ a dx fs, V.ref p = .ref a ∧ H a = some (.ins C dx fs) ∧ fs.lookup m = none ∧ R := by
  obtain ⟨dx, fs, e1, e2⟩ := q.raw h1 h2
  exact ⟨p, dx, fs, rfl, e1, e2, h⟩
theorem meth_l {K : PySem.W.Frag} {CM : Addr} {zs : List Q2} {r : Str} {lo hi : Option Q2} (q : LadAt K CM C H p k zs r lo hi) (h1 : ¬ m = "marks") (h2 : ¬ m = "rule") (h3 : ¬ m = "least") (h4 : ¬ m = "most") (h : R) : ∃ a dx fs, V.ref p = .ref a ∧ H a = some (.ins C dx fs) ∧ fs.lookup m = none ∧ R := by
  obtain ⟨dx, fs, e1, e2⟩ := q.raw h1 h2 h3 h4
  exact ⟨p, dx, fs, rfl, e1, e2, h⟩
theorem meth_s {CM : Addr} {lo hi : Option Q2} {li hj : Bool} (q : StAt CM C H p lo hi li hj) (h1 : ¬ m = "low") (h2 : ¬ m = "high") (h3 : ¬ m = "low_in") (h4 : ¬ m = "high_in") (h : R) : ∃ a dx fs, V.ref p = .ref a ∧ H a = some (.ins C dx fs) ∧ fs.lookup m = none ∧ R := by
  obtain ⟨dx, fs, e1, e2⟩ := q.raw h1 h2 h3 h4
  exact ⟨p, dx, fs, rfl, e1, e2, h⟩
end
end My
namespace My
open PySem PySem.Spec PyProof.Rows L2
/-! ### enumerate of a tuple -/
section
variable {X : Cx}
/-! ### len of an own object -/
end
/-! ### max and min with a default -/
section
variable {X : Cx} {K : PySem.W.Frag}
/-! ### xs[::k] -/
def rTupL (K : PySem.W.Frag) : List V → Hp → VK → Prop := fun xs H Q => ∃ (p : Addr) (ys : List V), xs = [.ref p] ∧ SqL K H p ys ∧ ∀ l, H l = none → Q (.ref l) (upd H l (.tup ys))
theorem tupleL (hK : X.K = K := by rfl) : CallR X (.type "tuple") (rTupL K) := by
  subst hK
  intro pins s σ H xs us Q I r h
  obtain ⟨p, ys, e, h1, h2⟩ := h
  exact call_tuple_of pins s σ H xs us Q I r ⟨p, ys, e, .inl ⟨h1, h2⟩⟩
end
theorem logS {m : Int} (h : m.natAbs < 2 ^ 60) : m.natAbs.log2 < 9000 := Nat.lt_of_lt_of_le (PySem.Flt.log2_lt_of (by decide) h) (by decide)
theorem szl {n : Nat} (h : n ≤ 1000) : n ≤ sizeLine := Nat.le_trans h (by decide)
theorem szb {n : Nat} (h : Nat.ble n 1000 = true) : n ≤ sizeLine := szl (Nat.le_of_ble_eq_true h)
theorem szs {n : Nat} (h : n < 1000) : n < sizeLine := Nat.lt_of_lt_of_le h (by decide)
theorem atI_end {xs : List V} {n : Nat} {v : V} (hn : n + 1 = xs.length) (h : xs[n]? = some v) : atI xs (-1) = some v := by
  have e : ixN xs.length (-1) = some n := by
    unfold ixN
    rw [if_neg (by decide), if_pos (by omega)]
    exact congrArg some (by omega)
  unfold atI
  rw [e]
  exact h
theorem qmk_pos {a b : Int} (h : 0 < b) : qmk a b = (a, b) := by
  have e : sgn b = 1 := by unfold sgn; rw [if_pos h]
  unfold qmk
  rw [e, Int.mul_one, Int.mul_one]
/-- a Measure is made -/
theorem q_made {C : Addr} {H : Hp} {Qa : Addr → Hp → Prop} {E : XK} {k : Nat} {a b : Int} (hb : 0 < b) (sa : Sz k a) (sb : Sz k b) (k0 : 0 < k) (k1 : k ≤ 8900) (f : ∀ (p : Addr) (H' : Hp), Same H H' → QAt C H' p k (a, b) → Qa p H') :
    ∀ x dx, H x = none → H dx = none → dx ≠ x → sp_minit C [.ref x, .int a, .int b] (upd (upd H dx (.own x)) x (.ins C dx [])) (fun v H2 => v = .non ∧ Qa x H2) E := by
  intro x dx nx nd ne
  refine ⟨x, dx, a, b, rfl, upd_same, by omega, Sz.log sb k0 (by omega), fun t u H' fr hx kp => ⟨rfl, ?_⟩⟩
  have q := q_mk (k := k) ⟨dx, hx⟩ fr (by omega) sa sb
  rw [qmk_pos hb] at q
  exact f x H' (made_same nx nd kp) q
/-! ### draws -/
/-- one of a list -/
def sp_of (K : PySem.W.Frag) : Sp := fun vs H Q _ => ∃ (h l : Addr) (n : Nat) (xs : List V), vs = [.ref h, .ref l] ∧ HandAt H h n ∧ n < 100000 ∧ SqL K H l xs ∧ l ≠ h ∧ 0 < xs.length ∧ xs.length ≤ 1000 ∧
  ∀ (i : Nat) (x : V) (H' : Hp), xs[i]? = some x → HandAt H' h (n + 1) → Kp h H H' → Q x H'
end My
namespace My
open PySem PySem.Spec PyProof.Rows L2
theorem HandAt.put {H : Hp} {h l : Addr} {u : HO} {n : Nat} (a : HandAt H h n) (ne : l ≠ h) : HandAt (upd H l u) h n := by
  obtain ⟨x, y, z, h1, h2⟩ := a
  exact ⟨x, y, z, by rw [upd_ne ne.symm]; exact h1, h2⟩
theorem Kp.fresh {h l : Addr} {H H1 : Hp} (k : Kp h H H1) (hn : H1 l = none) (ne : l ≠ h) : H l = none := by
  cases e : H l with
  | none => rfl
  | some o => rw [k l o e ne] at hn; cases hn
theorem Kp.putN {h l : Addr} {H H1 : Hp} {u : HO} (k : Kp h H H1) (hn : H l = none) : Kp h H (upd H1 l u) := fun c o e n => by
  rw [upd_ne (ne_of_none e hn)]; exact k c o e n
theorem geI {n : Nat} {zs : List Int} (h : n < zs.length) : ∃ a, zs[n]? = some a := ⟨_, List.getElem?_eq_getElem h⟩
theorem mapI {ms : List Int} {n : Nat} {a : Int} (h : ms[n]? = some a) : (ms.map V.int)[n]? = some (.int a) := by rw [List.getElem?_map, h]; rfl
def optZ : Option Int → V
  | none => .non
  | some z => .int z
/-- a ladder in whole parts, as the laws draw it -/
structure LawL (H : Hp) (p : Addr) (part : Int) (ms : List Int) (r : Str) (lo hi : Option Int) : Prop where
  ob : ∃ T, H p = some (.tup [.int part, .ref T, .str r, optZ lo, optZ hi]) ∧ H T = some (.tup (ms.map V.int))
  p0 : 0 < part
  p1 : part ≤ 10007
  len0 : 0 < ms.length
  len1 : ms.length ≤ 24
  rise : ∀ (i : Nat) (a b : Int), ms[i]? = some a → ms[i + 1]? = some b → a < b
  four : ∀ m ∈ ms, m % 4 = 0
  bnd : ∀ m ∈ ms, -4000000 ≤ m ∧ m ≤ 4000000
  blo : ∀ z, lo = some z → -4000040 ≤ z ∧ z ≤ 4000040
  bhi : ∀ z, hi = some z → -4000040 ≤ z ∧ z ≤ 4000040
  rule : IsRule r
  span : ∀ a b, lo = some a → hi = some b → a ≤ b
section
variable {H H' : Hp} {p : Addr} {part : Int} {ms : List Int} {r : Str} {lo hi : Option Int}
theorem LawL.same (a : LawL H p part ms r lo hi) (s : Same H H') : LawL H' p part ms r lo hi := by
  obtain ⟨⟨T, h1, h2⟩, a1⟩ := a
  exact ⟨⟨T, s _ _ h1, s _ _ h2⟩, by assumption, by assumption, by assumption, by assumption, by assumption, by assumption, by assumption, by assumption, by assumption, by assumption, by assumption⟩
/-- the parts as fractions -/
def zq (d : Int) (ms : List Int) : List Q2 := ms.map fun m => (m, d)
def oq (d : Int) (o : Option Int) : Option Q2 := o.map fun m => (m, d)
theorem zq_len (d : Int) (ms : List Int) : (zq d ms).length = ms.length := List.length_map ..
theorem zq_get {d : Int} {ms : List Int} {i : Nat} {z : Q2} (h : (zq d ms)[i]? = some z) : ∃ m, ms[i]? = some m ∧ z = (m, d) := by
  unfold zq at h
  rw [List.getElem?_map] at h
  cases e : ms[i]? with
  | none => rw [e] at h; cases h
  | some m => rw [e] at h; exact ⟨m, rfl, (Option.some.inj h).symm⟩
theorem ltq_d {d a b : Int} (h : 0 < d) : ltq (a, d) (b, d) = decide (a < b) := by
  unfold ltq
  refine decide_eq_decide.mpr ⟨fun z => Int.lt_of_mul_lt_mul_right z (Int.le_of_lt h), fun z => Int.mul_lt_mul_of_pos_right z h⟩
theorem eqq_d {d a b : Int} (h : 0 < d) : eqq (a, d) (b, d) = decide (a = b) := by
  unfold eqq
  refine decide_eq_decide.mpr ⟨fun z => Int.eq_of_mul_eq_mul_right (by omega) z, fun z => by rw [z]⟩
theorem LawL.riseQ (a : LawL H p part ms r lo hi) : RiseQ (zq (4 * part) ms) := by
  intro i x y hx hy
  obtain ⟨m, hm, rfl⟩ := zq_get hx
  obtain ⟨m', hm', rfl⟩ := zq_get hy
  have := a.p0
  rw [ltq_d (by omega)]
  exact decide_eq_true (a.rise i m m' hm hm')
theorem LawL.spanQ (a : LawL H p part ms r lo hi) : spanB (oq (4 * part) lo) (oq (4 * part) hi) = true := by
  cases lo with
  | none => cases hi <;> rfl
  | some x =>
    cases hi with
    | none => rfl
    | some y =>
      have := a.p0
      have h := a.span x y rfl rfl
      show (!ltq (y, 4 * part) (x, 4 * part)) = true
      rw [ltq_d (by omega), decide_eq_false (by omega)]
      rfl
end
theorem rise_snoc {ms : List Int} {x : Int} (h : ∀ (i : Nat) (a b : Int), ms[i]? = some a → ms[i + 1]? = some b → a < b) (hx : ∀ m ∈ ms, m < x) : ∀ (i : Nat) (a b : Int), (ms ++ [x])[i]? = some a → (ms ++ [x])[i + 1]? = some b → a < b := by
  intro i a b ha hb
  have l1 := (List.getElem?_eq_some_iff.mp hb).1
  rw [List.length_append, List.length_singleton] at l1
  rw [List.getElem?_append_left (by omega)] at ha
  by_cases hi : i + 1 < ms.length
  · rw [List.getElem?_append_left hi] at hb
    exact h i a b ha hb
  · have e : i + 1 = ms.length := by omega
    rw [e, List.getElem?_append_right (Nat.le_refl _), Nat.sub_self] at hb
    have eb : x = b := by simpa using hb
    rw [← eb]
    exact hx a (List.mem_of_getElem? ha)
theorem map_snoc (ms : List Int) (x : Int) : ms.map V.int ++ [V.int x] = (ms ++ [x]).map V.int := by simp
/-- whole numbers within a bound -/
def IntsB (B : Int) (xs : List V) : Prop := ∀ x ∈ xs, ∃ z : Int, x = .int z ∧ -B ≤ z ∧ z ≤ B
theorem IntsB.mono {B B' : Int} {xs : List V} (a : IntsB B xs) (l : B ≤ B') : IntsB B' xs := fun x h => by
  obtain ⟨z, e, h1, h2⟩ := a x h
  exact ⟨z, e, by omega, by omega⟩
theorem IntsB.ints {B : Int} : ∀ {xs : List V}, IntsB B xs → ∃ ys : List Int, xs = ys.map V.int ∧ ∀ y ∈ ys, -B ≤ y ∧ y ≤ B
  | [], _ => ⟨[], rfl, fun y h => by simp at h⟩
  | x :: xs, a => by
    obtain ⟨z, rfl, h1⟩ := a x (by simp)
    obtain ⟨ys, e, h2⟩ := IntsB.ints (xs := xs) fun w hw => a w (by simp [hw])
    refine ⟨z :: ys, by rw [e]; rfl, fun y hy => ?_⟩
    rcases List.mem_cons.mp hy with e | e
    · rw [e]; exact h1
    · exact h2 y e
theorem IntsB.of {B : Int} {ms : List Int} (h : ∀ m ∈ ms, -B ≤ m ∧ m ≤ B) : IntsB B (ms.map V.int) := fun x hx => by
  obtain ⟨m, hm, rfl⟩ := List.mem_map.mp hx
  exact ⟨m, rfl, h m hm⟩
/-! ### sizes by whole numbers -/
abbrev RiseI (ms : List Int) : Prop := ∀ (i : Nat) (a b : Int), ms[i]? = some a → ms[i + 1]? = some b → a < b
theorem RiseI.tail {x : Int} {ms : List Int} (h : RiseI (x :: ms)) : RiseI ms := fun i a b h1 h2 => h (i + 1) a b (by simpa using h1) (by simpa using h2)
theorem RiseI.head : ∀ {ms : List Int} {x : Int}, RiseI (x :: ms) → ∀ m ∈ ms, x < m
  | [], _, _, m, hm => by simp at hm
  | y :: ms, x, h, m, hm => by
    have h0 : x < y := h 0 x y rfl rfl
    rcases List.mem_cons.mp hm with e | e
    · rw [e]; exact h0
    · have := RiseI.head h.tail m e
      omega
theorem RiseI.lt {ms : List Int} (h : RiseI ms) : ∀ {j : Nat} {i : Nat} {a b : Int}, i < j → ms[i]? = some a → ms[j]? = some b → a < b
  | 0, _, _, _, hi, _, _ => by omega
  | j + 1, i, a, b, hi, ha, hb => by
    obtain ⟨c, hc⟩ := geI (zs := ms) (n := j) (by have := (List.getElem?_eq_some_iff.mp hb).1; omega)
    have h1 := h j c b hc hb
    by_cases e : i = j
    · subst e
      rw [ha] at hc
      cases hc
      exact h1
    · have := RiseI.lt h (show i < j by omega) ha hc
      omega
section
variable {ms : List Int} {d z : Int} {lo hi : Option Q2}
end
theorem rep_fm (n : Nat) : (List.replicate n (some (V.bl true))).filterMap _root_.id = (List.replicate n true).map V.bl := by
  induction n with
  | zero => rfl
  | succ n ih => rw [List.replicate_succ, List.replicate_succ]; simpa using ih
theorem rep_all (n : Nat) : (List.replicate n true).all _root_.id = true := by
  induction n with
  | zero => rfl
  | succ n ih => rw [List.replicate_succ]; simpa using ih
/-! ### what the laws' own defs promise -/
def sp_near : Sp := fun vs H Q _ => ∃ (h l : Addr) (n : Nat) (ms : List Int), vs = [.ref h, .ref l] ∧ HandAt H h n ∧ n < 90000 ∧ H l = some (.lst (ms.map V.int)) ∧ l ≠ h ∧ 0 < ms.length ∧ ms.length ≤ 24 ∧ (∀ m ∈ ms, -4000000 ≤ m ∧ m ≤ 4000000) ∧
  ∀ (z : Int) (H' : Hp), -4000040 ≤ z → z ≤ 4000040 → HandAt H' h (n + 3) → Kp h H H' → Q (.int z) H'
def sp_lad : Sp := fun vs H Q _ => ∃ (h : Addr) (n : Nat), vs = [.ref h] ∧ HandAt H h n ∧ n < 10000 ∧
  ∀ (p : Addr) (part : Int) (ms : List Int) (r : Str) (lo hi : Option Int) (H' : Hp), LawL H' p part ms r lo hi → HandAt H' h (n + 60) → Kp h H H' → Q (.ref p) H'
def sp_lmeas (CM : Addr) : Sp := fun vs H Q _ => ∃ (part z : Int), vs = [.int part, .int z] ∧ 0 < part ∧ part ≤ 10007 ∧ Sz 40 z ∧
  ∀ (q : Addr) (H' : Hp), Same H H' → QAt CM H' q 40 (z, 4 * part) → Q (.ref q) H'
def sp_lend (CM : Addr) : Sp := fun vs H Q _ => ∃ (part : Int) (o : Option Int), vs = [.int part, optZ o] ∧ 0 < part ∧ part ≤ 10007 ∧ (∀ z, o = some z → Sz 40 z) ∧
  ∀ (v : V) (H' : Hp), Same H H' → QO CM H' 40 v (oq (4 * part) o) → Q v H'
def sp_lmade (K : PySem.W.Frag) (CM CL : Addr) : Sp := fun vs H Q _ => ∃ (p : Addr) (part : Int) (ms : List Int) (r : Str) (lo hi : Option Int), vs = [.ref p] ∧ LawL H p part ms r lo hi ∧
  ∀ (q : Addr) (H' : Hp), Same H H' → LadAt K CM CL H' q 40 (zq (4 * part) ms) r (oq (4 * part) lo) (oq (4 * part) hi) → Q (.ref q) H'
end My
namespace My
open PySem PySem.Spec PyProof.Rows L2
/-! ### the stretches of a ladder's sizes -/
section
variable {X : Cx} {K : PySem.W.Frag}
/-- an item of a list or a tuple -/
def rIxLT (K : PySem.W.Frag) : R2 := fun x y H Q => ∃ (p : Addr) (xs : List V) (i : Int) (v : V), x = .ref p ∧ y = .int i ∧ (SqL K H p xs ∨ SqT K H p xs) ∧ atI xs i = some v ∧ Q v H
theorem ixs (hK : X.K = K := by rfl) : IxR X (rIxLT K) := by
  subst hK
  intro value slice pins s σ H x y v u Q I rx ry h hs
  obtain ⟨p, xs, i, w, e1, e2, hq | hq, h3, h4⟩ := h
  · exact ix_list value slice pins s σ H x y v u Q I rx ry ⟨p, xs, i, w, e1, e2, hq, h3, h4⟩ hs
  · exact ix_tup value slice pins s σ H x y v u Q I rx ry ⟨p, xs, i, w, e1, e2, hq, h3, h4⟩ hs
end
def endQ (zs : List Q2) (i : Int) : Option Q2 := if 0 ≤ i ∧ i < zs.length then zs[i.toNat]? else none
/-- both ends of a size by the rule alone, and whether they are in -/
def rulE (zs : List Q2) (r : Str) (n : Nat) : (Option Q2 × Bool) × (Option Q2 × Bool) :=
  if r = "up" then ((endQ zs ((n : Int) - 1), false), (zs[n]?, true)) else if r = "down" then ((zs[n]?, true), (endQ zs ((n : Int) + 1), false)) else ((endQ (midq zs) ((n : Int) - 1), true), (endQ (midq zs) n, false))
/-- a Stretch whose ends are these fractions -/
def StQ (CM CS : Addr) (H : Hp) (p : Addr) (x y : Option Q2 × Bool) : Prop := ∃ lo hi, StAt CM CS H p lo hi (x.2 && x.1.isSome) (y.2 && y.1.isSome) ∧ ReO lo x.1 ∧ ReO hi y.1
theorem StQ.same {CM CS p : Addr} {H H' : Hp} {x y : Option Q2 × Bool} (a : StQ CM CS H p x y) (s : Same H H') : StQ CM CS H' p x y := by
  obtain ⟨lo, hi, h1, h2, h3⟩ := a
  exact ⟨lo, hi, h1.same s, h2, h3⟩
def CutQ (CM CS : Addr) (H : Hp) (v : V) (x y : Option Q2 × Bool) : Prop := ∃ x' y', CutV CM CS H v x' y' ∧ Alike x' x ∧ Alike y' y
theorem CutQ.same {CM CS : Addr} {H H' : Hp} {v : V} {x y : Option Q2 × Bool} (a : CutQ CM CS H v x y) (s : Same H H') : CutQ CM CS H' v x y := by
  obtain ⟨x', y', h1, h2, h3⟩ := a
  exact ⟨x', y', h1.same s, h2, h3⟩
/-- both ends of a size's stretch -/
def sizE (zs : List Q2) (r : Str) (lo hi : Option Q2) (n : Nat) : (Option Q2 × Bool) × (Option Q2 × Bool) :=
  (cutLo (rulE zs r n).1.1 (rulE zs r n).1.2 lo true, cutHi (rulE zs r n).2.1 (rulE zs r n).2.2 hi true)
def sp_endat (K : PySem.W.Frag) (CM : Addr) : Sp := fun vs H Q _ => ∃ (T : Addr) (k : Nat) (ps : List V) (zs : List Q2) (i : Int), vs = [.ref T, .int i] ∧ (SqL K H T ps ∨ SqT K H T ps) ∧ Mks CM H k ps zs ∧ ∀ v, QO CM H k v (endQ zs i) → Q v H
def sp_strR (K : PySem.W.Frag) (CM CS : Addr) : Sp := fun vs H Q _ => ∃ (T : Addr) (k : Nat) (ps : List V) (zs : List Q2) (r : Str) (n : Nat), vs = [.ref T, .str r, .int n] ∧ SqT K H T ps ∧ Mks CM H k ps zs ∧ 0 < k ∧ k ≤ 1000 ∧ zs.length ≤ 24 ∧ n < zs.length ∧ RiseQ zs ∧
  ∀ (p : Addr) (H' : Hp), Same H H' → StQ CM CS H' p (rulE zs r n).1 (rulE zs r n).2 → Q (.ref p) H'
def sp_hassz (K : PySem.W.Frag) (CM CL : Addr) : Sp := fun vs H Q _ => ∃ (p : Addr) (k : Nat) (zs : List Q2) (r : Str) (lo hi : Option Q2) (n : Nat), vs = [.ref p, .int n] ∧ LadAt K CM CL H p k zs r lo hi ∧ n < zs.length ∧ Q (.bl true) H
def sp_llen (K : PySem.W.Frag) (CM CL : Addr) : Sp := fun vs H Q _ => ∃ (p : Addr) (k : Nat) (zs : List Q2) (r : Str) (lo hi : Option Q2), vs = [.ref p] ∧ LadAt K CM CL H p k zs r lo hi ∧ Q (.int (zs.length : Nat)) H
def sp_stretch (K : PySem.W.Frag) (CM CL CS : Addr) : Sp := fun vs H Q _ => ∃ (p : Addr) (k : Nat) (zs : List Q2) (r : Str) (lo hi : Option Q2) (n : Nat), vs = [.ref p, .int n] ∧ LadAt K CM CL H p k zs r lo hi ∧ 0 < k ∧ k ≤ 1000 ∧ n < zs.length ∧
  ∀ (v : V) (H' : Hp), Same H H' → CutQ CM CS H' v (sizE zs r lo hi n).1 (sizE zs r lo hi n).2 → Q v H'
/-! between neighbours there is something -/
theorem some_lt {a b : Q2} {i j : Bool} (h : ltq a b = true) : someB (some a) (some b) i j = true := by
  unfold someB
  first
    | (rw [h]; rfl)
    | (simp [h])
theorem mids_lt {a b c : Q2} (ha : 0 < a.2) (hb : 0 < b.2) (hc : 0 < c.2) (h1 : ltq a b = true) (h2 : ltq b c = true) : ltq (qhalf a b) (qhalf b c) = true := by
  have e1 := (half_lo ha hb).2.1
  have e2 := (half_lo hb hc).1
  rw [h1] at e1
  rw [h2] at e2
  have p1 : 0 < (qhalf a b).2 := by rw [qhalf_eq]; exact Int.mul_pos (Int.mul_pos ha hb) (by decide)
  have p2 : 0 < (qhalf b c).2 := by rw [qhalf_eq]; exact Int.mul_pos (Int.mul_pos hb hc) (by decide)
  exact ltq_trans hb p1 p2 e1 e2
theorem stq_made {CM CS : Addr} {H : Hp} {Qa : Addr → Hp → Prop} {E : XK} {k j : Nat} {l h : V} {a b : Option Q2} {ia ib : Bool} (ql : QO CM H k l a) (qh : QO CM H j h b) (hk : k ≤ 4000) (hj : j ≤ 4000) (so : someB a b ia ib = true)
    (f : ∀ (p : Addr) (H' : Hp), Same H H' → StQ CM CS H' p (a, ia) (b, ib) → Qa p H') :
    ∀ x dx, H x = none → H dx = none → dx ≠ x → sp_sinit CM CS [.ref x, l, h, .bl ia, .bl ib] (upd (upd H dx (.own x)) x (.ins CS dx [])) (fun v H2 => v = .non ∧ Qa x H2) E := by
  intro x dx nx nd ne
  obtain ⟨lo, m1, l1, r1⟩ := ql.low hk
  obtain ⟨hi, m2, l2, r2⟩ := qh.low hj
  have s0 : Same H (upd (upd H dx (.own x)) x (.ins CS dx [])) := fun c o e => by
    rw [upd_ne (ne_of_none e nx)]
    exact up1 nd e
  refine ⟨x, dx, l, h, lo, hi, ia, ib, rfl, upd_same, m1.same s0, m2.same s0, l1, l2, by rw [someB_congr r1 r2]; exact so, fun H' hx kp => ⟨rfl, ?_⟩⟩
  have s1 : Same H H' := made_same nx nd kp
  refine f x H' s1 ⟨lo, hi, ?_, r1, r2⟩
  have z := StAt.mk' (CM := CM) hx s1 m1 m2 l1 l2
  rw [r1.isS, r2.isS] at z
  exact z
theorem some_tt {lo hi : Option Q2} (h : spanB lo hi = true) : someB lo hi true true = true := by
  cases lo with
  | none => cases hi <;> rfl
  | some a =>
    cases hi with
    | none => rfl
    | some b =>
      have h' : ltq b a = false := by simpa [spanB] using h
      have t := lt_tri a b
      rw [h'] at t
      unfold someB
      rcases t with ⟨t1, t2, _⟩ | ⟨t1, t2, _⟩ | ⟨_, _, t3⟩
      · simp [t1, t2]
      · simp [t1, t2]
      · cases t3
/-- the fractions' bottoms are above nought -/
def PosL (zs : List Q2) : Prop := ∀ z ∈ zs, 0 < z.2
theorem Mks.posL {C : Addr} {H : Hp} {k : Nat} {ps : List V} {zs : List Q2} (m : Mks C H k ps zs) : PosL zs := fun z hz => by
  obtain ⟨i, hi⟩ := List.mem_iff_getElem?.mp hz
  obtain ⟨p, _, q⟩ := m.at hi
  exact q.pos
theorem endQ_in {zs : List Q2} {i : Int} {n : Nat} (e : i = (n : Int)) : endQ zs i = zs[n]? := by
  subst e
  unfold endQ
  by_cases h : n < zs.length
  · rw [if_pos (by omega)]; rfl
  · rw [if_neg (by omega)]
    exact (List.getElem?_eq_none (by omega)).symm
theorem endQ_none {zs : List Q2} {i : Int} (h : i < 0) : endQ zs i = none := by
  unfold endQ
  rw [if_neg (by omega)]
theorem some_up {zs : List Q2} {n : Nat} (hr : RiseQ zs) {i j : Bool} : someB (endQ zs ((n : Int) - 1)) zs[n]? i j = true := by
  cases n with
  | zero => rw [endQ_none (by omega)]; rfl
  | succ n =>
    rw [endQ_in (n := n) (by omega)]
    cases e1 : zs[n]? with
    | none => rfl
    | some a =>
      cases e2 : zs[n + 1]? with
      | none => rfl
      | some b => exact some_lt (hr n a b e1 e2)
theorem some_dn {zs : List Q2} {n : Nat} (hr : RiseQ zs) {i j : Bool} : someB zs[n]? (endQ zs ((n : Int) + 1)) i j = true := by
  rw [endQ_in (n := n + 1) (by omega)]
  cases e1 : zs[n]? with
  | none => rfl
  | some a =>
    cases e2 : zs[n + 1]? with
    | none => rfl
    | some b => exact some_lt (hr n a b e1 e2)
theorem midq_rise {zs : List Q2} (hr : RiseQ zs) (hp : PosL zs) : RiseQ (midq zs) := by
  intro i x y hx hy
  have l := (List.getElem?_eq_some_iff.mp hy).1
  rw [midq_len] at l
  obtain ⟨a, ha⟩ := ge2 (zs := zs) (n := i) (by omega)
  obtain ⟨b, hb⟩ := ge2 (zs := zs) (n := i + 1) (by omega)
  obtain ⟨c, hc⟩ := ge2 (zs := zs) (n := i + 1 + 1) (by omega)
  rw [midq_get zs i a b ha hb] at hx
  rw [midq_get zs (i + 1) b c hb hc] at hy
  cases hx; cases hy
  exact mids_lt (hp a (List.mem_of_getElem? ha)) (hp b (List.mem_of_getElem? hb)) (hp c (List.mem_of_getElem? hc)) (hr i a b ha hb) (hr (i + 1) b c hb hc)
theorem some_nr {zs : List Q2} {n : Nat} (hr : RiseQ zs) {i j : Bool} : someB (endQ zs ((n : Int) - 1)) (endQ zs (n : Int)) i j = true := by
  rw [endQ_in (n := n) rfl]
  exact some_up hr
end My
namespace My
open PySem PySem.Spec PyProof.Rows L2
/-! ### defs that are called where no text of a list or tuple is under way -/
structure FnG (P : Program) (w : World) (K : PySem.W.Frag) (mg : Str → Option Value) (base : Heap) (CX : CXT) (k : Nat) (f : Addr) (fd : FuncData) (ps : List Str) (sp : Sp) : Prop where
  lenG : ∀ vs H Q E, sp vs H Q E → vs.length = ps.length
  runG : ∀ (A : Around) (outer : List Env) (s : Shared) (H : Hp) (args : Args) (us : List Value) (vs : List V) (Q : VK) (E : XK), Room k A → A.guards = some [] → Env0 P w K mg base A outer s H → BindsTo s fd args (ps.zip us) → Vals vs us → sp vs H Q E →
    codeAny (model P w) A (.call (.ref f) args) (CR CX outer P w H s Q E) s
section
variable {P : Program} {w : World} {K : PySem.W.Frag} {mg : Str → Option Value} {base : Heap} {x qual : Str} {params : Arguments} {body : List Stmt} {scope : Scope} {dvs : List V} {kws : List (Str × V)} {f : Addr} {fd : FuncData}
theorem okG {CX : CXT} {N ps : List Str} {k : Nat} {sp : Sp} (F : FunD K x qual params body scope dvs kws f fd) (S : FnScope N ps scope) (hlen : ∀ vs H Q E, sp vs H Q E → vs.length = ps.length)
    (hbody : ∀ (cdv : Value) (A : Around) (outer : List Env) (s : Shared) (H : Hp) (vs : List V) (Q : VK) (E : XK), Room k (A.deeper (envOfC qual scope s.heap.objs.size f cdv)) → A.guards = some [] → sp vs H Q E →
      ∃ t, PSs (cxOf CX P w K mg base N qual scope f cdv A outer s H E) body t ∧ t { nx := fun _ H' => Q .non H', rt := Q } (start N vs) H) : FnG P w K mg base CX (k + 1) f fd ps sp := by
  obtain ⟨oc, od, dV, kV, doc, pm, an, cdv, ct, osl, rfl, lk, hcd, _, _⟩ := F.ex
  refine ⟨hlen, fun A outer s H args us vs Q E room gd en bd rl hs => ?_⟩
  have lv := hlen _ _ _ _ hs
  have kin : K.In s.heap := en.mod.kin.keeps fun b o q => (en.bs b o q).1
  have noL : s.heap.NoLimit := en.mod.nolimit.keeps fun b o q => (en.bs b o q).1
  have kinds : ∀ y ∈ ps.zip us, scope.names.lookup y.1 = some .local ∨ (scope.names.lookup y.1 = some .cell ∧ ((cellsFrom (s.heap.objs.size + 1) scope.names []).lookup y.1).isSome = true) := fun ⟨n, v⟩ hy => by
    rcases S.par n (List.of_mem_zip hy).1 with q | q
    · exact .inl q
    · exact .inr ⟨q, PySem.W.cellsFrom_some _ _ _ (.inl q)⟩
  refine codeAny_call_function room.depth (kin _ _ lk) rfl S.co S.gen rfl (PySem.W.codeRec_of kin hcd) (bd _ _ _ _ ?_)
  refine wpAny_newFunctionEnv_cells S.kind kinds fun env ee s1 ic => ?_
  subst ee
  refine ⟨noL.keeps ic.toInCall.keep, codeAny_func ?_⟩
  obtain ⟨t, ht, hq⟩ := hbody cdv A outer s H vs Q E (room.deeper _) gd hs
  have J0 : Inv (cxOf CX P w K mg base N qual scope f cdv A outer s H E) [] (start N vs) H s1 := inv_start S room.hd en lv rl ic
  refine wpAny_mono (ht.run [] s1 (start N vs) H _ J0 hq) (fun fl s' hz => ?_) fun e s' hz => hz
  cases fl with
  | ret u =>
    obtain ⟨v, σ', H', J, rv, q⟩ := hz
    exact ⟨v, H', J.os, J.bare, J.base, J.hok, rv, q⟩
  | next =>
    obtain ⟨σ', H', J, q⟩ := hz
    exact ⟨V.non, H', J.os, J.bare, J.base, J.hok, rfl, q⟩
  | brk =>
    obtain ⟨_, _, _, q⟩ := hz
    exact False.elim q
  | cont =>
    obtain ⟨_, _, _, q⟩ := hz
    exact False.elim q
end
section
variable {X : Cx} {CX : CXT} {k : Nat} {f : Addr} {fd : FuncData} {ps : List Str} {sp : Sp} {dvs : List V} {ds : List Value} {E : XK} {x : Str} {p pos : Pos} {e : Expr} {es : List Expr} {t : TA}
theorem pe_callG (F : FnG X.prog X.w X.K X.mg X.base CX k f fd ps sp) (gd : X.A.guards = some []) (hr : Room k X.A) (hg : Gl X x) (hm : X.mg x = some (.ref f)) (hk : PySem.W.keepIn X.K (.ref f) = true) (hb : Binds X.K fd ps ds) (hd : Vals dvs ds) (hx : Passes CX X E)
    (ha : PA X (e :: es) t) (hdb : (x == ("__debug__" : Str)) = false := by decide) (he : starEach (e :: es) X.env = (false, eval e X.env) :: starEach es X.env := by rfl) (hpl : (backTo pos (starEach es X.env)).any (·.1) = false := by rfl) :
    PE X (.Call (.Name x p) (e :: es) [] pos) (tCall sp dvs E t) := by
  refine ⟨fun pins s σ H Q I hw => ?_⟩
  refine wpAny_Call_Name_kw (ld_glob I hg hm ?_ hdb)
  refine PySem.W.callWith_K (h₀ := X.base) I.ok.mod.kin hk (thn (ha.run pos pins s σ H _ I hw) fun us s1 ⟨vs, H1, I1, rl, q⟩ => ⟨I1.kIn, ?_⟩) he hpl
  have r2 : Vals (vs ++ dvs) (us ++ ds) := rl.append hd
  have hl : (us ++ ds).length = ps.length := by rw [← r2.length]; exact F.lenG _ _ _ _ q
  refine wpAny_call (codeAny_mono (F.runG X.A X.stack s1 H1 ⟨us, []⟩ (us ++ ds) (vs ++ dvs) Q E hr gd I1.env0 (hb s1 us I1.kIn hl) r2 q) fun rr s' hq => ?_)
  cases rr with
  | error e => exact hx pins σ H1 s1 e s' I1 hq
  | ok fl =>
    cases fl with
    | ret u => exact I1.after hq
    | next => exact False.elim hq
    | brk => exact False.elim hq
    | cont => exact False.elim hq
/-- repr of data -/
theorem call_reprD {n : Nat} (gd : X.A.guards = some []) (hr : Room n X.A) : CallR X (.builtin "repr") (fun xs H Q => ∃ x d, xs = [x] ∧ Dp X.K H x d ∧ d.showable = true ∧ d.hasDict = false ∧ d.depth ≤ 60 ∧ d.shown.length ≤ sizeLine ∧ Q (.str d.shown) H) := by
  intro pins s σ H xs us Q I r h
  obtain ⟨x, d, rfl, hd, hs, hn, hp, hz, q⟩ := h
  obtain ⟨u, rfl, rx⟩ := vals1 r
  obtain ⟨as, rd⟩ := Dp.reads I d x u hd rx
  have hu := hr.un
  cases hd with
  | non =>
    cases (show u = Value.none from rx)
    exact PySem.P.repr_of_none ⟨.str _, H, I.tok _, ⟨_, rfl⟩, q⟩
  | bl b =>
    cases (show u = Value.bool b from rx)
    exact PySem.P.repr_of_bool ⟨.str _, H, I.tok _, ⟨_, rfl⟩, q⟩
  | int i =>
    obtain ⟨t, rfl⟩ := rx
    have hi : i.natAbs.log2 < 1920 := by simpa [PyData.showable] using hs
    simp only [PyData.shown] at q
    exact PySem.P.repr_of_int hi ⟨.str _, H, I.tok _, ⟨_, rfl⟩, q⟩
  | str z =>
    obtain ⟨t, rfl⟩ := rx
    exact PySem.P.repr_of_str ⟨.str _, H, I.tok _, ⟨_, rfl⟩, q⟩ hz
  | lst hq ha =>
    cases (show u = Value.ref _ from rx)
    exact repr_of_reads' rd hs (fun e => by rw [hn] at e; cases e) gd (by omega) (fun _ _ e => e) (fun h' t tk hk => ⟨.str _, H, I.kept hk, ⟨t, rfl⟩, q⟩) hz
  | tup hq ha =>
    cases (show u = Value.ref _ from rx)
    exact repr_of_reads' rd hs (fun e => by rw [hn] at e; cases e) gd (by omega) (fun _ _ e => e) (fun h' t tk hk => ⟨.str _, H, I.kept hk, ⟨t, rfl⟩, q⟩) hz
end
/-! ### the law is called where none is under way -/
theorem law_G {P : Program} {w : World} {K : PySem.W.Frag} {mg mb : Str → Option Value} {CX : CXT} {k : Nat} {fa a : Addr} {fd : FuncData} {x : Str} {sp : Sp} {s1 : Shared} {vs : List Value} {ns : List Int}
    (kin : K.In s1.heap) (hns : s1.heap.Ns mainGlobals mg) (hb : s1.heap.Ns builtinsNs mb) (hbb : ∀ y : Str, y ≠ "__name__" → mb y = bootBuiltins y) (hlim : s1.heap.NoLimit) (hgen : s1.gens = #[])
    (ha : s1.heap.get? a = some { cls := .type "list", data := .seq vs.toArray }) (hi : IntsAre vs ns) (hl : ns.length ≤ sizeLine) (hr : Room k callerA)
    (F : ∀ base : Heap, K.In base → base.Ns mainGlobals mg → FnG P w K mg base CX k fa fd [x] sp) (hbind : ∀ (s : Shared) (u : Value), BindsTo s fd ⟨[u], []⟩ [(x, u)])
    (hsp : ∀ H : Hp, Only H → SqL K H a (ns.map V.int) → sp [.ref a] H (fun v _ => v = .bl true) fun _ _ _ => False)
    (hCX : ∀ H e s', CX [] H s1 (fun _ _ _ => False) e s' → False) :
    codeAny (model P w) callerA (.call (.ref fa) ⟨[.ref a], []⟩) (fun r s' => r = .ok (.ret (.bool true)) ∧ OldK s1.heap s'.heap ∧ s'.os = s1.os ∧ AllBare s'.gens) s1 := by
  have rv := vals_ints hi
  have lenV := hi.length
  have core : ∀ H : Hp, Only H → SqL K H a (ns.map V.int) → HOk P w H s1.heap → (∀ b, H b ≠ none → b = a) → (H a ≠ none → K.lookup a = none) →
      codeAny (model P w) callerA (.call (.ref fa) ⟨[.ref a], []⟩) (fun r s' => r = .ok (.ret (.bool true)) ∧ OldK s1.heap s'.heap ∧ s'.os = s1.os ∧ AllBare s'.gens) s1 := by
    intro H only seq hok one free
    have inB : ∀ {b : Addr} {o : Obj}, s1.heap.get? b = some o → H b = none → (hidT s1.heap H).get? b = some o := fun q n => hidT_get q n
    have apart : ∀ {b : Addr} {o : Obj} {es : Array DictEntry} {ep : Nat}, s1.heap.get? b = some o → o.data = .dict es ep → H b = none := fun {b o es ep} q dd => by
      cases z : H b with
      | none => rfl
      | some u =>
        have eb : b = a := one b (by rw [z]; simp)
        subst eb
        rw [ha] at q; cases q
        have d' : Data.seq vs.toArray _ = Data.dict es ep := dd
        cases d'
    have nsB : ∀ {b : Addr} {m : Str → Option Value}, s1.heap.Ns b m → (hidT s1.heap H).Ns b m := fun {b m} ⟨o, es, ep, q, dd, r⟩ => ⟨o, es, ep, inB q (apart q dd), dd, r⟩
    have kinB : K.In (hidT s1.heap H) := fun b o q => inB (kin b o q) (by
      cases z : H b with
      | none => rfl
      | some u =>
        have eb : b = a := one b (by rw [z]; simp)
        subst eb
        rw [free (by rw [z]; simp)] at q; cases q)
    have md : Mod K mg (hidT s1.heap H) := ⟨kinB, nsB hns, ⟨mb, nsB hb, hbb⟩, let ⟨mc, h1, h2⟩ := hlim; ⟨mc, nsB h1, h2⟩⟩
    have en : Env0 P w K mg (hidT s1.heap H) callerA [] s1 H := ⟨rfl, md, fun b o q => of_hidT q, Nat.le_of_eq (hidT_size _ _), trivial, fun b hb => absurd (show b ∈ ([] : List Addr) from hb) (by simp), hok, .of_eq hgen⟩
    refine codeAny_mono ((F _ kinB (nsB hns)).runG callerA [] s1 H ⟨[.ref a], []⟩ [.ref a] [.ref a] _ _ hr rfl en (hbind s1 (.ref a)) (.cons rfl .nil) (hsp H only seq)) fun r s' h => ?_
    cases r with
    | error e => exact (hCX H e s' h).elim
    | ok fl =>
      cases fl with
      | next => exact False.elim h
      | brk => exact False.elim h
      | cont => exact False.elim h
      | ret u =>
        obtain ⟨v, H', os, bare, un, hok', r', q⟩ := h
        cases (show v = .bl true from q)
        cases (show u = Value.bool true from r')
        refine ⟨rfl, OldK.of_keep fun b o eo => ?_, os, bare⟩
        cases z : H b with
        | none => exact un.keep b o eo z (fun y => absurd (show b ∈ ([] : List Addr) from y) (by simp)) (by simp)
        | some u =>
          rcases only b with y | ⟨ob, xs, y⟩
          · rw [z] at y; cases y
          · obtain ⟨e1, _⟩ := hok b _ y
            obtain ⟨e2, _⟩ := hok' b _ (un.frzs b ob _ y)
            rw [eo] at e1; cases e1
            exact e2
  cases hk : K.lookup a with
  | some o =>
    have eo := kin a o hk
    rw [ha] at eo
    cases eo
    exact core (fun _ => none) (fun _ => .inl rfl) (.inr ⟨_, vs.toArray, _, hk, rfl, rfl, rfl, by rw [List.size_toArray, lenV]; exact hl, by simpa using rv⟩) (fun b u z => nomatch (show (none : Option HO) = some u from z)) (fun b z => absurd rfl z) fun z => absurd rfl z
  | none =>
    refine core (fun b => if b = a then some (.frz { cls := .type "list", data := .seq vs.toArray } (.lst (ns.map V.int))) else none) (fun b => ?_) (.inl (.inr ⟨{ cls := .type "list", data := .seq vs.toArray }, if_pos rfl⟩)) (fun b u z => ?_) (fun b z => ?_) fun _ => hk
    · by_cases eb : b = a
      · exact .inr ⟨_, _, if_pos eb⟩
      · exact .inl (if_neg eb)
    · by_cases eb : b = a
      · have y := (if_pos eb).symm.trans z
        cases y
        subst eb
        exact ⟨ha, by rw [List.length_map]; exact hl, vs, _, rv, ha⟩
      · have y := (if_neg eb).symm.trans z
        cases y
    · by_cases eb : b = a
      · exact eb
      · exact absurd (if_neg eb) z
theorem walk_G {l : PySem.W.OpenLaw} {n k : Nat} {q : Program} {loose : List Str} {XP : (Str → Option Value) → Heap → Prop} {YP : World → Heap → Prop} {d : DefRec} {CX : CXT} {x : Str}
    (hn : l.most = some n) (hn2 : n ≤ sizeLine) (hdf : d.params.defaults = []) (hr : Room k callerA)
    (F : ∀ (w : World) (mg : Str → Option Value) (fa : Addr) (h : Heap), YP w h → h.Ns mainGlobals mg → mg d.name = some (.ref fa) →
      ∃ (K : PySem.W.Frag) (fd : FuncData) (sp : Sp), K.In h ∧ (∀ (s : Shared) (u : Value), BindsTo s fd ⟨[u], []⟩ [(x, u)]) ∧
        (∀ (H : Hp) (a : Addr) (ns : List Int), ns.length ≤ n → Only H → SqL K H a (ns.map V.int) → sp [.ref a] H (fun v _ => v = .bl true) fun _ _ _ => False) ∧
        ∀ base : Heap, K.In base → base.Ns mainGlobals mg → FnG l.prog w K mg base CX k fa fd [x] sp)
    (hCX : ∀ (H : Hp) (s : Shared) (e : Value) (s' : Shared), CX [] H s (fun _ _ _ => False) e s' → False) :
    PySem.W.WalkO q loose XP YP l.row.toRowW d [] (fun f vs => PySem.call f vs) := by
  refine Att.attach_call hn hdf fun w s₀ s1 mg mb fa o pm cd doc a vs ns G Y ho hd hcd hmg hobj hints hlen hgen => ?_
  obtain ⟨K, fd, sp, KX, hb, hsp, hF⟩ := F w mg fa _ Y G.T.g hmg
  exact law_G KX G.T.g G.T.b G.T.builtins G.T.nolimit hgen hobj hints (Nat.le_trans hlen hn2) hr hF hb (fun H hO hS => hsp H a ns hlen hO hS) fun H e s' => hCX H s1 e s'
end My
namespace My
open PySem PySem.Spec PyProof.Rows L2
/-! ### tuples: sums and slices, whatever their lengths -/
section
variable {X : Cx} {K : PySem.W.Frag}
end
theorem Mks.cut {C : Addr} {H : Hp} {k : Nat} {ps : List V} {zs : List Q2} (m : Mks C H k ps zs) (n : Nat) : Mks C H k (ps.take n ++ ps.drop (n + 1)) (zs.take n ++ zs.drop (n + 1)) := by
  have l := m.len
  refine ⟨by simp only [List.length_append, List.length_take, List.length_drop]; omega, fun i v z h1 h2 => ?_⟩
  by_cases hi : i < n ∧ i < ps.length
  · rw [List.getElem?_append_left (by rw [List.length_take]; omega), List.getElem?_take_of_lt hi.1] at h1
    rw [List.getElem?_append_left (by rw [List.length_take]; omega), List.getElem?_take_of_lt hi.1] at h2
    exact m.all i v z h1 h2
  · rw [List.getElem?_append_right (by rw [List.length_take]; omega), List.getElem?_drop] at h1
    rw [List.getElem?_append_right (by rw [List.length_take]; omega), List.getElem?_drop] at h2
    have e : (ps.take n).length = (zs.take n).length := by rw [List.length_take, List.length_take, l]
    rw [e] at h1
    exact m.all _ v z h1 h2
/-! ### rows, as the laws draw them -/
structure RowsL (H : Hp) (p : Addr) (part : Int) (ts : List Int) : Prop where
  ob : ∃ T, H p = some (.tup [.int part, .ref T]) ∧ H T = some (.tup (ts.map V.int))
  p0 : 0 < part
  p1 : part ≤ 10007
  len0 : 0 < ts.length
  len1 : ts.length ≤ 24
  bnd : ∀ t ∈ ts, -2000000 ≤ t ∧ t ≤ 2000000
theorem RowsL.same {H H' : Hp} {p : Addr} {part : Int} {ts : List Int} (a : RowsL H p part ts) (s : Same H H') : RowsL H' p part ts := by
  obtain ⟨⟨T, h1, h2⟩, a1, a2, a3, a4, a5⟩ := a
  exact ⟨⟨T, s _ _ h1, s _ _ h2⟩, a1, a2, a3, a4, a5⟩
/-! ### tuples of whole numbers as data -/
def intsD (zs : List Int) : PyData := .tuple (zs.map PyData.int)
theorem dpI {K : PySem.W.Frag} {H : Hp} : ∀ zs : List Int, DpAll K H (zs.map V.int) (zs.map PyData.int)
  | [] => .nil
  | z :: zs => .cons (.int z) (dpI zs)
theorem dpT {K : PySem.W.Frag} {H : Hp} {p : Addr} {zs : List Int} (h : H p = some (.tup (zs.map V.int))) : Dp K H (.ref p) (intsD zs) := .tup (SqT.of h) (dpI zs)
end My
namespace My
open PySem PySem.Spec PyProof.Rows L2
/-! ### a list or a tuple, walked -/
section
variable {X : Cx} {tg : Expr}
end
/-- a def that calls itself, ahead of its own promise -/
theorem fn_never {P : Program} {w : World} {K : PySem.W.Frag} {mg : Str → Option Value} {base : Heap} {CX : CXT} {k : Nat} {f : Addr} {fd : FuncData} {ps : List Str} : FnOk P w K mg base CX k f fd ps (fun _ _ _ _ => False) :=
  ⟨fun _ _ _ _ h => h.elim, fun _ _ _ _ _ _ _ _ _ _ _ _ _ h => h.elim⟩
/-! ### fractions as pairs of whole numbers -/
def TQ (H : Hp) (v : V) (k : Nat) (z : Q2) : Prop := ∃ p, v = .ref p ∧ H p = some (.tup [.int z.1, .int z.2]) ∧ 0 < z.2 ∧ Sz k z.1 ∧ Sz k z.2
section
variable {H H' : Hp} {v : V} {k j : Nat} {z : Q2}
theorem TQ.same (a : TQ H v k z) (s : Same H H') : TQ H' v k z := by
  obtain ⟨p, h1, h2, h3⟩ := a
  exact ⟨p, h1, s _ _ h2, h3⟩
theorem TQ.nl (a : TQ H v k z) (s : Nl H H') : TQ H' v k z := by
  obtain ⟨p, h1, h2, h3⟩ := a
  exact ⟨p, h1, s _ _ h2 rfl, h3⟩
theorem TQ.kp {h : Addr} {n : Nat} (a : TQ H v k z) (hh : HandAt H h n) (s : Kp h H H') : TQ H' v k z := by
  obtain ⟨p, h1, h2, h3⟩ := a
  exact ⟨p, h1, s.get hh h2 rfl, h3⟩
theorem TQ.mono (a : TQ H v k z) (l : k ≤ j) : TQ H v j z := by
  obtain ⟨p, h1, h2, h3, h4, h5⟩ := a
  exact ⟨p, h1, h2, h3, h4.mono l, h5.mono l⟩
theorem TQ.pos (a : TQ H v k z) : 0 < z.2 := by
  obtain ⟨p, h1, h2, h3, h4, h5⟩ := a
  exact h3
theorem TQ.mk {p : Addr} {a b : Int} (h : H p = some (.tup [.int a, .int b])) (hb : 0 < b) (s1 : Sz k a) (s2 : Sz k b) : TQ H (.ref p) k (a, b) := ⟨p, rfl, h, hb, s1, s2⟩
end
structure Tqs (H : Hp) (k : Nat) (vs : List V) (zs : List Q2) : Prop where
  len : vs.length = zs.length
  all : ∀ (i : Nat) (v : V) (z : Q2), vs[i]? = some v → zs[i]? = some z → TQ H v k z
section
variable {H H' : Hp} {k j : Nat} {vs : List V} {zs : List Q2}
theorem Tqs.same (m : Tqs H k vs zs) (s : Same H H') : Tqs H' k vs zs := ⟨m.len, fun i v z h1 h2 => (m.all i v z h1 h2).same s⟩
theorem Tqs.nl (m : Tqs H k vs zs) (s : Nl H H') : Tqs H' k vs zs := ⟨m.len, fun i v z h1 h2 => (m.all i v z h1 h2).nl s⟩
theorem Tqs.kp {h : Addr} {n : Nat} (m : Tqs H k vs zs) (hh : HandAt H h n) (s : Kp h H H') : Tqs H' k vs zs := ⟨m.len, fun i v z h1 h2 => (m.all i v z h1 h2).kp hh s⟩
theorem Tqs.mono (m : Tqs H k vs zs) (l : k ≤ j) : Tqs H j vs zs := ⟨m.len, fun i v z h1 h2 => (m.all i v z h1 h2).mono l⟩
theorem Tqs.at (m : Tqs H k vs zs) {i : Nat} {z : Q2} (h : zs[i]? = some z) : ∃ v, vs[i]? = some v ∧ TQ H v k z := by
  have hi : i < vs.length := by rw [m.len]; exact (List.getElem?_eq_some_iff.mp h).1
  exact ⟨_, List.getElem?_eq_getElem hi, m.all i _ z (List.getElem?_eq_getElem hi) h⟩
theorem Tqs.of (m : Tqs H k vs zs) {i : Nat} {v : V} (h : vs[i]? = some v) : ∃ z, zs[i]? = some z ∧ TQ H v k z := by
  have hi : i < zs.length := by rw [← m.len]; exact (List.getElem?_eq_some_iff.mp h).1
  exact ⟨_, List.getElem?_eq_getElem hi, m.all i v _ h (List.getElem?_eq_getElem hi)⟩
theorem Tqs.snoc (m : Tqs H k vs zs) {v : V} {z : Q2} (t : TQ H v k z) : Tqs H k (vs ++ [v]) (zs ++ [z]) := by
  refine ⟨by rw [List.length_append, List.length_append, m.len]; rfl, fun i w y h1 h2 => ?_⟩
  by_cases hi : i < vs.length
  · rw [List.getElem?_append_left hi] at h1
    rw [List.getElem?_append_left (by rw [← m.len]; exact hi)] at h2
    exact m.all i w y h1 h2
  · have l1 := (List.getElem?_eq_some_iff.mp h1).1
    rw [List.length_append, List.length_singleton] at l1
    have e : i = vs.length := by omega
    rw [e, List.getElem?_append_right (Nat.le_refl _), Nat.sub_self] at h1
    rw [e, m.len, List.getElem?_append_right (Nat.le_refl _), Nat.sub_self] at h2
    cases h1; cases h2
    exact t
theorem Tqs.one {v : V} {z : Q2} (t : TQ H v k z) : Tqs H k [v] [z] := (⟨rfl, fun i w y h1 => by simp at h1⟩ : Tqs H k [] []).snoc t
theorem Tqs.cons (m : Tqs H k vs zs) {v : V} {z : Q2} (t : TQ H v k z) : Tqs H k (v :: vs) (z :: zs) := by
  refine ⟨by rw [List.length_cons, List.length_cons, m.len], fun i w y h1 h2 => ?_⟩
  cases i with
  | zero => cases h1; cases h2; exact t
  | succ i => exact m.all i w y (by simpa using h1) (by simpa using h2)
theorem Tqs.nil : Tqs H k [] [] := ⟨rfl, fun i w y h1 => by simp at h1⟩
theorem Mks.mono {C : Addr} {ps : List V} (m : Mks C H k ps zs) (l : k ≤ j) : Mks C H j ps zs := ⟨m.len, fun i v z h1 h2 => by
  obtain ⟨p, e, q⟩ := m.all i v z h1 h2
  exact ⟨p, e, q.mono l⟩⟩
theorem QO.mono {C : Addr} {v : V} (l : k ≤ j) : ∀ {e : Option Q2}, QO C H k v e → QO C H j v e
  | none, h => h
  | some _, ⟨p, h1, h2⟩ => ⟨p, h1, h2.mono l⟩
end
theorem leq_not {a b : Q2} : leq a b = !ltq b a := by
  unfold leq ltq eqq
  rw [← Bool.decide_or, ← decide_not]
  exact decide_eq_decide.mpr ⟨fun h => by omega, fun h => by omega⟩
theorem span_leq (a b : Q2) : spanB (some a) (some b) = (ltq a b || eqq a b) := by
  show (!ltq b a) = leq a b
  rw [leq_not]
/-! ### what the defs of pairs promise -/
def sp_span (CM : Addr) : Sp := fun vs H Q _ => ∃ (l h : V) (k : Nat) (lo hi : Option Q2), vs = [l, h] ∧ QO CM H k l lo ∧ QO CM H k h hi ∧ k ≤ 9000 ∧ Q (.bl (spanB lo hi)) H
theorem Tqs.posL {H : Hp} {k : Nat} {vs : List V} {zs : List Q2} (m : Tqs H k vs zs) : ∀ z ∈ zs, 0 < z.2 := fun z hz => by
  obtain ⟨i, hi⟩ := List.mem_iff_getElem?.mp hz
  obtain ⟨v, _, t⟩ := m.at hi
  exact t.pos
/-- None, or a pair -/
def TOq (H : Hp) (k : Nat) (v : V) : Option Q2 → Prop
  | none => v = .non
  | some z => TQ H v k z
theorem TOq.same {H H' : Hp} {k : Nat} {v : V} : ∀ {e : Option Q2}, TOq H k v e → Same H H' → TOq H' k v e
  | none, h, _ => h
  | some _, h, s => TQ.same h s
theorem TOq.kp {H H' : Hp} {k n : Nat} {h : Addr} {v : V} : ∀ {e : Option Q2}, TOq H k v e → HandAt H h n → Kp h H H' → TOq H' k v e
  | none, h, _, _ => h
  | some _, h, hh, s => TQ.kp h hh s
theorem QO.nl {C : Addr} {H H' : Hp} {k : Nat} {v : V} (s : Nl H H') : ∀ {e : Option Q2}, QO C H k v e → QO C H' k v e
  | none, h => h
  | some _, ⟨p, h1, h2⟩ => ⟨p, h1, h2.nl s⟩
theorem sqt_kp {K : PySem.W.Frag} {H H' : Hp} {h a : Addr} {n : Nat} {xs : List V} (s : SqT K H a xs) (hh : HandAt H h n) (k : Kp h H H') : SqT K H' a xs := by
  rcases s with (s | ⟨o, s⟩) | s
  · exact .inl (.inl (k.get hh s rfl))
  · exact .inl (.inr ⟨o, k.get hh s rfl⟩)
  · exact .inr s
theorem LadAt.kp {K : PySem.W.Frag} {CM CL p h : Addr} {H H' : Hp} {k n : Nat} {zs : List Q2} {r : Str} {lo hi : Option Q2} (a : LadAt K CM CL H p k zs r lo hi) (hh : HandAt H h n) (s : Kp h H H') : LadAt K CM CL H' p k zs r lo hi := by
  obtain ⟨⟨dx, T, ps, l, u, h1, h2, h3, h4, h5⟩, a1, a2, a3, a4, a5⟩ := a
  exact ⟨⟨dx, T, ps, l, u, s.get hh h1 rfl, sqt_kp h2 hh s, h3.kp hh s, h4.kp hh s, h5.kp hh s⟩, a1, a2, a3, a4, a5⟩
end My
namespace My
open PySem PySem.Spec PyProof.Rows L2
/-! ### comprehensions that draw -/
theorem Kp.nlh {h : Addr} {H H' : Hp} {n : Nat} (k : Kp h H H') (hh : HandAt H h n) : Nl H H' := fun c o e no => k c o e (hh.apart e no)
/-! ### things that are the same, one within another -/
def AtomV (x : V) : Prop := (∃ z : Int, x = .int z) ∨ (∃ s : Str, x = .str s) ∨ x = .non ∨ ∃ b : Bool, x = .bl b
def SameV (K : PySem.W.Frag) (H : Hp) : Nat → V → V → Prop
  | 0, x, y => x = y ∧ AtomV x
  | n + 1, x, y => (x = y ∧ AtomV x) ∨ ∃ p q xs ys, x = .ref p ∧ y = .ref q ∧ SqT K H p xs ∧ SqT K H q ys ∧ xs.length = ys.length ∧ xs.length ≤ 900 ∧ ∀ (i : Nat) (a b : V), xs[i]? = some a → ys[i]? = some b → SameV K H n a b
theorem SameV.same {K : PySem.W.Frag} {H H' : Hp} (s : Same H H') : ∀ {n : Nat} {x y : V}, SameV K H n x y → SameV K H' n x y
  | 0, _, _, h => h
  | n + 1, _, _, .inl h => .inl h
  | n + 1, _, _, .inr ⟨p, q, xs, ys, h1, h2, h3, h4, h5, h6, h7⟩ => .inr ⟨p, q, xs, ys, h1, h2, s.sqt h3, s.sqt h4, h5, h6, fun i a b ha hb => SameV.same s (h7 i a b ha hb)⟩
theorem SameV.atom {K : PySem.W.Frag} {H : Hp} {x : V} (a : AtomV x) : ∀ n, SameV K H n x x
  | 0 => ⟨rfl, a⟩
  | _ + 1 => .inl ⟨rfl, a⟩
theorem SameV.ints {K : PySem.W.Frag} {H : Hp} {p q : Addr} {ss : List Int} (n : Nat) (hp : SqT K H p (ss.map V.int)) (hq : SqT K H q (ss.map V.int)) (l : ss.length ≤ 900) : SameV K H (n + 1) (.ref p) (.ref q) :=
  .inr ⟨p, q, _, _, rfl, rfl, hp, hq, rfl, by rw [List.length_map]; exact l, fun i a b ha hb => by
    rw [ha] at hb
    cases hb
    obtain ⟨s, _, rfl⟩ := List.mem_map.mp (List.mem_of_getElem? ha)
    exact SameV.atom (.inl ⟨s, rfl⟩) n⟩
/-! ### a Grid -/
def gf (a b c : V) : List (Str × V) := [("lengths", a), ("breadths", b), ("grade", c)]
section
variable (a b c : V)
end
structure GrdAt (K : PySem.W.Frag) (CM CL CG : Addr) (H : Hp) (p : Addr) (k : Nat) (L1 L2 : Addr) (g : Q2) : Prop where
  ob : ∃ dx q, H p = some (.ins CG dx (gf (.ref L1) (.ref L2) (.ref q))) ∧ QAt CM H q k g
theorem GrdAt.same {K : PySem.W.Frag} {CM CL CG : Addr} {H H' : Hp} {p : Addr} {k : Nat} {L1 L2 : Addr} {g : Q2} (a : GrdAt K CM CL CG H p k L1 L2 g) (s : Same H H') : GrdAt K CM CL CG H' p k L1 L2 g := by
  obtain ⟨dx, q, h1, h2⟩ := a.ob
  exact ⟨dx, q, s _ _ h1, h2.same s⟩
theorem GrdAt.kp {K : PySem.W.Frag} {CM CL CG : Addr} {H H' : Hp} {p h : Addr} {k n : Nat} {L1 L2 : Addr} {g : Q2} (a : GrdAt K CM CL CG H p k L1 L2 g) (hh : HandAt H h n) (s : Kp h H H') : GrdAt K CM CL CG H' p k L1 L2 g := by
  obtain ⟨dx, q, h1, h2⟩ := a.ob
  exact ⟨dx, q, s.get hh h1 rfl, h2.kp hh s⟩
/-! ### the laws' sides of a grid -/
structure SidesAt (H : Hp) (h p : Addr) (k : Nat) (zs ys : List Q2) (g : Q2) : Prop where
  ob : ∃ l1 l2 v us ws, H p = some (.lst [.ref l1, .ref l2, v]) ∧ H l1 = some (.lst us) ∧ H l2 = some (.lst ws) ∧ Tqs H k us zs ∧ Tqs H k ws ys ∧ TQ H v 20 g ∧ p ≠ h ∧ l1 ≠ h ∧ l2 ≠ h
  l0 : 0 < zs.length
  l1 : zs.length ≤ 8
  m0 : 0 < ys.length
  m1 : ys.length ≤ 8
theorem SidesAt.same {H H' : Hp} {h p : Addr} {k : Nat} {zs ys : List Q2} {g : Q2} (a : SidesAt H h p k zs ys g) (s : Same H H') : SidesAt H' h p k zs ys g := by
  obtain ⟨⟨l1, l2, v, us, ws, a1, a2, a3, a4, a5, a6, a7⟩, b1, b2, b3, b4⟩ := a
  exact ⟨⟨l1, l2, v, us, ws, s _ _ a1, s _ _ a2, s _ _ a3, a4.same s, a5.same s, a6.same s, a7⟩, b1, b2, b3, b4⟩
theorem SidesAt.kp {H H' : Hp} {h p : Addr} {k n : Nat} {zs ys : List Q2} {g : Q2} (a : SidesAt H h p k zs ys g) (hh : HandAt H h n) (s : Kp h H H') : SidesAt H' h p k zs ys g := by
  obtain ⟨⟨l1, l2, v, us, ws, a1, a2, a3, a4, a5, a6, a7, a8, a9⟩, b1, b2, b3, b4⟩ := a
  exact ⟨⟨l1, l2, v, us, ws, s _ _ a1 a7, s _ _ a2 a8, s _ _ a3 a9, a4.kp hh s, a5.kp hh s, a6.kp hh s, a7, a8, a9⟩, b1, b2, b3, b4⟩
end My
namespace My
open PySem PySem.Spec PyProof.Rows L2
/-! ### sizes by fractions -/
/-- f holds of the first ones alone -/
def DownQ (f : Q2 → Bool) (zs : List Q2) : Prop := ∀ (i j : Nat) (a b : Q2), i < j → zs[i]? = some a → zs[j]? = some b → f b = true → f a = true
theorem DownQ.tail {f : Q2 → Bool} {x : Q2} {zs : List Q2} (h : DownQ f (x :: zs)) : DownQ f zs := fun i j a b hij ha hb hf => h (i + 1) (j + 1) a b (by omega) (by simpa using ha) (by simpa using hb) hf
section
variable {zs : List Q2} {r : Str} {lo hi : Option Q2} {x : Q2}
end
end My
namespace My
open PySem PySem.Spec PyProof.Rows L2
/-! ### what stood ahead, wanted at a later heap: the step first -/
section
variable {K : PySem.W.Frag} {C CM CL CG p q h a L1 L2 : Addr} {H H' H1 : Hp} {v : V} {k j n : Nat} {z : Q2} {vs : List V} {zs ys : List Q2} {o : HO} {e : Option Q2} {r : Str} {lo hi : Option Q2}
theorem TQ.s (s : Same H H') (t : TQ H v k z) : TQ H' v k z := t.same s
theorem TQ.nq (s : Nl H H') (t : TQ H v k z) : TQ H' v k z := t.nl s
theorem Tqs.s (s : Same H H') (t : Tqs H k vs zs) : Tqs H' k vs zs := t.same s
theorem QAt.s (s : Same H H') (t : QAt C H p k z) : QAt C H' p k z := t.same s
theorem Mks.s (s : Same H H') (t : Mks C H k vs zs) : Mks C H' k vs zs := t.same s
theorem QO.s (s : Same H H') (t : QO C H k v e) : QO C H' k v e := t.same s
theorem TOq.s (s : Same H H') (t : TOq H k v e) : TOq H' k v e := t.same s
theorem TOq.mono (l : k ≤ j) : ∀ {e : Option Q2}, TOq H k v e → TOq H j v e
  | none, h => h
  | some _, h => TQ.mono h l
theorem LadAt.s (s : Same H H') (t : LadAt K CM CL H p k zs r lo hi) : LadAt K CM CL H' p k zs r lo hi := t.same s
theorem LadAt.mono (t : LadAt K CM CL H p k zs r lo hi) (l : k ≤ j) : LadAt K CM CL H p j zs r lo hi := by
  obtain ⟨⟨dx, T, ps, u, w, h1, h2, h3, h4, h5⟩, a1, a2, a3, a4, a5⟩ := t
  exact ⟨⟨dx, T, ps, u, w, h1, h2, h3.mono l, h4.mono l, h5.mono l⟩, a1, a2, a3, a4, a5⟩
theorem GrdAt.s (s : Same H H') (t : GrdAt K CM CL CG H p k L1 L2 z) : GrdAt K CM CL CG H' p k L1 L2 z := t.same s
theorem SidesAt.s (s : Same H H') (t : SidesAt H h p k zs ys z) : SidesAt H' h p k zs ys z := t.same s
theorem HandAt.s (s : Same H H') (t : HandAt H h n) : HandAt H' h n := t.same s
theorem TQ.u {u : HO} {b : Addr} (np : H b = none) (t : TQ H v k z) : TQ (upd H b u) v k z := t.same (same1 np)
theorem Tqs.u {u : HO} {b : Addr} (np : H b = none) (t : Tqs H k vs zs) : Tqs (upd H b u) k vs zs := t.same (same1 np)
theorem QAt.u {u : HO} {b : Addr} (np : H b = none) (t : QAt C H p k z) : QAt C (upd H b u) p k z := t.same (same1 np)
theorem Mks.u {u : HO} {b : Addr} (np : H b = none) (t : Mks C H k vs zs) : Mks C (upd H b u) k vs zs := t.same (same1 np)
theorem QO.u {u : HO} {b : Addr} (np : H b = none) (t : QO C H k v e) : QO C (upd H b u) k v e := t.same (same1 np)
theorem TOq.u {u : HO} {b : Addr} (np : H b = none) (t : TOq H k v e) : TOq (upd H b u) k v e := t.same (same1 np)
theorem LadAt.u {u : HO} {b : Addr} (np : H b = none) (t : LadAt K CM CL H p k zs r lo hi) : LadAt K CM CL (upd H b u) p k zs r lo hi := t.same (same1 np)
theorem GrdAt.u {u : HO} {b : Addr} (np : H b = none) (t : GrdAt K CM CL CG H p k L1 L2 z) : GrdAt K CM CL CG (upd H b u) p k L1 L2 z := t.same (same1 np)
theorem SidesAt.u {u : HO} {b : Addr} (np : H b = none) (t : SidesAt H h p k zs ys z) : SidesAt (upd H b u) h p k zs ys z := t.same (same1 np)
theorem HandAt.u {u : HO} {b : Addr} (np : H b = none) (t : HandAt H h n) : HandAt (upd H b u) h n := t.same (same1 np)
end
/-- each of these values is a fraction -/
def AllTQ (H : Hp) (k : Nat) (vs : List V) : Prop := ∀ x ∈ vs, ∃ z, TQ H x k z
theorem AllTQ.nil {H : Hp} {k : Nat} : AllTQ H k [] := fun x hx => by simp at hx
theorem AllTQ.cons {H : Hp} {k : Nat} {v : V} {z : Q2} {vs : List V} (t : TQ H v k z) (m : AllTQ H k vs) : AllTQ H k (v :: vs) := fun x hx => by
  rcases List.mem_cons.mp hx with e | e
  · rw [e]; exact ⟨z, t⟩
  · exact m x e
/-! ### a rule, a least and a most, as the laws draw them in fractions -/
structure ChartAt (H : Hp) (T : Addr) (k : Nat) (r : Str) (lo hi : Option Q2) : Prop where
  ob : ∃ u w, H T = some (.tup [.str r, u, w]) ∧ TOq H k u lo ∧ TOq H k w hi
  rule : IsRule r
  span : spanB lo hi = true
section
variable {H H' : Hp} {T h : Addr} {k n : Nat} {r : Str} {lo hi : Option Q2}
theorem ChartAt.same (c : ChartAt H T k r lo hi) (s : Same H H') : ChartAt H' T k r lo hi := by
  obtain ⟨⟨u, w, h1, h2, h3⟩, h4, h5⟩ := c
  exact ⟨⟨u, w, s _ _ h1, h2.same s, h3.same s⟩, h4, h5⟩
theorem ChartAt.kp (c : ChartAt H T k r lo hi) (hh : HandAt H h n) (s : Kp h H H') : ChartAt H' T k r lo hi := by
  obtain ⟨⟨u, w, h1, h2, h3⟩, h4, h5⟩ := c
  exact ⟨⟨u, w, s.get hh h1 rfl, h2.kp hh s, h3.kp hh s⟩, h4, h5⟩
theorem ChartAt.u {u : HO} {b : Addr} (np : H b = none) (c : ChartAt H T k r lo hi) : ChartAt (upd H b u) T k r lo hi := c.same (same1 np)
theorem ChartAt.s (s : Same H H') (c : ChartAt H T k r lo hi) : ChartAt H' T k r lo hi := c.same s
end
/-- a pair of sizes, or None -/
def OwnV (H : Hp) (v : V) : Option (Nat × Nat) → Prop
  | none => v = .non
  | some x => ∃ T, v = .ref T ∧ H T = some (.tup [.int (x.1 : Int), .int (x.2 : Int)])
theorem OwnV.s {H H' : Hp} {v : V} (s : Same H H') : ∀ {o : Option (Nat × Nat)}, OwnV H v o → OwnV H' v o
  | none, h => h
  | some _, ⟨T, h1, h2⟩ => ⟨T, h1, s _ _ h2⟩
theorem OwnV.alike {K : PySem.W.Frag} {H : Hp} {v w : V} : ∀ {o : Option (Nat × Nat)}, OwnV H v o → OwnV H w o → SameV K H 1 v w
  | none, h, g => by
    cases h; cases g
    exact SameV.atom (.inr (.inr (.inl rfl))) 1
  | some x, ⟨T, h1, h2⟩, ⟨T', g1, g2⟩ => by
    subst h1 g1
    exact SameV.ints (ss := [(x.1 : Int), (x.2 : Int)]) 0 (SqT.of h2) (SqT.of g2) (Nat.le_of_ble_eq_true rfl)
theorem half_re {a b z : Q2} (r : Re z (qadd a b)) : Re (z.1, 2 * z.2) (qhalf a b) := by
  obtain ⟨h1, h2, h3⟩ := r
  rw [qhalf_eq]
  refine ⟨by show 0 < 2 * z.2; omega, ?_, ?_⟩
  · have h2 : 0 < a.2 * b.2 := h2
    show 0 < a.2 * b.2 * 2
    omega
  · have h3 : z.1 * (a.2 * b.2) = (a.1 * b.2 + b.1 * a.2) * z.2 := h3
    show z.1 * (a.2 * b.2 * 2) = (a.1 * b.2 + b.1 * a.2) * (2 * z.2)
    grind
/-! ### the numbers of the marks, first and last -/
end My
namespace My
open PySem PySem.Spec PyProof.Rows L2
/-! ### cuts of three stretches -/
theorem Alike.of {x y : Q2} {i j : Bool} (h : Re x y) (e : i = j) : Alike (some x, i) (some y, j) := ⟨h, fun _ => e⟩
theorem Alike.refl {x : Option Q2 × Bool} (h : PosO x.1) : Alike x x := ⟨ReO.refl h, fun _ => rfl⟩
theorem Alike.symm {x y : Option Q2 × Bool} (h : Alike x y) : Alike y x := ⟨h.1.symm, fun e => (h.2 (by rw [h.1.isS]; exact e)).symm⟩

/-- a Measure whose numbers are not too great -/
def PtM (CM : Addr) (H : Hp) (y : V) : Prop := ∃ (q : Addr) (x : Q2), y = .ref q ∧ MAt CM H q x.1 x.2 ∧ 0 < x.2 ∧ Sz 20000 x.1 ∧ Sz 20000 x.2
theorem PtM.nl {CM : Addr} {H H' : Hp} {y : V} (h : PtM CM H y) (s : Nl H H') : PtM CM H' y := by
  obtain ⟨q, x, e, ⟨d, m⟩, r⟩ := h
  exact ⟨q, x, e, ⟨d, s _ _ m rfl⟩, r⟩
theorem PtM.same {CM : Addr} {H H' : Hp} {y : V} (h : PtM CM H y) (s : Same H H') : PtM CM H' y := h.nl (Nl.of s)
end My
namespace My
open PySem PySem.Spec PyProof.Rows L2
/-! ### which measures a size's stretch holds -/
/-- whether there is such a stretch -/
def sizB (zs : List Q2) (r : Str) (lo hi : Option Q2) (n : Nat) : Bool := someB (sizE zs r lo hi n).1.1 (sizE zs r lo hi n).2.1 (sizE zs r lo hi n).1.2 (sizE zs r lo hi n).2.2
theorem endQ_pos {zs : List Q2} (hp : PosL zs) (i : Int) : PosO (endQ zs i) := by
  unfold endQ
  split
  · cases e : zs[i.toNat]? with
    | none => trivial
    | some a => exact hp a (List.mem_of_getElem? e)
  · trivial
theorem getQ_pos {zs : List Q2} (hp : PosL zs) (i : Nat) : PosO zs[i]? := by
  cases e : zs[i]? with
  | none => trivial
  | some a => exact hp a (List.mem_of_getElem? e)
end My
namespace My
open PySem PySem.Spec PyProof.Rows L2
/-! ### lists of numbers -/
/-! ### the sizes that fit some feet -/
structure FitsL (H : Hp) (D : Addr) (ls : List (List Int)) : Prop where
  ob : ∃ ts : List V, H D = some (.lst ts) ∧ ts.length = ls.length ∧ ∀ (i : Nat) (v : V) (l : List Int), ts[i]? = some v → ls[i]? = some l → ∃ T, v = .ref T ∧ H T = some (.tup (l.map V.int))
theorem FitsL.same {H H' : Hp} {D : Addr} {ls : List (List Int)} (a : FitsL H D ls) (s : Same H H') : FitsL H' D ls := by
  obtain ⟨ts, h1, h2, h3⟩ := a.ob
  refine ⟨ts, s _ _ h1, h2, fun i v l e1 e2 => ?_⟩
  obtain ⟨T, e, h⟩ := h3 i v l e1 e2
  exact ⟨T, e, s _ _ h⟩
theorem FitsL.at {H : Hp} {D : Addr} {ls : List (List Int)} {ts : List V} (h2 : ts.length = ls.length) (h3 : ∀ (i : Nat) (v : V) (l : List Int), ts[i]? = some v → ls[i]? = some l → ∃ T, v = .ref T ∧ H T = some (.tup (l.map V.int))) {i : Nat} {l : List Int} (h : ls[i]? = some l) : ∃ T, ts[i]? = some (.ref T) ∧ H T = some (.tup (l.map V.int)) := by
  have hi : i < ts.length := by rw [h2]; exact (List.getElem?_eq_some_iff.mp h).1
  obtain ⟨T, e, k⟩ := h3 i _ l (List.getElem?_eq_getElem hi) h
  exact ⟨T, by rw [List.getElem?_eq_getElem hi, e], k⟩
/-- the first one of which there is none -/
def BareAt (ls : List (List Int)) : Option Nat → Prop
  | none => ∀ l ∈ ls, l ≠ []
  | some n => ls[n]? = some [] ∧ ∀ j l, j < n → ls[j]? = some l → l ≠ []
theorem BareAt.uniq {ls : List (List Int)} : ∀ {o o' : Option Nat}, BareAt ls o → BareAt ls o' → o = o'
  | none, none, _, _ => rfl
  | none, some n, h, g => absurd rfl (h _ (List.mem_of_getElem? g.1))
  | some n, none, h, g => absurd rfl (g _ (List.mem_of_getElem? h.1))
  | some n, some m, h, g => by
    rcases Nat.lt_trichotomy n m with q | q | q
    · exact absurd rfl (g.2 n _ q h.1)
    · rw [q]
    · exact absurd rfl (h.2 m _ q g.1)
def firstI (ls : List (List Int)) (a : Int) : Int := ((ls.getD a.toNat []).head?).getD 0
def lastI (ls : List (List Int)) (a : Int) : Int := ((ls.getD a.toNat []).getLast?).getD 0
/-- runs: none is bare, each begins no later than it ends -/
def RunsI (ls : List (List Int)) : Prop := ∀ i : Nat, i < ls.length → ls.getD i [] ≠ [] ∧ firstI ls i ≤ lastI ls i
structure GInv (ls : List (List Int)) (done : List (Int × Int)) (ss as : List Int) : Prop where
  len : ss.length = as.length
  hits : ∀ q ∈ done, ∃ s ∈ ss, firstI ls q.2 ≤ s ∧ s ≤ q.1
  own : ∀ (j : Nat) (s a : Int), ss[j]? = some s → as[j]? = some a → (s, a) ∈ done
  ap : ∀ (j j' : Nat) (s a : Int), j < j' → ss[j]? = some s → as[j']? = some a → s < firstI ls a
theorem GInv.nil {ls : List (List Int)} : GInv ls [] [] [] := ⟨rfl, fun q h => by simp at h, fun j s a h => by simp at h, fun j j' s a _ h => by simp at h⟩
/-- the pairs of last sizes and numbers -/
structure PairsOf (ls : List (List Int)) (ps : List (Int × Int)) : Prop where
  perm : ps.Perm ((List.range ls.length).map fun i : Nat => (lastI ls i, (i : Int)))
  srt : ∀ (i j : Nat) (p q : Int × Int), i < j → ps[i]? = some p → ps[j]? = some q → p.1 ≤ q.1
theorem PairsOf.mem {ls : List (List Int)} {ps : List (Int × Int)} (h : PairsOf ls ps) {q : Int × Int} : q ∈ ps ↔ ∃ i : Nat, i < ls.length ∧ q = (lastI ls i, (i : Int)) := by
  rw [h.perm.mem_iff, List.mem_map]
  constructor
  · rintro ⟨i, hi, e⟩; exact ⟨i, List.mem_range.mp hi, e.symm⟩
  · rintro ⟨i, hi, e⟩; exact ⟨i, List.mem_range.mpr hi, e.symm⟩
theorem GInv.rise {ls : List (List Int)} {ps : List (Int × Int)} {k : Nat} {ss as : List Int} (P : PairsOf ls ps) (R : RunsI ls) (g : GInv ls (ps.take k) ss as) : ∀ (j j' : Nat) (s s' : Int), j < j' → ss[j]? = some s → ss[j']? = some s' → s < s' := fun j j' s s' hj h h' => by
  have l := (List.getElem?_eq_some_iff.mp h').1
  obtain ⟨a', ha'⟩ := geI (zs := as) (n := j') (by rw [← g.len]; exact l)
  have h1 := g.ap j j' s a' hj h ha'
  have h2 := g.own j' s' a' h' ha'
  obtain ⟨i, hi, e⟩ := P.mem.mp (List.mem_of_mem_take h2)
  obtain ⟨rfl, rfl⟩ := Prod.mk.inj e
  have := (R i hi).2
  omega
theorem GInv.take {ls : List (List Int)} {ps : List (Int × Int)} {k : Nat} {ss as : List Int} {b n : Int} (P : PairsOf ls ps) (R : RunsI ls) (hk : ps[k]? = some (b, n)) (g : GInv ls (ps.take k) ss as) (h : ∀ s, ss.getLast? = some s → s < firstI ls n) : GInv ls (ps.take (k + 1)) (ss ++ [b]) (as ++ [n]) := by
  have e : ps.take (k + 1) = ps.take k ++ [(b, n)] := by rw [List.take_add_one, hk]; rfl
  obtain ⟨i, hi, ei⟩ := P.mem.mp (List.mem_of_getElem? hk)
  obtain ⟨rfl, rfl⟩ := Prod.mk.inj ei
  refine ⟨by rw [List.length_append, List.length_append, g.len]; rfl, fun q hq => ?_, fun j s' a h1 h2 => ?_, fun j j' s' a hj h1 h2 => ?_⟩
  · rw [e] at hq
    rcases List.mem_append.mp hq with hq | hq
    · obtain ⟨s, hs, q1⟩ := g.hits q hq
      exact ⟨s, List.mem_append.mpr (.inl hs), q1⟩
    · have : q = (lastI ls (i : Int), (i : Int)) := by simpa using hq
      subst this
      exact ⟨lastI ls i, by simp, (R i hi).2, Int.le_refl _⟩
  · rw [e]
    by_cases hlt : j < ss.length
    · rw [List.getElem?_append_left hlt] at h1
      rw [List.getElem?_append_left (by rw [← g.len]; exact hlt)] at h2
      exact List.mem_append.mpr (.inl (g.own j s' a h1 h2))
    · have l1 := (List.getElem?_eq_some_iff.mp h1).1
      rw [List.length_append, List.length_singleton] at l1
      have ej : j = ss.length := by omega
      rw [ej, List.getElem?_append_right (Nat.le_refl _), Nat.sub_self] at h1
      rw [ej, g.len, List.getElem?_append_right (Nat.le_refl _), Nat.sub_self] at h2
      have h1 : lastI ls i = s' := by simpa using h1
      have h2 : (i : Int) = a := by simpa using h2
      rw [← h1, ← h2]
      simp
  · have l2 := (List.getElem?_eq_some_iff.mp h2).1
    rw [List.length_append, List.length_singleton, ← g.len] at l2
    have h1' : ss[j]? = some s' := by
      rw [List.getElem?_append_left (by omega)] at h1; exact h1
    by_cases hlt : j' < ss.length
    · rw [List.getElem?_append_left (by rw [← g.len]; exact hlt)] at h2
      exact g.ap j j' s' a hj h1' h2
    · have ej : j' = ss.length := by omega
      rw [ej, g.len, List.getElem?_append_right (Nat.le_refl _), Nat.sub_self] at h2
      have h2 : (i : Int) = a := by simpa using h2
      rw [← h2]
      have hs : ss[ss.length - 1]? = ss.getLast? := List.getLast?_eq_getElem?.symm
      obtain ⟨s, hs2⟩ := geI (zs := ss) (n := ss.length - 1) (by omega)
      have hlast := h s (by rw [← hs]; exact hs2)
      by_cases q : j = ss.length - 1
      · rw [q, hs2] at h1'
        cases h1'
        exact hlast
      · have := g.rise P R j (ss.length - 1) s' s (by omega) h1' hs2
        omega
/-! ### tuples of the heap: sums and slices -/
section
variable {X : Cx}
end
/-! ### fractions as rational numbers -/
def toR (z : Q2) : Rat := (z.1 : Rat) / (z.2 : Rat)
theorem posR {n : Int} (h : 0 < n) : (0 : Rat) < (n : Rat) := by
  have := Rat.intCast_lt_intCast.mpr h
  simpa using this
section
variable {a b z w x y : Q2}
theorem div_ltR {a b c d : Int} (hb : 0 < b) (hd : 0 < d) : ((a : Rat) / b < (c : Rat) / d) ↔ (a : Rat) * d < c * b := by
  have hb := posR hb
  have hd := posR hd
  constructor
  · intro h
    have e1 : (a : Rat) * d = (a / b) * (b * d) := by grind
    have e2 : (c : Rat) * b = (c / d) * (b * d) := by grind
    rw [e1, e2]
    exact Rat.mul_lt_mul_of_pos_right h (Rat.mul_pos hb hd)
  · intro h
    by_cases g : (c : Rat) / d ≤ (a : Rat) / b
    · have := Rat.mul_le_mul_of_nonneg_right g (Rat.le_of_lt (Rat.mul_pos hb hd))
      have e1 : (a : Rat) * d = (a / b) * (b * d) := by grind
      have e2 : (c : Rat) * b = (c / d) * (b * d) := by grind
      grind
    · grind
theorem ltq_R (ha : 0 < a.2) (hb : 0 < b.2) : ltq a b = true ↔ toR a < toR b := by
  unfold toR
  rw [div_ltR ha hb]
  unfold ltq
  rw [decide_eq_true_iff, ← Rat.intCast_mul, ← Rat.intCast_mul, Rat.intCast_lt_intCast]
theorem leq_R (ha : 0 < a.2) (hb : 0 < b.2) : leq a b = true ↔ toR a ≤ toR b := by
  rw [leq_not]
  cases e : ltq b a with
  | true =>
    have := (ltq_R hb ha).mp e
    constructor
    · intro h; simp at h
    · intro h; grind
  | false =>
    have : ¬ toR b < toR a := fun q => by rw [(ltq_R hb ha).mpr q] at e; cases e
    constructor
    · intro _; grind
    · intro _; rfl
theorem re_R (h : Re z w) : toR z = toR w := by
  obtain ⟨h1, h2, h3⟩ := h
  unfold toR
  have p1 := posR h1
  have p2 := posR h2
  have e : (z.1 : Rat) * (w.2 : Rat) = (w.1 : Rat) * (z.2 : Rat) := by rw [← Rat.intCast_mul, ← Rat.intCast_mul, h3]
  grind
theorem nn_R (ha : 0 < a.2) : 0 ≤ a.1 ↔ 0 ≤ toR a := by
  have p : 0 < ((0, 1) : Q2).2 := by decide
  have h := leq_R (a := (0, 1)) (b := a) p ha
  have e : toR (0, 1) = 0 := by unfold toR; grind
  rw [e] at h
  rw [← h, leq_not]
  unfold ltq
  simp
end
theorem Re.nn {z w : Q2} (r : Re z w) (h : 0 ≤ w.1) : 0 ≤ z.1 := by
  rw [nn_R r.1, re_R r]
  exact (nn_R r.2.1).mp h
section
variable {zs : List Q2} {a z x y e w : Q2} {i : Nat}
end
/-! ### lists of tuples of numbers as data -/
section
variable {X : Cx} {K : PySem.W.Frag}
end
theorem dpAll_of {α : Type} {K : PySem.W.Frag} {H : Hp} (f : α → PyData) : ∀ {ts : List V} {ls : List α}, ts.length = ls.length → (∀ (i : Nat) (v : V) (l : α), ts[i]? = some v → ls[i]? = some l → Dp K H v (f l)) → DpAll K H ts (ls.map f)
  | [], [], _, _ => .nil
  | [], _ :: _, h, _ => by simp at h
  | _ :: _, [], h, _ => by simp at h
  | t :: ts, l :: ls, h, g => .cons (g 0 t l rfl rfl) (dpAll_of f (by simpa using h) fun i v l' h1 h2 => g (i + 1) v l' (by simpa using h1) (by simpa using h2))
theorem FitsL.dp {K : PySem.W.Frag} {H : Hp} {D : Addr} {ls : List (List Int)} (a : FitsL H D ls) : Dp K H (.ref D) (.list (ls.map fun l => intsD l)) := by
  obtain ⟨ts, h1, h2, h3⟩ := a.ob
  refine .lst (SqL.of h1) (dpAll_of (fun l => intsD l) h2 fun i v l e1 e2 => ?_)
  obtain ⟨T, rfl, h⟩ := h3 i v l e1 e2
  exact dpT h
/-! ### a set of a tuple of numbers -/
/-! ### looked at ahead of a step (apply fails at once where exact, refine and show take seconds) -/
section
variable {K : PySem.W.Frag} {C CM CL CG p h a L1 L2 : Addr} {H H' : Hp} {v : V} {k n : Nat} {z : Q2} {vs : List V} {zs ys : List Q2} {e : Option Q2} {r : Str} {lo hi : Option Q2} {o : Option HO} {x : HO} {P Q : Prop}
end
/-! ### what follows a statement, kept out of sight while it is read -/
/-! ### a comprehension over a list that draws, some left out -/
theorem AllTQ.nl {H H' : Hp} {k : Nat} {vs : List V} (m : AllTQ H k vs) (s : Nl H H') : AllTQ H' k vs := fun x hx => by
  obtain ⟨z, t⟩ := m x hx
  exact ⟨z, t.nl s⟩
theorem AllTQ.same {H H' : Hp} {k : Nat} {vs : List V} (m : AllTQ H k vs) (s : Same H H') : AllTQ H' k vs := m.nl (Nl.of s)
theorem AllTQ.mono {H : Hp} {k j : Nat} {vs : List V} (m : AllTQ H k vs) (l : k ≤ j) : AllTQ H j vs := fun x hx => by
  obtain ⟨z, t⟩ := m x hx
  exact ⟨z, t.mono l⟩
theorem Kp.up2 {h D : Addr} {H H1 : Hp} {u : HO} (k : Kp h H H1) (hD : H D = none) : Kp h H (upd H1 D u) := fun c o e n => by
  rw [upd_ne (ne_of_none e hD)]
  exact k c o e n
end My
namespace My
open PySem PySem.Spec PyProof.Rows L2
/-! ### the stretches of a ladder's sizes, held -/
theorem MAt.nl {C p : Addr} {H H' : Hp} {t u : Int} (a : MAt C H p t u) (s : Nl H H') : MAt C H' p t u := by
  obtain ⟨dx, h⟩ := a
  exact ⟨dx, s _ _ h rfl⟩
theorem MsV.nl {C : Addr} {H H' : Hp} {v : V} (s : Nl H H') : ∀ {e : Option Q2}, MsV C H v e → MsV C H' v e
  | none, h => h
  | some _, ⟨p, h1, h2⟩ => ⟨p, h1, h2.nl s⟩
theorem StAt.nl {CM CS p : Addr} {H H' : Hp} {lo hi : Option Q2} {li hj : Bool} (a : StAt CM CS H p lo hi li hj) (s : Nl H H') : StAt CM CS H' p lo hi li hj := by
  obtain ⟨⟨dx, l, h, h1, h2, h3⟩, a1, a2, a3, a4⟩ := a
  exact ⟨⟨dx, l, h, s _ _ h1 rfl, h2.nl s, h3.nl s⟩, a1, a2, a3, a4⟩
theorem StQ.nl {CM CS p : Addr} {H H' : Hp} {x y : Option Q2 × Bool} (a : StQ CM CS H p x y) (s : Nl H H') : StQ CM CS H' p x y := by
  obtain ⟨lo, hi, h1, h2, h3⟩ := a
  exact ⟨lo, hi, h1.nl s, h2, h3⟩
/-- the stretch of a size, or None -/
def RunV (CM CS : Addr) (H : Hp) (v : V) (zs : List Q2) (r : Str) (lo hi : Option Q2) (n : Nat) : Prop :=
  (sizB zs r lo hi n = true ∧ ∃ p, v = .ref p ∧ StQ CM CS H p (sizE zs r lo hi n).1 (sizE zs r lo hi n).2) ∨ (sizB zs r lo hi n = false ∧ v = .non)
section
variable {CM CS : Addr} {H H' : Hp} {v : V} {zs : List Q2} {r : Str} {lo hi : Option Q2} {n : Nat}
theorem RunV.same (a : RunV CM CS H v zs r lo hi n) (s : Same H H') : RunV CM CS H' v zs r lo hi n := by
  rcases a with ⟨h, p, e, q⟩ | h
  · exact .inl ⟨h, p, e, q.same s⟩
  · exact .inr h
theorem RunV.nl (a : RunV CM CS H v zs r lo hi n) (s : Nl H H') : RunV CM CS H' v zs r lo hi n := by
  rcases a with ⟨h, p, e, q⟩ | h
  · exact .inl ⟨h, p, e, q.nl s⟩
  · exact .inr h
theorem run_of (c : CutQ CM CS H v (sizE zs r lo hi n).1 (sizE zs r lo hi n).2) : RunV CM CS H v zs r lo hi n := by
  obtain ⟨x', y', c, ax, ay⟩ := c
  have e := Alike.someB ax ay
  rcases c with ⟨h, p, rfl, st⟩ | ⟨h, rfl⟩
  · refine .inl ⟨by unfold sizB; rw [← e]; exact h, p, rfl, x'.1, y'.1, ?_, ax.1, ay.1⟩
    rw [← ax.flag, ← ay.flag]
    exact st
  · exact .inr ⟨by unfold sizB; rw [← e]; exact h, rfl⟩
end
section
variable {CM CS : Addr} {H : Hp} {p q : Addr} {x y x2 y2 : Option Q2 × Bool}
theorem StQ.raw (a : StQ CM CS H p x y) {m : Str} (h1 : ¬ m = "low") (h2 : ¬ m = "high") (h3 : ¬ m = "low_in") (h4 : ¬ m = "high_in") {R : Prop} (h : R) : ∃ a dx fs, V.ref p = .ref a ∧ H a = some (.ins CS dx fs) ∧ fs.lookup m = none ∧ R := by
  obtain ⟨lo, hi, s, _⟩ := a
  exact meth_s s h1 h2 h3 h4 h
/-- an end of so many bits -/
def SzE (k : Nat) : Option Q2 → Prop
  | none => True
  | some a => Sz k a.1 ∧ Sz k a.2
theorem qo_of {k : Nat} {v : V} {m e : Option Q2} (a : MsV CM H v m) (l : LowO m) (r : ReO m e) (s : SzE k e) : QO CM H k v e := by
  cases m with
  | none =>
    cases e with
    | none => exact a
    | some _ => exact r.elim
  | some m =>
    cases e with
    | none => exact r.elim
    | some e =>
      obtain ⟨p, rfl, hp⟩ := a
      exact ⟨p, rfl, QAt.of hp l r s.1 s.2⟩
end
theorem SzE.mono {k j : Nat} (l : k ≤ j) : ∀ {o : Option Q2}, SzE k o → SzE j o
  | none, _ => trivial
  | some _, h => ⟨h.1.mono l, h.2.mono l⟩
def SzL (k : Nat) (zs : List Q2) : Prop := ∀ z ∈ zs, Sz k z.1 ∧ Sz k z.2
theorem SzL.get {k : Nat} {zs : List Q2} (h : SzL k zs) (i : Nat) : SzE k zs[i]? := by
  cases e : zs[i]? with
  | none => trivial
  | some a => exact h a (List.mem_of_getElem? e)
theorem SzL.end {k : Nat} {zs : List Q2} (h : SzL k zs) (i : Int) : SzE k (endQ zs i) := by
  unfold endQ
  split
  · exact h.get _
  · trivial
theorem LawL.szs {H : Hp} {p : Addr} {part : Int} {ms : List Int} {r : Str} {lo hi : Option Int} (a : LawL H p part ms r lo hi) : SzL 40 (zq (4 * part) ms) ∧ SzE 40 (oq (4 * part) lo) ∧ SzE 40 (oq (4 * part) hi) := by
  have p0 := a.p0
  have p1 := a.p1
  have sp : Sz 40 (4 * part) := by show (4 * part).natAbs < 2 ^ 40; omega
  have sz : ∀ z : Int, -4000040 ≤ z → z ≤ 4000040 → Sz 40 z := fun z h1 h2 => by show z.natAbs < 2 ^ 40; omega
  refine ⟨fun z hz => ?_, ?_, ?_⟩
  · obtain ⟨m, hm, rfl⟩ := List.mem_map.mp hz
    have := a.bnd m hm
    exact ⟨sz m (by omega) (by omega), sp⟩
  · cases lo with
    | none => trivial
    | some z => have := a.blo z rfl; exact ⟨sz z this.1 this.2, sp⟩
  · cases hi with
    | none => trivial
    | some z => have := a.bhi z rfl; exact ⟨sz z this.1 this.2, sp⟩
theorem LadAt.up {K : PySem.W.Frag} {CM CL : Addr} {H : Hp} {p : Addr} {k j : Nat} {zs : List Q2} {r : Str} {lo hi : Option Q2} (a : LadAt K CM CL H p k zs r lo hi) (l : k ≤ j) : LadAt K CM CL H p j zs r lo hi := a.mono l
/-! ### measures that a stretch holds -/
def GoodM (CM : Addr) (x y : Option Q2 × Bool) (H : Hp) (ys : List V) : Prop := ∀ v ∈ ys, ∃ q z, v = .ref q ∧ QAt CM H q 300 z ∧ (loIn x.1 x.2 z && hiIn y.1 y.2 z) = true
theorem GoodM.nl {CM : Addr} {x y : Option Q2 × Bool} {H H' : Hp} {ys : List V} (g : GoodM CM x y H ys) (s : Nl H H') : GoodM CM x y H' ys := fun v hv => by
  obtain ⟨q, z, e, a, h⟩ := g v hv
  exact ⟨q, z, e, a.nl s, h⟩
theorem GoodM.snoc {CM : Addr} {x y : Option Q2 × Bool} {H : Hp} {ys : List V} {q : Addr} {z : Q2} (g : GoodM CM x y H ys) (a : QAt CM H q 300 z) (h : (loIn x.1 x.2 z && hiIn y.1 y.2 z) = true) : GoodM CM x y H (ys ++ [.ref q]) := fun v hv => by
  rcases List.mem_append.mp hv with hv | hv
  · exact g v hv
  · have : v = .ref q := by simpa using hv
    exact ⟨q, z, this, a, h⟩
section
variable {a b : Q2} {i j : Bool} {yo xo : Option Q2}
end
end My
namespace My
open PySem PySem.Spec PyProof.Rows L2
/-! ### comprehensions within comprehensions: the readings of the inner ones are found ahead -/
section
variable {X : Cx}
end
end My
namespace My
open PySem PySem.Spec PyProof.Rows L2
/-! ### repr of a tuple that holds own objects -/
section
variable {X : Cx} {n : Nat} {CX : CXT} {C f : Addr} {fd : FuncData} {ps : List Str} {sp : Sp} {E : XK}
end
/-! ### == of tuples, item by item -/
section
open GQ
open AutoSeq1 (wpAny_loadPart')
variable {prog : Program} {w : World} {A : Around} {R : Result → Shared → Prop}
end
section
variable {X : Cx} {n : Nat} {D : Eqb}
end
/-! ### {x} of an own object, repr of one whose own def shows a tuple -/
section
variable {X : Cx} {n : Nat} {CX : CXT} {C f : Addr} {fd : FuncData} {ps : List Str} {sp : Sp} {E : XK}
end
end My
namespace My
open PySem PySem.Spec PyProof.Rows L2
/-! ### signs of texts; dicts beside own == -/
/-! ### own == within comprehensions: K by name -/
end My
/-! ### own errors whose __init__ calls super().__init__(..): over any built-in base -/
namespace My
open PySem PySem.Spec PyProof.Rows L2 NdefX Builtin Builtin.ObjectAttr
abbrev leTail : List Value := [.type "LookupError", .type "Exception", .type "BaseException", .type "object"]
/-- own classes, then T -/
def refsT (T : List Value) : List Value → Bool
  | .ref _ :: r => refsT T r
  | l => l == T
/-- what is asked of the built-in base -/
structure BaseX (B newId initId : String) (T : List Value) : Prop where
  F : ExcBaseFacts B newId initId T
  KF : PySem.W.KxsFacts B initId
  pass : ∀ self, refuseLoop self "__setattr__" T = pure ()
  ob : T.contains (.type "object") = true
  ne : T ≠ []
  nr : ∀ c r, T ≠ .ref c :: r
theorem refsT_cases {T : List Value} : ∀ l : List Value, refsT T l = true → (∃ c r, l = .ref c :: r ∧ refsT T r = true) ∨ l = T
  | [], e => .inr (beq_iff_eq.mp e)
  | .ref c :: r, e => .inl ⟨c, r, rfl, e⟩
  | .none :: _, e => .inr (beq_iff_eq.mp e)
  | .ellipsis :: _, e => .inr (beq_iff_eq.mp e)
  | .notImplemented :: _, e => .inr (beq_iff_eq.mp e)
  | .bool _ :: _, e => .inr (beq_iff_eq.mp e)
  | .int _ _ :: _, e => .inr (beq_iff_eq.mp e)
  | .float _ _ :: _, e => .inr (beq_iff_eq.mp e)
  | .str _ _ :: _, e => .inr (beq_iff_eq.mp e)
  | .bytes _ _ :: _, e => .inr (beq_iff_eq.mp e)
  | .type _ :: _, e => .inr (beq_iff_eq.mp e)
  | .builtin _ :: _, e => .inr (beq_iff_eq.mp e)
section
variable {B newId initId : String} {T : List Value} (bx : BaseX B newId initId T)
include bx
theorem BaseX.passes (self : Value) : ∀ l : List Value, refsT T l = true → refuseLoop self "__setattr__" l = pure () := by
  intro l
  induction l with
  | nil =>
    intro e
    exact absurd (beq_iff_eq.mp e).symm bx.ne
  | cons a r ih =>
    intro e
    rcases refsT_cases (a :: r) e with ⟨c, r', q, h⟩ | q
    · obtain ⟨rfl, rfl⟩ := List.cons.inj q
      rw [refuseLoop_ref]; exact ih h
    · rw [q]; exact bx.pass self
theorem BaseX.contains (X : String) : ∀ l : List Value, refsT T l = true → l.contains (.type X) = T.contains (.type X) := by
  intro l
  induction l with
  | nil => intro e; exact absurd (beq_iff_eq.mp e).symm bx.ne
  | cons a r ih =>
    intro e
    rcases refsT_cases (a :: r) e with ⟨c, r', q, h⟩ | q
    · obtain ⟨rfl, rfl⟩ := List.cons.inj q
      rw [List.contains_cons, ih h]; rfl
    · rw [q]
theorem BaseX.nempty {l : List Value} (e : refsT T l = true) : l.isEmpty = false := by
  cases l with
  | nil => exact absurd (beq_iff_eq.mp e).symm bx.ne
  | cons _ _ => rfl
end
/-- what the written part says of the class -/
structure OexG (newId : String) (T : List Value) (K : PySem.W.Frag) (C : Addr) : Prop where
  cls : ∃ nm q N bs bm sn sub ab col dd k0 k1 k2 k3 k5, K.lookup C = some (excClassObj nm q C N bs bm true sn sub ab col dd k0 k1 k2 k3 k5 newId) ∧ refsT T bm = true
  sa : PySem.W.findIn K (.ref C) "__setattr__" = some (some (.builtin "object.__setattr__"))
  exC : PySem.W.subIn K (.ref C) (.type "BaseException") = some true
  tyC : PySem.W.typeIn K (.ref C) = some (.type "type")
  kC : PySem.W.keepIn K (.ref C) = true
section
open PySem.HandSPX (store_in_new)
variable {prog : Program} {w : World} {A : Around} {E : Value → Shared → Prop} {R : Result → Shared → Prop} {hp : Heap} {g : Array GenState} {d : Drawn} {t : Nat} {os : OsState}
theorem exc_osaG {K : PySem.W.Frag} {name : Str} {tk : Tok} {v : Value} {x C : Addr} {fv : Array Value} {cd : ClassData}
    (X : K.In hp) (hx : hp.get? x = some { cls := .ref C, data := .fields fv }) (hcd : PySem.W.clsIn K C = some cd) (ne : cd.mro.isEmpty = false) (hob : cd.mro.contains (.type "object") = true) (hpass : refuseLoop (.ref x) "__setattr__" cd.mro = pure ()) (hh : cd.hasDict = true) (ha : PySem.W.findIn K (.ref C) name = some none)
    (hq : ∀ h' tk' dx, (∀ b o, b ≠ x → hp.get? b = some o → h'.get? b = some o) → hp.objs.size ≤ dx → dx ≠ x → h'.get? x = some { cls := .ref C, dict := some dx, data := .fields fv } →
      h'.Ns1 dx (fun y => if y = name then some v else none) → R (.ok (.ret .none)) ⟨h', g, d, tk', os⟩) :
    codeAny (model prog w) A (.call (.builtin "object.__setattr__") ⟨[.ref x, .str name tk, v], []⟩) R ⟨hp, g, d, t, os⟩ := by
  have I : PySem.W.InstAt hp x { cls := .ref C, data := .fields fv } C none := ⟨hx, rfl, rfl, trivial⟩
  have SF := F.store_object
  have hxs : x ≠ hp.objs.size := Nat.ne_of_lt (Heap.lt_size hx)
  have sub : PySem.W.Looks (model prog w) hp (isInstance (.ref x) (.type "object")) true := I.type.andThen (PySem.W.looks_mroIn X (by unfold PySem.W.mroIn; rw [hcd, Option.bind_some, if_neg (by rw [ne]; decide), hob]))
  refine codeAny_call_builtin SF.slot.plain SF.entry (@PySem.W.check_slot (model prog w) _ _ ⟨hp, g, d, t, os⟩ "object.__setattr__" "object" "__setattr__" (.ref x) [.str name tk, v] [] _ SF.kind SF.split sub (SF.args (.ref x) (.str name tk) v) ?_)
  have hmr : PySem.W.Looks (model prog w) hp (mroOf (.ref C)) cd.mro := (PySem.W.looks_clsIn X hcd).andThen .now
  have L3 : PySem.W.Looks (model prog w) hp (storeTaker? none) none := .now
  have hcls : PySem.W.Looks (model prog w) hp (classData C) cd := PySem.W.looks_clsIn X hcd
  rw [PySem.W.osa_eq, refuse_eq]
  refine wpAny_bind (wpAny_bind (I.type.at (wpAny_bind (hmr.at ?_))))
  rw [hpass]
  refine wpAny_pure (wpAny_bind (I.type.at (wpAny_bind ((PySem.W.looks_findIn X ha).at (wpAny_bind (L3.at ?_))))))
  show wpAny _ _ (storeInOwnDict (.ref x) (.ref C) (.str name tk) name v false) _ _ _
  obtain ⟨nm, bs, mro, ns, qn, hd, sn, sb, ab, col, del⟩ := cd
  dsimp only at hh
  subst hh
  unfold storeInOwnDict ownDictForStores
  repeat (first | with_reducible refine store_in_new ?_ ?_ | with_reducible refine wpAny_loadPart_at hx ?_ | with_reducible refine hcls.at ?_ | wp_step)
  · exact ⟨_, #[], _, (Heap.get?_update_ne _ _ _ _ hxs.symm).trans (Heap.get?_push_at rfl rfl), rfl, fun e he => absurd he (by simp), fun _ => rfl⟩
  · intro h' tk' hn' hs
    have hx₁ : (hp.push { cls := .type "dict", data := .dict #[] }).get? x = some { cls := .ref C, data := .fields fv } := Heap.get?_push_of_some _ hx
    refine hq h' tk' hp.objs.size (fun b o hb ho => ?_) (Nat.le_refl _) hxs.symm ?_ hn'
    · exact (hs.2 b (Nat.ne_of_lt (Heap.lt_size ho))).trans ((Heap.get?_update_ne _ _ _ _ hb).trans (Heap.get?_push_of_some _ ho))
    · exact (hs.2 x hxs).trans (Heap.get?_update_self _ hx₁ rfl)
theorem osa_oldG {K : PySem.W.Frag} {name : Str} {tk : Tok} {v : Value} {x C dx : Addr} {fv : Array Value} {cd : ClassData} {m0 : Str → Option Value} {nl : List Str}
    (X : K.In hp) (hx : hp.get? x = some { cls := .ref C, dict := some dx, data := .fields fv }) (hns : hp.Ns1 dx m0) (hw : Within m0 nl) (hz : nl.length ≤ 1000) (hcd : PySem.W.clsIn K C = some cd) (ne : cd.mro.isEmpty = false) (hob : cd.mro.contains (.type "object") = true) (hpass : refuseLoop (.ref x) "__setattr__" cd.mro = pure ()) (hh : cd.hasDict = true)
    (ha : PySem.W.findIn K (.ref C) name = some none)
    (hq : ∀ h' tk', (∀ b o, b ≠ dx → hp.get? b = some o → h'.get? b = some o) → h'.Ns1 dx (fun y => if y = name then some v else m0 y) → R (.ok (.ret .none)) ⟨h', g, d, tk', os⟩) :
    codeAny (model prog w) A (.call (.builtin "object.__setattr__") ⟨[.ref x, .str name tk, v], []⟩) R ⟨hp, g, d, t, os⟩ := by
  obtain ⟨oD, esD, epD, hoD, hdD, _⟩ := hns.count hw
  have I : PySem.W.InstAt hp x { cls := .ref C, dict := some dx, data := .fields fv } C (some oD) := ⟨hx, rfl, rfl, hoD⟩
  have SF := F.store_object
  have sub : PySem.W.Looks (model prog w) hp (isInstance (.ref x) (.type "object")) true := I.type.andThen (PySem.W.looks_mroIn X (by unfold PySem.W.mroIn; rw [hcd, Option.bind_some, if_neg (by rw [ne]; decide), hob]))
  refine codeAny_call_builtin SF.slot.plain SF.entry (@PySem.W.check_slot (model prog w) _ _ ⟨hp, g, d, t, os⟩ "object.__setattr__" "object" "__setattr__" (.ref x) [.str name tk, v] [] _ SF.kind SF.split sub (SF.args (.ref x) (.str name tk) v) ?_)
  have hmr : PySem.W.Looks (model prog w) hp (mroOf (.ref C)) cd.mro := (PySem.W.looks_clsIn X hcd).andThen .now
  have L3 : PySem.W.Looks (model prog w) hp (storeTaker? none) none := .now
  have hcls : PySem.W.Looks (model prog w) hp (classData C) cd := PySem.W.looks_clsIn X hcd
  rw [PySem.W.osa_eq, refuse_eq]
  refine wpAny_bind (wpAny_bind (I.type.at (wpAny_bind (hmr.at ?_))))
  rw [hpass]
  refine wpAny_pure (wpAny_bind (I.type.at (wpAny_bind ((PySem.W.looks_findIn X ha).at (wpAny_bind (L3.at ?_))))))
  show wpAny _ _ (storeInOwnDict (.ref x) (.ref C) (.str name tk) name v false) _ _ _
  obtain ⟨nm, bs, mro, ns, qn, hd, sn, sb, ab, col, del⟩ := cd
  dsimp only at hh
  subst hh
  unfold storeInOwnDict ownDictForStores
  repeat (first | with_reducible refine PySem.OEX.store_in_old hns hw hz ?_ | with_reducible refine wpAny_loadPart_at hx ?_ | with_reducible refine hcls.at ?_ | wp_step)
  intro h' tk' hn' hs
  exact hq h' tk' (fun b o hb ho => (hs.2 b hb).trans ho) hn'
end
section
variable {Bn newId initId : String} {T : List Value} (bx : BaseX Bn newId initId T) {X : Cx} {pins : List (Addr × Obj)} {σ : L2.St} {H : Hp} {s : Shared} {a C dx : Addr} {f : Str} {y : V} {u : Value} {fs : List (Str × V)} {Q : Unit → Shared → Prop} {E : Value → Shared → Prop} {A : Around}
include bx
/-- self.f = y, the first one -/
theorem ost_newG (T' : OexG newId T X.K C) (I : Inv X pins σ H s) (e : H a = some (exo a C none)) (hno : PySem.W.findIn X.K (.ref C) f = some none) (ry : RelV y u)
    (h : ∀ dx s', H dx = none → dx ≠ a → Inv X pins σ (upd (upd H dx (exd dx [(f, y)])) a (exo a C (some dx))) s' → Q () s') : wpAny (model X.prog X.w) A (setAttr (.ref a) f u) Q E s := by
  obtain ⟨nm, q, N, bs, bm, sn, sub, ab, col, dd, k0, k1, k2, k3, k5, hC, hbm⟩ := T'.cls
  have hcl : PySem.W.clsIn X.K C = some { name := nm, bases := bs, mro := .ref C :: bm, ns := N, qualname := q, hasDict := true, slotNames := sn, subclasses := sub, abstract := ab, collection := col, hasDel := false } := by unfold PySem.W.clsIn; rw [hC] <;> rfl
  have hm : refsT T (.ref C :: bm) = true := hbm
  obtain ⟨t1, ho⟩ := exo_at I.hok e
  obtain ⟨hp, g, d, t, os⟩ := s
  refine PySem.W.set_plain I.kIn (ox := { cls := .ref C, dict := none, data := .fields #[.ref t1, .none, .none, .none, .bool false, .none] }) (od := none) ⟨ho, rfl, rfl, trivial⟩ T'.sa ?_
  refine exc_osaG I.kIn ho hcl (bx.nempty hm) ((bx.contains "object" _ hm).trans bx.ob) (bx.passes _ _ hm) rfl hno (fun h' tk' dx k dn dne hx hn => ?_)
  have hnd : H dx = none := I.hok.fresh dn
  have nd : ∀ {b : Addr} {o : Obj}, hp.get? b = some o → b ≠ dx := fun {b o} q => Nat.ne_of_lt (Nat.lt_of_lt_of_le (Heap.lt_size q) dn)
  have na : ∀ {b : Addr}, H b = none → b ≠ a := fun {b} n z => by
    rw [z, e] at n
    cases n
  have Un1 : Un X.fs [] H (upd (upd H dx (exd dx [(f, y)])) a (exo a C (some dx))) hp h' := {
    keep := fun b o q n _ _ => k b o (na n) q
    slot := fun b o q n _ _ => ⟨o.slots, k b o (na n) q⟩
    free := fun b o q n _ => by rw [upd_ne (na n), upd_ne (nd q)]; exact n
    there := fun b o q _ => by
      by_cases hb : b = a
      · exact ⟨_, by rw [hb]; exact hx⟩
      · exact ⟨o, k b o hb q⟩
    tups := fun b xs q => by rw [upd_ne (at_ne e q exo_tup), upd_ne (ne_of_none q hnd)]; exact q
    frzs := fun b o v q => by rw [upd_ne (at_ne e q exo_frz), upd_ne (ne_of_none q hnd)]; exact q
    tbls := fun b ps q => ⟨#[], by rw [upd_ne (at_ne e q exo_tbl), upd_ne (ne_of_none q hnd), q]; simp⟩ }
  refine h dx _ hnd dne (I.un (t' := tk') Un1 fun b o q => ?_)
  by_cases hb : b = a
  · subst hb
    rw [upd_same] at q
    cases q
    exact exo_ok hx
  · rw [upd_ne hb] at q
    by_cases hd : b = dx
    · subst hd
      rw [upd_same] at q
      cases q
      exact exd_ok hn (relO_put (fs := []) ry fun g => True.intro)
    · rw [upd_ne hd] at q
      exact (I.hok b o q).stay (fun c v hc z => k c v (by
          rcases hc with hc | hc
          · rw [hc]
            exact hb
          · exact at_ne e hc exo_own) z)
        (fun c hc => by rw [upd_ne (at_ne e hc exo_own), upd_ne (ne_of_none hc hnd)]; exact hc) (fun c xs hc => by rw [upd_ne (at_ne e hc exo_tup), upd_ne (ne_of_none hc hnd)]; exact hc)
/-- self.f = y, a further one -/
theorem ost_oldG (T' : OexG newId T X.K C) (I : Inv X pins σ H s) (e : H a = some (exo a C (some dx))) (ed : H dx = some (exd dx fs)) (hl : fs.length ≤ 900) (hno : PySem.W.findIn X.K (.ref C) f = some none) (ry : RelV y u)
    (h : ∀ s', Inv X pins σ (upd H dx (exd dx ((f, y) :: fs))) s' → Q () s') : wpAny (model X.prog X.w) A (setAttr (.ref a) f u) Q E s := by
  obtain ⟨nm, q, N, bs, bm, sn, sub, ab, col, dd, k0, k1, k2, k3, k5, hC, hbm⟩ := T'.cls
  have hcl : PySem.W.clsIn X.K C = some { name := nm, bases := bs, mro := .ref C :: bm, ns := N, qualname := q, hasDict := true, slotNames := sn, subclasses := sub, abstract := ab, collection := col, hasDel := false } := by unfold PySem.W.clsIn; rw [hC] <;> rfl
  have hm : refsT T (.ref C :: bm) = true := hbm
  obtain ⟨t1, ho⟩ := exo_at I.hok e
  obtain ⟨mA, hns, rel⟩ := exd_at I.hok ed
  have hw := within_of rel
  obtain ⟨hp, g, d, t, os⟩ := s
  obtain ⟨oD, _, _, hoD, _, _⟩ := hns.count hw
  refine PySem.W.set_plain I.kIn (ox := { cls := .ref C, dict := some dx, data := .fields #[.ref t1, .none, .none, .none, .bool false, .none] }) (od := some oD) ⟨ho, rfl, rfl, hoD⟩ T'.sa ?_
  refine osa_oldG I.kIn ho hns hw (by rw [List.length_map]; omega) hcl (bx.nempty hm) ((bx.contains "object" _ hm).trans bx.ob) (bx.passes _ _ hm) rfl hno (fun h' tk' k hn => ?_)
  have hd : ∃ o, h'.get? dx = some o := by
    obtain ⟨o, _, _, e', _⟩ := hn
    exact ⟨o, e'⟩
  exact h _ (I.write (t' := tk') (x := dx) (e := dx) (o := exd dx ((f, y) :: fs)) (by rw [ed]; exact True.intro) (.inl rfl) k hd (exd_ok hn (relO_put ry rel)))
end
theorem baseLE : BaseX "LookupError" "LookupError.__new__" "LookupError.__init__" leTail :=
  ⟨PySem.F.excBase_LookupError, PySem.W.kxs_LookupError, fun self => by kernel_rfl, by decide +kernel, (fun e => nomatch e), fun c r e => nomatch e⟩
/-! ### super().__init__(..), then the fields -/
/-- an own __init__ as it stands behind the top: its closure one cell that holds its class; f its address, cc the cell, cda its code object, told by the file fl -/
structure SupD (K : PySem.W.Frag) (C : Addr) (name qual : Str) (params : Arguments) (body : List Stmt) (scope : Scope) (dvs : List V) (f cc cda : Addr) (fl : Str) (fd : FuncData) : Prop where
  ex : ∃ (oc : Value) (od : Option Addr) (dV kV doc pm : Value) (an : Option Addr) (ct : Value) (osl : Array (Option Value)),
    fd = PySem.W.fnX name qual params body scope [("__class__", cc)] dV kV doc pm an (.ref cda) ct ∧ K.lookup f = some ⟨oc, od, .func fd, osl⟩ ∧ DflV K dV dvs ∧ KwdV K kV []
  cell : ∃ (c0 : Value) (d0 : Option Addr) (s0 : Array (Option Value)), K.lookup cc = some ⟨c0, d0, .cell (some (.ref C)), s0⟩
  code : ∃ (c0 : Value) (d0 : Option Addr) (vs : Array Value) (s0 : Array (Option Value)) (tf : Tok), K.lookup cda = some ⟨c0, d0, .fields vs, s0⟩ ∧ vs[2]? = some (.str fl tf)
  cin : PySem.W.codeIn K (.ref cda) qual = true
  kp : PySem.W.keepIn K (.ref f) = true
/-- what is asked of the class beside it -/
structure SupC (Bn newId initId : String) (T : List Value) (K : PySem.W.Frag) (C : Addr) : Prop where
  ox : OexG newId T K C
  subB : PySem.W.subIn K (.ref C) (.type Bn) = some true
  sup : PySem.W.ks_superIn K C C "__init__" = some (some (.builtin initId))
  nop : PySem.W.nsIn K cStatics "thirdparty.any" = some none
  sub : PySem.W.mroIn K C (.ref C) = some true
theorem exo_inst {P : Program} {w : World} {H : Hp} {h : Heap} {e C : Addr} (hok : HOk P w H h) (he : H e = some (exo e C none)) : ∃ t1 : Addr, PySem.W.InstAt h e ({ cls := .ref C, dict := none, data := .fields #[.ref t1, .none, .none, .none, .bool false, .none] } : Obj) C none := by
  obtain ⟨t1, ho⟩ := exo_at hok he
  exact ⟨t1, ho, rfl, rfl, trivial⟩
section
variable {Bn newId initId : String} {T : List Value} (bx : BaseX Bn newId initId T) {X : Cx} {pins : List (Addr × Obj)} {σ : L2.St} {H : Hp} {s : Shared} {e C : Addr} {Q : Value → Shared → Prop}
include bx
/-- the built-in __init__ bound to e by u, called -/
theorem oinit_G {u : Addr} {us : List Value} (T' : OexG newId T X.K C) (I : Inv X pins σ H s) (he : H e = some (exo e C none)) (hu : s.heap.get? u = some (PySem.W.kxs_mw initId e)) (hl : us.length ≤ sizeLine) (h : ∀ s', Inv X pins σ H s' → Q .none s') :
    wpAny (model X.prog X.w) X.A (call (.ref u) us) Q X.xe s := by
  obtain ⟨nm, q, N, bs, bm, sn, sub, ab, col, dd, k0, k1, k2, k3, k5, hC, hbm⟩ := T'.cls
  obtain ⟨t1, ho⟩ := exo_at I.hok he
  have hC' := I.kIn _ _ hC
  obtain ⟨hp, g, d, tk, os⟩ := s
  have fin : ∀ h', (∀ b o, b ≠ e → hp.get? b = some o → h'.get? b = some o) → h'.get? e = some (PySem.W.excObj C hp.objs.size none .none) → h'.get? hp.objs.size = some (PySem.W.excTup us) → Q .none ⟨h', g, d, tk, os⟩ := fun h' k e' t' => by
    have J := I.write (t' := tk) (x := e) (e := e) (o := exo e C none) (by rw [he]; exact True.intro) (.inl rfl) k ⟨_, e'⟩ (exo_ok e')
    have eu : upd H e (exo e C none) = H := by
      funext b
      by_cases hb : b = e
      · rw [hb, upd_same, he]
      · rw [upd_ne hb]
    rw [eu] at J
    exact h _ J
  refine wpAny_call (codeAny_of_tree ?_)
  show wpAny _ X.A.in1 (callAny (.ref u) ⟨us, []⟩) _ _ _
  simp only [callAny]
  refine wpAny_bind (wpAny_load hu ?_)
  simp only [PySem.W.kxs_mw, show (Value.type "method-wrapper" == Value.type "method" || Value.type "method-wrapper" == Value.type "builtin_function_or_method" || Value.type "method-wrapper" == Value.type "method-wrapper") = true by decide, if_true]
  refine PySem.W.KFB.if_so (by decide) ?_
  refine wpAny_bind (PySem.W.check_bound_init bx.F.toExcCallFacts hC' ho rfl ?_)
  refine wpAny_bind (wpAny_pure (wpAny_pure ?_))
  refine ⟨plainId_quiet bx.F.init.plain _, codeAny_builtin bx.F.initEntry ?_⟩
  exact PySem.W.exc_init_tree (cls := .ref C) (t0 := t1) (dv := none) (c2 := .none) (c3 := .none) (b4 := .bool false) ho hl fin
end
/-- what is pinned besides -/
theorem pin_more {X : Cx} {pins : List (Addr × Obj)} {σ : L2.St} {H : Hp} {s : Shared} {u : Addr} {o : Obj} (I : Inv X pins σ H s) (hg : s.heap.get? u = some o) (hH : H u = none) (hl : u ≠ X.env.locals) (hf : u ∉ X.fs) (hc : ∀ v, o.data ≠ .cell v) : Inv X ((u, o) :: pins) σ H s := by
  refine ⟨I.ok, I.os, I.bare, I.base, I.loc, I.cell, I.free, I.freeC, fun p hp => ?_, I.hok, I.len⟩
  rcases List.mem_append.mp hp with h | h
  · exact I.pin p (List.mem_append_left _ h)
  · rcases List.mem_cons.mp h with rfl | h
    · exact ⟨hg, hH, hl, hf, hc⟩
    · exact I.pin p (List.mem_append_right _ h)
theorem unpin {X : Cx} {pins : List (Addr × Obj)} {σ : L2.St} {H : Hp} {s : Shared} {q : Addr × Obj} (I : Inv X (q :: pins) σ H s) : Inv X pins σ H s := by
  refine ⟨I.ok, I.os, I.bare, I.base, I.loc, I.cell, I.free, I.freeC, fun p hp => ?_, I.hok, I.len⟩
  rcases List.mem_append.mp hp with h | h
  · exact I.pin p (List.mem_append_left _ h)
  · exact I.pin p (List.mem_append_right _ (List.mem_cons_of_mem _ h))
section
variable {Bn newId initId : String} {T : List Value} (bx : BaseX Bn newId initId T) {X : Cx} {pins : List (Addr × Obj)} {σ : L2.St} {H : Hp} {s : Shared} {a C cc cda f : Addr}
include bx
/-- super().__init__(..) in an own __init__ -/
theorem sup_expr {body : List Stmt} {p0 p1 p2 p4 : Pos} {e1 : Expr} {es1 : List Expr} {oc ac0 c0 : Value} {od ad0 d0 : Option Addr} {fd : FuncData} {osl as0 s0 : Array (Option Value)} {ar : Arg} {avs : Array Value} {fl : Str} {tf : Tok} {i : Nat} {ta : TA} {Q : Hp → Prop}
    (CC : SupC Bn newId initId T X.K C) (I : Inv X pins σ H s) (hks : Gl X "super") (hkc : X.env.kindOf "__class__" = some .free) (hfu : X.env.func = some f) (hf : X.K.lookup f = some ⟨oc, od, .func fd, osl⟩) (hp : (fd.params.posonlyargs ++ fd.params.args).head? = some ar)
    (hco : X.env.code = .ref cda) (hcc : X.K.lookup cda = some ⟨ac0, ad0, .fields avs, as0⟩) (hvs : avs[2]? = some (.str fl tf)) (hfile : ((X.prog.main.file : Str) == fl) = true) (htop : (X.prog.main.scope.names.lookup ("super" : Str)).isSome = false) (hsu : X.mg "super" = none)
    (hi : X.N[i]? = some ar.arg) (hσ : σ[i]? = some (some (.ref a))) (hvis : X.env.kindOf ar.arg = some .local) (hcell : X.env.cells.lookup ("__class__" : Str) = some cc) (hck : X.K.lookup cc = some ⟨c0, d0, .cell (some (.ref C)), s0⟩) (ea : H a = some (exo a C none))
    (ha : PA X (e1 :: es1) ta) (q : ta σ H fun us H1 => us.length ≤ 1000 ∧ H1 a = some (exo a C none) ∧ Q H1)
    (he : starEach (e1 :: es1) X.env = (false, eval e1 X.env) :: starEach es1 X.env) (hpl : (backTo p4 (starEach es1 X.env)).any (·.1) = false) {pl : Sem Bool}
    (hmc : eval (.Call (.Attribute (.Call (.Name "super" p0) [] [] p1) "__init__" p2) (e1 :: es1) [] p4) X.env = (do
      let ov ← attributeBase (.Call (.Name "super" p0) [] [] p1) "__init__" X.env (eval (.Call (.Name "super" p0) [] [] p1) X.env)
      standAt p2.atName
      let (f, first) ← holding [ov] (getMethod ov "__init__" pl)
      callWith p4 f first (backTo p4 (starEach (e1 :: es1) X.env)) [])) :
    PySem.wpAt (model X.prog X.w) X.A (.func body X.env) (eval (.Call (.Attribute (.Call (.Name "super" p0) [] [] p1) "__init__" p2) (e1 :: es1) [] p4) X.env) (fun _ s' => ∃ H1, Inv X pins σ H1 s' ∧ Q H1) X.xe s := by
  have KI := I.kIn
  obtain ⟨nm, q0, N0, bs, bm, sn, sub, ab, col, dd, k0, k1, k2, k3, k5, hC, hbm⟩ := CC.ox.cls
  have hcl : PySem.W.clsIn X.K C = some { name := nm, bases := bs, mro := .ref C :: bm, ns := N0, qualname := q0, hasDict := true, slotNames := sn, subclasses := sub, abstract := ab, collection := col, hasDel := false } := by unfold PySem.W.clsIn; rw [hC] <;> rfl
  refine ks_wpAt_MethodCall ?_ hmc
  refine ks_wpAt_super_base hks hkc (by decide) hfu (KI _ _ hf) rfl hp hco (KI _ _ hcc) rfl hvs hfile htop ?_
  obtain ⟨mb, hb1, hb2⟩ := I.mod.blt
  refine PySem.W.ks_loadName_global I.ok.kind hks (Calls.loadGlobal_builtin (by rw [I.ok.glob]; exact I.mod.glob.keeps I.bk) hsu (by rw [I.ok.blt]; exact hb1.keeps I.bk) ((hb2 "super" (by decide)).trans (by first | rfl | kernel_rfl)) ⟨rfl, ?_⟩)
  refine wpAny_loadName_free I.ok.kind hkc hcell ⟨_, KI _ _ hck, rfl⟩ ?_
  obtain ⟨m, hn, hlk⟩ := I.loc
  obtain ⟨u, ru, lu⟩ := hlk i ar.arg _ hi hσ (.inl hvis)
  obtain rfl : u = Value.ref a := ru
  have hm : m ar.arg = some (.ref a) := by
    rcases lu with ⟨_, h⟩ | ⟨h, _⟩
    · exact h
    · rcases h with h | h <;> (rw [hvis] at h; cases h)
  refine wpAny_loadName_local I.ok.kind hvis hn hm ?_
  obtain ⟨t1, J0⟩ := exo_inst I.hok ea
  refine ks_wpAny_isType_cls (KI _ _ hC) rfl ⟨rfl, ?_⟩
  obtain ⟨hh, g, d, tk, os⟩ := s
  refine ks_wpAny_call_super (KI _ _ hC) rfl J0.at_ rfl (fun c e => nomatch e) (PySem.W.looks_mroIn KI CC.sub) (fun h' e k => ?_)
  have I1 : Inv X pins σ H ⟨h', g, d, tk, os⟩ := I.kept (t' := tk) k
  obtain ⟨t2, J1⟩ := exo_inst I1.hok ea
  have hB : PySem.W.Looks (model X.prog X.w) h' (isInstance (.ref a) (.type Bn)) true := J1.type.andThen (PySem.W.looks_subIn I1.kIn CC.subB)
  have hal : PySem.W.alongIn X.K "__init__" (((.ref C :: bm : List Value).dropWhile (· != .ref C)).drop 1) = some (some (.builtin initId)) := by
    have z := CC.sup
    unfold PySem.W.ks_superIn at z
    rw [hcl] at z
    exact z
  refine PySem.W.kxs_getMethod bx.KF e (PySem.W.looks_opaque I1.kIn CC.nop) (l₀ := .ref C :: bm) (fun A Q E s k q => wpAny_bind ((PySem.W.looks_clsIn I1.kIn hcl) A _ E s k (wpAny_pure q))) rfl I1.kIn hal hB (PySem.W.ks_ne I1.kIn J1 hcl) (by decide) ?_
  have hk2 : ∀ b o, h'.get? b = some o → (h'.push (PySem.W.kxs_mw initId a)).get? b = some o := fun b o e => Heap.get?_push_of_some _ e
  have I2 : Inv X pins σ H ⟨h'.push (PySem.W.kxs_mw initId a), g, d, tk + 1, os⟩ := I1.kept (t' := tk + 1) hk2
  have hu : (h'.push (PySem.W.kxs_mw initId a)).get? h'.objs.size = some (PySem.W.kxs_mw initId a) := Heap.get?_push_size _ rfl
  have I3 : Inv X ((h'.objs.size, PySem.W.kxs_mw initId a) :: pins) σ H ⟨h'.push (PySem.W.kxs_mw initId a), g, d, tk + 1, os⟩ :=
    pin_more I2 hu (I1.hok.fresh (Nat.le_refl _)) (Nat.ne_of_gt I1.lt) (I1.nofs (Nat.le_refl _)) (fun v e => nomatch e)
  rw [he]
  refine PySem.W.kxs_callWith (i := initId) (x := a) (by show (false || (backTo p4 (starEach es1 X.env)).any (·.1)) = false; rw [hpl]; rfl) ?_
  refine Calls.evalArgs_plain ?_
  have hrun := ha.run p4 _ _ σ H _ I3 q
  rw [he] at hrun
  refine wpAny_mono hrun (fun us s3 ⟨vs, H3, I4, r4, hz, e4, q4⟩ => ?_) fun _ _ z => z
  obtain ⟨hp4, _⟩ := I4.pin (h'.objs.size, PySem.W.kxs_mw initId a) (List.mem_append_right _ List.mem_cons_self)
  refine ⟨hp4, ?_⟩
  have hlen : us.length ≤ sizeLine := by
    rw [← Paired.length r4, sizeLine_eq]
    omega
  exact oinit_G bx CC.ox (unpin I4) e4 hp4 hlen fun s' J => ⟨H3, J, q4⟩
end
section
variable {Bn newId initId : String} {T : List Value} (bx : BaseX Bn newId initId T) {CX : CXT} {P : Program} {w : World} {K : PySem.W.Frag} {mg : Str → Option Value} {base : Heap} {k : Nat} {C : Addr}
include bx
/-- an own __init__ that first calls super().__init__(..) -/
theorem fn_sup {N ps : List Str} {name qual : Str} {params : Arguments} {body : List Stmt} {scope : Scope} {e1 : Expr} {es1 : List Expr} {rest : List Stmt} {dvs : List V} {f cc cda : Addr} {fl : Str} {fd : FuncData} {sp : Sp} {p0 p1 p2 p4 p5 : Pos} {ar : Arg}
    (D : SupD K C name qual params body scope dvs f cc cda fl fd) (CC : SupC Bn newId initId T K C) (hbd : body = .Expr (.Call (.Attribute (.Call (.Name "super" p0) [] [] p1) "__init__" p2) (e1 :: es1) [] p4) p5 :: rest)
    (hfile : (P.main.file == fl) = true) (htop : (P.main.scope.names.lookup ("super" : Str)).isSome = false) (hsu : mg "super" = none)
    (S : NdefX.NScope N ps ["__class__"] scope) (hks : scope.names.lookup ("super" : Str) = some .globalImplicit) (hp : (params.posonlyargs ++ params.args).head? = some ar) (hps : ps[0]? = some ar.arg)
    (len : ∀ vs H Q E, sp vs H Q E → vs.length = ps.length)
    (he : ∀ env, starEach (e1 :: es1) env = (false, eval e1 env) :: starEach es1 env) (hpl : ∀ env, (backTo p4 (starEach es1 env)).any (·.1) = false) {pl : Env → Sem Bool}
    (hmc : ∀ env, eval (.Call (.Attribute (.Call (.Name "super" p0) [] [] p1) "__init__" p2) (e1 :: es1) [] p4) env = (do
      let ov ← attributeBase (.Call (.Name "super" p0) [] [] p1) "__init__" env (eval (.Call (.Name "super" p0) [] [] p1) env)
      standAt p2.atName
      let (f, first) ← holding [ov] (getMethod ov "__init__" (pl env))
      callWith p4 f first (backTo p4 (starEach (e1 :: es1) env)) []))
    (hin : ∀ (L a c : Addr) (cl : List (Str × Addr)), interactive (PySem.W.envX qual scope L a (.ref c) cl) = false)
    (hbody : ∀ (A : Around) (outer : List Env) (s : Shared) (H : Hp) (vs : List V) (Q : VK) (E : XK), sp vs H Q E →
      ∃ (a : Addr) (ws : List V), vs = .ref a :: ws ∧ H a = some (exo a C none) ∧ ∃ ta t, PA (ncx CX P w K mg base N ⟨name, qual, params, body, scope, [("__class__", cc)], cda⟩ f A outer s H E) (e1 :: es1) ta ∧
        PSs (ncx CX P w K mg base N ⟨name, qual, params, body, scope, [("__class__", cc)], cda⟩ f A outer s H E) rest t ∧
        ta (startF N vs [some (.ref C)]) H fun us H1 => us.length ≤ 1000 ∧ H1 a = some (exo a C none) ∧ t { nx := fun _ H' => Q .non H', rt := Q } (startF N vs [some (.ref C)]) H1) : FnOk P w K mg base CX (k + 1) f fd ps sp := by
  refine ⟨len, fun A outer s H args us vs Q E hr e0 hb r hsp => ?_⟩
  obtain ⟨oc, od, dV, kV, doc, pm, an, ct, osl, rfl, lk, hd, hk⟩ := D.ex
  obtain ⟨cc0, cd0, cs0, ck⟩ := D.cell
  obtain ⟨ac0, ad0, avs, as0, tf, ak, av⟩ := D.code
  have hl := len _ _ _ _ hsp
  have KX : K.In s.heap := e0.mod.kin.keeps fun b o e => (e0.bs b o e).1
  have lim : s.heap.NoLimit := e0.mod.nolimit.keeps fun b o e => (e0.bs b o e).1
  have ckb := e0.mod.kin _ _ ck
  refine codeAny_call_function hr.depth (KX _ _ lk) rfl S.co S.gen rfl (PySem.W.codeRec_of KX D.cin) (hb _ _ _ _ ?_)
  refine wpAny_newFunctionEnv S.nocell (fun ⟨n, _⟩ hy => S.par n (List.of_mem_zip hy).1) (fun h₁ hns hsb => ⟨lim.fresh _ hsb, ?_⟩) S.kind
  have kp : ∀ b o, s.heap.get? b = some o → h₁.get? b = some o := fun b o e => hsb.extBut b o (Nat.ne_of_lt (Heap.lt_size e)) (Heap.get?_push_of_some _ e)
  obtain ⟨a, ws, rfl, ea, ta, t, hta, ht, hq⟩ := hbody A outer s H vs Q E hsp
  have Cl : CellsAt [("__class__", cc)] ["__class__"] [some (.ref C)] s.heap H := by
    refine ⟨rfl, fun y c e => ?_, fun x y c e1 e2 => ?_, fun i y e => ?_⟩
    · have e := PySem.mem_of_lookup e
      simp only [List.mem_singleton, Prod.mk.injEq] at e
      obtain ⟨rfl, rfl⟩ := e
      exact ⟨(e0.bs _ _ ckb).2, _, _, (e0.bs _ _ ckb).1, rfl⟩
    · have e1 := PySem.mem_of_lookup e1
      have e2 := PySem.mem_of_lookup e2
      simp only [List.mem_singleton, Prod.mk.injEq] at e1 e2
      rw [e1.1, e2.1]
    · cases i with
      | zero =>
        simp only [List.getElem?_cons_zero, Option.some.injEq] at e
        subst e
        exact ⟨cc, rfl, fun v hv => by
          simp only [List.getElem?_cons_zero, Option.some.injEq] at hv
          subst hv
          exact ⟨.ref C, rfl, _, (e0.bs _ _ ckb).1, rfl⟩⟩
      | succ i => simp at e
  have I : Inv (ncx CX P w K mg base N ⟨name, qual, params, body, scope, [("__class__", cc)], cda⟩ f A outer s H E) [] (startF N (.ref a :: ws) [some (.ref C)]) H { s with heap := h₁, toks := s.toks + (ps.zip us).length } := inv_startN S hr.hd e0 hl r Cl hns kp
  show codeAny _ _ (.func body (envF ⟨name, qual, params, body, scope, [("__class__", cc)], cda⟩ f s.heap.objs.size)) _ _
  refine ks_codeAny_funcAt ?_
  have go : PySem.wpAt (model P w) (A.deeper (envF ⟨name, qual, params, body, scope, [("__class__", cc)], cda⟩ f s.heap.objs.size)) (.func body (envF ⟨name, qual, params, body, scope, [("__class__", cc)], cda⟩ f s.heap.objs.size)) (execs body (envF ⟨name, qual, params, body, scope, [("__class__", cc)], cda⟩ f s.heap.objs.size))
      (SP (ncx CX P w K mg base N ⟨name, qual, params, body, scope, [("__class__", cc)], cda⟩ f A outer s H E) [] { nx := fun _ H' => Q .non H', rt := Q }) (ncx CX P w K mg base N ⟨name, qual, params, body, scope, [("__class__", cc)], cda⟩ f A outer s H E).xe { s with heap := h₁, toks := s.toks + (ps.zip us).length } := by
    have hX : ∃ B : List Stmt, B = body := ⟨_, rfl⟩
    obtain ⟨B, hB⟩ := hX
    rw [← hB] at hta ht I ⊢
    rw [show execs B (envF ⟨name, qual, params, B, scope, [("__class__", cc)], cda⟩ f s.heap.objs.size) = execs (.Expr (.Call (.Attribute (.Call (.Name "super" p0) [] [] p1) "__init__" p2) (e1 :: es1) [] p4) p5 :: rest) (envF ⟨name, qual, params, B, scope, [("__class__", cc)], cda⟩ f s.heap.objs.size) by rw [hB, hbd]]
    refine ks_wpAt_execs_cons (ks_wpAt_Expr_any ?_ (hin _ _ _ _) rfl)
    refine ks_wpAt_mono (sup_expr (X := ncx CX P w K mg base N ⟨name, qual, params, B, scope, [("__class__", cc)], cda⟩ f A outer s H E) (i := 0) bx CC I hks (S.frk _ List.mem_cons_self) rfl lk hp rfl ak av hfile htop hsu ?_ rfl ?_ rfl ck ea hta hq (he _) (hpl _) (hmc _)) (fun _ s' ⟨H1, J, q⟩ => ?_) fun _ _ z => z
    · have z := S.pre
      have hpl0 : 0 < ps.length := by
        cases ps with
        | nil => simp at hps
        | cons _ _ => simp
      have : (N.take (ps.length + 1))[0]? = some ar.arg := by
        rw [show ps.length + 1 = ps.length + (["__class__"] : List Str).length from rfl, z, List.getElem?_append_left hpl0]; exact hps
      rw [List.getElem?_take_of_lt (by omega)] at this
      exact this
    · exact S.par _ (List.mem_of_getElem? hps)
    · exact PySem.wpAt_of_wpAny (ht.run [] s' _ H1 _ J q)
  refine ks_wpAt_mono go (fun fl s' hs => ?_) fun e s' hs => hs
  have fin : ∀ {σ' : L2.St} {H' : Hp} {v : V} {u : Value}, Inv (ncx CX P w K mg base N ⟨name, qual, params, body, scope, [("__class__", cc)], cda⟩ f A outer s H E) [] σ' H' s' → L2.RelV v u → Q v H' → CE outer P w H s Q u s' :=
    fun {σ' H' v u} J rv q => ⟨v, H', J.os, J.bare, J.base, J.hok, rv, q⟩
  cases fl with
  | ret u =>
    obtain ⟨v, σ', H', J, rv, q⟩ := hs
    exact fin J rv q
  | next =>
    obtain ⟨σ', H', J, q⟩ := hs
    exact fin (v := V.non) (u := Value.none) J rfl q
  | brk =>
    obtain ⟨_, _, _, q⟩ := hs
    exact False.elim q
  | cont =>
    obtain ⟨_, _, _, q⟩ := hs
    exact False.elim q
end
end My
/-! ### errors with fields: made, caught, kept -/
namespace My
open PySem PySem.Spec PyProof.Rows L2 NdefX
/-! #### what the top has written of them -/
def oexB (x : Str) (newId : String) (T : List Value) : PySem.W.Frag → Bool := fun K =>
  (match K.lookup (He.ga K x) with
    | some ⟨.type "type", _, .cls cd, sl⟩ => (match cd.mro, sl.toList with
      | .ref C' :: bm, [_, _, _, _, some (.builtin n), _] => C' == He.ga K x && (n == newId && (!cd.hasDel && (cd.hasDict && refsT T bm)))
      | _, _ => false)
    | _ => false) && (He.eqO (PySem.W.findIn K (.ref (He.ga K x)) "__setattr__") (some (some (.builtin "object.__setattr__"))) && (decide (PySem.W.subIn K (.ref (He.ga K x)) (.type "BaseException") = some true) && (decide (PySem.W.typeIn K (.ref (He.ga K x)) = some (.type "type")) && PySem.W.keepIn K (.ref (He.ga K x)))))
theorem oex_ok {x : Str} {newId : String} {T : List Value} {K : PySem.W.Frag} (c : oexB x newId T K = true) : OexG newId T K (He.ga K x) := by
  obtain ⟨c1, c⟩ := He.ba c
  obtain ⟨c2, c⟩ := He.ba c
  obtain ⟨c3, c⟩ := He.ba c
  obtain ⟨c4, c5⟩ := He.ba c
  refine ⟨?_, He.eqO_ok c2, of_decide_eq_true c3, of_decide_eq_true c4, c5⟩
  split at c1
  · rename_i dd cd sl ho
    split at c1
    · rename_i C' bm k0 k1 k2 k3 n k5 hm hs
      simp only [Bool.and_eq_true, beq_iff_eq, Bool.not_eq_true'] at c1
      obtain ⟨rfl, rfl, hdel, hdict, ht⟩ := c1
      obtain ⟨nm, bs, mro, ns, qn, hd, sn, sub, ab, col, del⟩ := cd
      dsimp only at hm hdel hdict
      subst hm hdel hdict
      have hsl : sl = #[k0, k1, k2, k3, some (.builtin n), k5] := by
        obtain ⟨l⟩ := sl
        simp only at hs
        rw [hs]
      subst hsl
      exact ⟨nm, qn, ns, bs, bm, sn, sub, ab, col, dd, k0, k1, k2, k3, k5, ho, ht⟩
    · cases c1
  · cases c1
def supCB (x : Str) (Bn newId initId : String) (T : List Value) : PySem.W.Frag → Bool := fun K => oexB x newId T K && (decide (PySem.W.subIn K (.ref (He.ga K x)) (.type Bn) = some true) && (He.eqO (PySem.W.ks_superIn K (He.ga K x) (He.ga K x) "__init__") (some (some (.builtin initId))) && (He.eqO (PySem.W.nsIn K cStatics "thirdparty.any") (some none) && decide (PySem.W.mroIn K (He.ga K x) (.ref (He.ga K x)) = some true))))
theorem supC_ok {x : Str} {Bn newId initId : String} {T : List Value} {K : PySem.W.Frag} (c : supCB x Bn newId initId T K = true) : SupC Bn newId initId T K (He.ga K x) := by
  obtain ⟨c1, c⟩ := He.ba c
  obtain ⟨c2, c⟩ := He.ba c
  obtain ⟨c3, c⟩ := He.ba c
  obtain ⟨c4, c5⟩ := He.ba c
  exact ⟨oex_ok c1, of_decide_eq_true c2, He.eqO_ok c3, He.eqO_ok c4, of_decide_eq_true c5⟩
/-- where its __init__ stands -/
structure SupI (K : PySem.W.Frag) (C : Addr) : Prop where
  it : PySem.W.findIn K (.ref C) "__init__" = some (some (.ref (He.ma K C "__init__")))
  ty : PySem.W.typeIn K (.ref (He.ma K C "__init__")) = some (.type "function")
def supIB (x : Str) : PySem.W.Frag → Bool := fun K => He.eqO (PySem.W.findIn K (.ref (He.ga K x)) "__init__") (some (some (.ref (He.ma K (He.ga K x) "__init__")))) && decide (PySem.W.typeIn K (.ref (He.ma K (He.ga K x) "__init__")) = some (.type "function"))
theorem supI_ok {x : Str} {K : PySem.W.Frag} (c : supIB x K = true) : SupI K (He.ga K x) := by
  obtain ⟨c1, c2⟩ := He.ba c
  exact ⟨He.eqO_ok c1, of_decide_eq_true c2⟩
def xfNB (x f : Str) : PySem.W.Frag → Bool := fun K => xfB K (He.ga K x) && He.eqO (PySem.W.findIn K (.ref (He.ga K x)) f) (some none)
/-- a field of its own, which the class doesn't have -/
structure XfN (K : PySem.W.Frag) (C : Addr) (f : Str) : Prop where
  c : XfC K C
  no : PySem.W.findIn K (.ref C) f = some none
theorem xfN_ok {x f : Str} {K : PySem.W.Frag} (c : xfNB x f K = true) : XfN K (He.ga K x) f := by
  obtain ⟨c1, c2⟩ := He.ba c
  exact ⟨xfB_ok c1, He.eqO_ok c2⟩
abbrev SupW : Type := Option (Str × Str × Arguments × FuncBody × Scope × Addr × List Str × Addr)
def supW (K : PySem.W.Frag) (p : Str × Option Str) : SupW := match K.lookup (He.fAd K p) with
  | some ⟨_, _, .func fd, _⟩ => some (fd.name, fd.qualname, fd.params, fd.body, fd.scope, fd.globals, fd.closure.map (·.1), fd.builtins)
  | _ => none
def supVal (d : He.DefD) : SupW := some (d.name, d.qual, d.params, .stmts d.body, d.scope, mainGlobals, ["__class__"], builtinsNs)
def supDB (x : Str) (d : He.DefD) (file : Str) : PySem.W.Frag → Bool := fun K => PySem.W.keepIn K (.ref (He.fAd K d.at_)) && (match K.lookup (He.fAd K d.at_) with
  | some ⟨_, _, .func fd, _⟩ => PySem.W.codeIn K fd.code d.qual && (He.dflB K fd.defaults (d.dvs K) && (He.kwdB K fd.kwdefaults [] && ((match fd.closure with
    | [(_, cc)] => (match K.lookup cc with
      | some ⟨_, _, .cell (some (.ref C)), _⟩ => C == He.ga K x
      | _ => false)
    | _ => false) && (match fd.code with
    | .ref cda => (match K.lookup cda with
      | some ⟨_, _, .fields vs, _⟩ => (match (vs[2]? : Option Value) with
        | some (.str fl _) => fl == file
        | _ => false)
      | _ => false)
    | _ => false))))
  | _ => false)
theorem supD_ok {x : Str} {d : He.DefD} {file : Str} {K : PySem.W.Frag} (e : supW K d.at_ = supVal d) (c : supDB x d file K = true) : ∃ fd cc cda, SupD K (He.ga K x) d.name d.qual d.params d.body d.scope (d.dvs K) (He.fAd K d.at_) cc cda file fd := by
  obtain ⟨kp, c2⟩ := He.ba c
  unfold supW at e
  cases q : K.lookup (He.fAd K d.at_) with
  | none =>
    rw [q] at c2
    cases c2
  | some o =>
    obtain ⟨oc, od, dt, osl⟩ := o
    rw [q] at c2 e
    cases dt with
    | func fd =>
      obtain ⟨n1, n2, n3, n4, n5, n6, n7, n8, n9, n10, n11, n12, n13, n14, n15⟩ := fd
      have e2 : (some (n1, n2, n3, n4, n5, n6, n7.map (·.1), n15) : SupW) = (some (d.name, d.qual, d.params, FuncBody.stmts d.body, d.scope, mainGlobals, [("__class__" : Str)], builtinsNs) : SupW) := e
      simp only [Option.some.injEq, Prod.mk.injEq] at e2
      obtain ⟨h1, h2, h3, h4, h5, h6, h7, h8⟩ := e2
      subst h1 h2 h3 h4 h5 h6 h8
      obtain ⟨k1, c3⟩ := He.ba c2
      obtain ⟨k2, c4⟩ := He.ba c3
      obtain ⟨k3, c5⟩ := He.ba c4
      obtain ⟨k4, k5⟩ := He.ba c5
      clear c2 c3 c4 c5 e
      dsimp only at k1 k2 k3 k4 k5
      split at k4
      · rename_i n0 cc
        have e7 : n0 = ("__class__" : Str) := by simpa using h7
        subst e7
        split at k4
        · rename_i c0 d0 C s0 hcc
          have eC : C = He.ga K x := beq_iff_eq.mp k4
          subst eC
          split at k5
          · rename_i cda
            split at k5
            · rename_i a0 b0 vs s1 hcd
              split at k5
              · rename_i fl tf hvs
                have ef : fl = file := beq_iff_eq.mp k5
                subst ef
                exact ⟨_, cc, cda, ⟨oc, od, n8, n9, n10, n11, n12, n14, osl, rfl, q, He.dflB_ok k2, He.kwdB_ok k3⟩, ⟨_, _, _, hcc⟩, ⟨_, _, _, _, tf, hcd, hvs⟩, k1, kp⟩
              · cases k5
            · cases k5
          · cases k5
        · cases k4
      · cases k4
    | _ => cases c2
/-! #### the head with such __init__ -/
def obsS (n : Nat) (fa : List He.Fa) (fn : List He.DefD) (ex : List (PySem.W.Frag → Bool)) (sp : List He.DefD) (g : Addr → Option Obj) : (He.AlD × Bool) × List SupW :=
  let K := He.frG g (He.asD g n ++ [cStatics])
  ((He.obsD fa fn K, ex.all fun f => f K), sp.map fun d => supW K d.at_)
def hookS (n : Nat) (fa : List He.Fa) (fn : List He.DefD) (ex : List (PySem.W.Frag → Bool)) (sp : List He.DefD) : PySem.W.Hook where
  α := (He.AlD × Bool) × List SupW
  obs := fun s => obsS n fa fn ex sp s.heap.get?
  val := fun _ => ((He.valD fn, true), sp.map supVal)
  says := fun _ h => ∃ K : PySem.W.Frag, K.In h ∧ He.SaysD fa fn K ∧ (ex.all fun f => f K) = true ∧ sp.map (fun d => supW K d.at_) = sp.map supVal
  of := fun _ _ e => ⟨_, He.frG_in, congrArg (fun z : (He.AlD × Bool) × List SupW => z.1.1) e, congrArg (fun z : (He.AlD × Bool) × List SupW => z.1.2) e, congrArg (fun z : (He.AlD × Bool) × List SupW => z.2) e⟩
  keeps := fun _ _ _ ⟨K, hK, c⟩ k => ⟨K, PySem.W.Frag.In.keeps hK k, c⟩
theorem obsS_eq {n : Nat} {fa : List He.Fa} {fn : List He.DefD} {ex : List (PySem.W.Frag → Bool)} {sp : List He.DefD} {g : Addr → Option Obj} {s : Shared} (h : ∀ a, g a = s.heap.get? a) : obsS n fa fn ex sp g = (hookS n fa fn ex sp).obs s := by
  have e : g = s.heap.get? := funext h
  rw [e] <;> rfl
theorem sup_at {K : PySem.W.Frag} {sp : List He.DefD} (c : sp.map (fun d => supW K d.at_) = sp.map supVal) (i : Nat) {d : He.DefD} (h : sp[i]? = some d) : supW K d.at_ = supVal d := by
  have e2 : (sp.map fun d => supW K d.at_)[i]? = (sp.map supVal)[i]? := by rw [c]
  rw [List.getElem?_map, List.getElem?_map, h] at e2
  exact Option.some.inj e2
theorem SupD.bindsA {K : PySem.W.Frag} {C : Addr} {name qual : Str} {params : Arguments} {body : List Stmt} {scope : Scope} {f cc cda : Addr} {fl : Str} {fd : FuncData} {ps : List Str} (D : SupD K C name qual params body scope [] f cc cda fl fd)
    (h : ∀ (kV doc pm : Value) (an : Option Addr) (ct : Value) (us : List Value), us.length = ps.length → bindArgs (PySem.W.fnX name qual params body scope [("__class__", cc)] .none kV doc pm an (.ref cda) ct) ⟨us, []⟩ = pure (ps.zip us)) : Binds K fd ps [] := by
  obtain ⟨oc, od, dV, kV, doc, pm, an, ct, osl, rfl, lk, hD, hK⟩ := D.ex
  rcases hD with ⟨_, rfl⟩ | ⟨e, _⟩
  · exact .all (h kV doc pm an ct)
  · exact absurd rfl e
/-! #### self.f = e -/
def tOstG (newId : String) (T : List Value) (K : PySem.W.Frag) (f : Str) (to te : TE) : TS := fun D σ H => te σ H fun y H1 => to σ H1 fun x H2 => ∃ a C : Addr, x = .ref a ∧ OexG newId T K C ∧ PySem.W.findIn K (.ref C) f = some none ∧
  ((H2 a = some (exo a C none) ∧ ∀ dx, H2 dx = none → dx ≠ a → D.nx σ (upd (upd H2 dx (exd dx [(f, y)])) a (exo a C (some dx)))) ∨
    ∃ (dx : Addr) (fs : List (Str × V)), H2 a = some (exo a C (some dx)) ∧ H2 dx = some (exd dx fs) ∧ fs.length ≤ 900 ∧ D.nx σ (upd H2 dx (exd dx ((f, y) :: fs))))
theorem ps_ostG {Bn newId initId : String} {T : List Value} (bx : BaseX Bn newId initId T) {X : Cx} {o e : Expr} {to te : TE} {f : Str} {p' pos : Pos} (ho : PE X o to) (he : PE X e te) (hs : swapsWith e (some (.Attribute o f p')) pos.line X.env = pure false := by rfl) : PS X (.Assign [.Attribute o f p'] e pos) (tOstG newId T X.K f to te) := by
  refine ⟨fun pins s σ H D I h => ?_⟩
  refine plainObj_wpAny_Assign_Attribute (thn (he.run pins s σ H _ I h) fun v s1 ⟨y, H1, I1, r1, q1⟩ => thn (ho.run pins s1 σ H1 _ I1 q1) fun u s2 ⟨x, H2, I2, r2, a, C, ex, T', hno, q⟩ => ?_) hs
  subst ex
  obtain rfl : u = Value.ref a := r2
  rcases q with ⟨ea, q⟩ | ⟨dx, fs, ea, ed, hl, q⟩
  · exact ost_newG bx T' I2 ea hno r1 fun dx s' n ne J => ⟨σ, _, J, q dx n ne⟩
  · exact ost_oldG bx T' I2 ea ed hl hno r1 fun s' J => ⟨σ, _, J, q⟩
/-! #### C(e, ..) -/
theorem pmk_oexG {Bn newId initId : String} {T : List Value} (bx : BaseX Bn newId initId T) {X : Cx} {e : Expr} {es : List Expr} {ta : TA} {p pos : Pos} {CX : CXT} {x : Str} {C fI : Addr} {k : Nat} {fd : FuncData} {ps : List Str} {sp : Sp} {ds : List Value} {dvs : List V} (T' : OexG newId T X.K C) (iC : PySem.W.findIn X.K (.ref C) "__init__" = some (some (.ref fI))) (tI : PySem.W.typeIn X.K (.ref fI) = some (.type "function"))
    (F1 : FnOk X.prog X.w X.K X.mg X.base CX k fI fd ps sp) (hr : Room (k + 1) X.A) (hb : Binds X.K fd ps ds) (hd : Vals dvs ds) (hx : Passes CX X (fun _ _ _ => False)) (hg : Gl X x) (hm : X.mg x = some (.ref C)) (ha : PA X (e :: es) ta)
    {tq : List V → Hp → XK → Prop} (himp : ∀ vs H1 Q, tq vs H1 Q → vs.length ≤ 1000 ∧ ∀ a, H1 a = none → sp (.ref a :: (vs ++ dvs)) (upd H1 a (exo a C none))
      (fun v H2 => v = .non ∧ ∃ (d : Addr) (fs : List (Str × V)), H2 a = some (exo a C (some d)) ∧ H2 d = some (exd d fs) ∧ H1 d = none ∧ Q (.ref C) (some d) (upd (del H2 a) d (.xd fs))) (fun _ _ _ => False))
    (hdb : (x == ("__debug__" : Str)) = false := by decide) (he : starEach (e :: es) X.env = (false, eval e X.env) :: starEach es X.env := by rfl) (hpl : (backTo pos (starEach es X.env)).any (·.1) = false := by rfl) :
    PMk X (.Call (.Name x p) (e :: es) [] pos) (fun σ H Q => ta σ H fun vs H1 => tq vs H1 Q) := by
  intro pins s σ H Q I h
  obtain ⟨nm, q, N, bs, bm, sn, sub, ab, col, dd, k0, k1, k2, k3, k5, hC, hbm⟩ := T'.cls
  refine wpAny_Call_Name_kw (ld_glob I hg hm ?_ hdb)
  refine PySem.W.callWith_K (h₀ := X.base) I.ok.mod.kin T'.kC (thn (ha.run pos pins s σ H _ I h) fun us s1 ⟨vs, H1, I1, r1, q0⟩ => ⟨I1.kIn, ?_⟩) he hpl
  show wpAny _ _ (call (.ref C) us) _ _ _
  obtain ⟨hp, g, dr, tk, os⟩ := s1
  obtain ⟨hz, q1⟩ := himp _ _ _ q0
  have hsz : hp.objs.size ≤ hp.objs.size + 1 := Nat.le_succ _
  have hn : H1 (hp.objs.size + 1) = none := I1.hok.fresh hsz
  have hq := q1 (hp.objs.size + 1) hn
  have kk : ∀ b o, hp.get? b = some o → ((hp.push (PySem.W.kdv_tup us)).push (PySem.HandSPX.excO C hp.objs.size)).get? b = some o := fun b o e => Heap.get?_push_of_some _ (Heap.get?_push_of_some _ e)
  have hget : ((hp.push (PySem.W.kdv_tup us)).push (PySem.HandSPX.excO C hp.objs.size)).get? (hp.objs.size + 1) = some (PySem.HandSPX.excO C hp.objs.size) := by heap_get
  have I2 : Inv X pins σ (upd H1 (hp.objs.size + 1) (exo (hp.objs.size + 1) C none)) ⟨(hp.push (PySem.W.kdv_tup us)).push (PySem.HandSPX.excO C hp.objs.size), g, dr, tk, os⟩ :=
    I1.laid (t' := tk) (a := hp.objs.size + 1) (o := exo (hp.objs.size + 1) C none) (h' := (hp.push (PySem.W.kdv_tup us)).push (PySem.HandSPX.excO C hp.objs.size)) kk hsz (exo_ok hget)
  have r2 : Vals (V.ref (hp.objs.size + 1) :: (vs ++ dvs)) (Value.ref (hp.objs.size + 1) :: (us ++ ds)) := .cons rfl (r1.append hd)
  have hl : (Value.ref (hp.objs.size + 1) :: us ++ ds).length = ps.length := by
    have e := r2.length
    rw [F1.len _ _ _ _ hq] at e
    exact e.symm
  have hus : us.length ≤ sizeLine := by
    rw [← Paired.length r1, sizeLine_eq]
    omega
  refine wpAny_call (PySem.HandSPX.call_own bx.F (fun Y => bx.contains Y bm hbm) (I1.kIn _ _ hC) (PySem.W.looks_findIn I1.kIn iC) (fun self => PySem.W.bind_fn I1.kIn self tI) hus
    (codeAny_mono (F1.run _ X.stack _ _ ⟨Value.ref (hp.objs.size + 1) :: us, []⟩ (Value.ref (hp.objs.size + 1) :: (us ++ ds)) _ _ (fun _ _ _ => False) (hr.make C us []) (I2.env0.make C us []) (hb _ (Value.ref (hp.objs.size + 1) :: us) I2.kIn hl) r2 hq) fun r s' hq' => ?_))
  cases r with
  | error er => exact hx pins σ _ _ er s' I2 hq'
  | ok fl =>
    cases fl with
    | ret u =>
      obtain ⟨v, H2, os2, bare2, un2, hok2, rv, ev, d, fs, ea, ed, hd1, q2⟩ := hq'
      subst ev
      obtain ⟨h2, g2, d2, t2, os'⟩ := s'
      exact ⟨rv, mk_end (raises_own T'.exC T'.tyC) I1 hsz kk un2 hok2 os2 bare2 ea ed hd1 q2⟩
    | next => exact False.elim hq'
    | brk => exact False.elim hq'
    | cont => exact False.elim hq'
/-- the promise of an __init__ that sets one field -/
def sp_err1 (C : Addr) (f : Str) : Sp := fun vs H Q _ => ∃ (a : Addr) (y : V), vs = [.ref a, y] ∧ H a = some (exo a C none) ∧ ∀ dx, H dx = none → dx ≠ a → Q .non (upd (upd H dx (exd dx [(f, y)])) a (exo a C (some dx)))
def tErr1 (C : Addr) (f : Str) (ta : TA) : L2.St → Hp → XK → Prop := fun σ H Q => ta σ H fun vs H1 => ∃ y, vs = [y] ∧ ∀ dx, H1 dx = none → Q (.ref C) (some dx) (upd H1 dx (.xd [(f, y)]))
theorem upd_err {H : Hp} {a dx C : Addr} {fs : List (Str × V)} {o : HO} (ha : H a = none) (hd : upd H a o dx = none) (hne : dx ≠ a) : H dx = none ∧ upd (del (upd (upd (upd H a o) dx (exd dx fs)) a (exo a C (some dx))) a) dx (.xd fs) = upd H dx (.xd fs) := by
  rw [upd_ne hne] at hd
  refine ⟨hd, funext fun b => ?_⟩
  by_cases h1 : b = dx
  · rw [h1, upd_same, upd_same]
  · rw [upd_ne h1, upd_ne h1]
    by_cases h2 : b = a
    · rw [h2, del_same, ha]
    · rw [del_ne h2, upd_ne h2, upd_ne h1, upd_ne h2]
section
variable {Bn newId initId : String} {T : List Value} {X : Cx} {e : Expr} {es : List Expr} {ta : TA} {p pos : Pos} {CX : CXT} {x : Str} {C fI : Addr} {k : Nat} {fd : FuncData} {ps : List Str} {ds : List Value} {dvs : List V} {f g : Str}
theorem pmk_err1 (bx : BaseX Bn newId initId T) (T' : OexG newId T X.K C) (iC : PySem.W.findIn X.K (.ref C) "__init__" = some (some (.ref fI))) (tI : PySem.W.typeIn X.K (.ref fI) = some (.type "function"))
    (F1 : FnOk X.prog X.w X.K X.mg X.base CX0 k fI fd ps (sp_err1 C f)) (hr : Room (k + 1) X.A) (hb : Binds X.K fd ps []) (hg : Gl X x) (hm : X.mg x = some (.ref C)) (ha : PA X (e :: es) ta)
    (hdb : (x == ("__debug__" : Str)) = false := by decide) (he : starEach (e :: es) X.env = (false, eval e X.env) :: starEach es X.env := by rfl) (hpl : (backTo pos (starEach es X.env)).any (·.1) = false := by rfl) :
    PMk X (.Call (.Name x p) (e :: es) [] pos) (tErr1 C f ta) := by
  refine pmk_oexG bx T' iC tI F1 hr hb .nil pass0 hg hm ha (fun vs H1 Q ⟨y, ev, q⟩ => ?_) hdb he hpl
  subst ev
  refine ⟨Nat.le_of_ble_eq_true rfl, fun a na => ⟨a, y, rfl, upd_same, fun dx hdx hne => ⟨rfl, dx, _, upd_same, (upd_ne hne).trans upd_same, (upd_err (C := C) (fs := [(f, y)]) na hdx hne).1, ?_⟩⟩⟩
  rw [(upd_err (C := C) (fs := [(f, y)]) na hdx hne).2]
  exact q dx (upd_err (C := C) (fs := [(f, y)]) na hdx hne).1
end
/-! #### an error that was caught and is kept -/
/-- at a: an error of the class cls, its dict d -/
def errO (cls : Value) (d : Option Addr) (a : Addr) : HO := .ext fun h => ∃ (oe : Obj) (vs : Array Value), h.get? a = some oe ∧ Zc cls d oe ∧ oe.data = .fields vs
theorem errO_ok {P : Program} {w : World} {H : Hp} {h : Heap} {a : Addr} {cls : Value} {d : Option Addr} {oe : Obj} {vs : Array Value} (e : h.get? a = some oe) (z : Zc cls d oe) (hd : oe.data = .fields vs) : ObjOk P w H h a (errO cls d a) :=
  ⟨⟨oe, vs, e, z, hd⟩, ⟨oe, e⟩, fun _ _ ⟨o, v, q, r⟩ k => ⟨o, v, k o q, r⟩⟩
theorem errO_at {P : Program} {w : World} {H : Hp} {h : Heap} {a : Addr} {cls : Value} {d : Option Addr} (hok : HOk P w H h) (he : H a = some (errO cls d a)) : ∃ (oe : Obj) (vs : Array Value), h.get? a = some oe ∧ Zc cls d oe ∧ oe.data = .fields vs := by
  obtain ⟨z, _, _⟩ := hok a _ he
  exact z
theorem Inv.err {X : Cx} {pins : List (Addr × Obj)} {σ τ : L2.St} {H G : Hp} {s sJ : Shared} {q : Addr} {cls : Value} {d : Option Addr} {oe : Obj} {vs : Array Value} (I : Inv X pins σ H s) (J : Inv X pins τ G sJ) (hx : X.ex = []) (nq : G q = none) (nJ : sJ.heap.get? q = none)
    (hq : s.heap.get? q = some oe) (z : Zc cls d oe) (hd : oe.data = .fields vs) (nH : H q = none) : Inv X pins σ (upd H q (errO cls d q)) s := by
  have neJ : ∀ {b : Addr} {o : Obj}, sJ.heap.get? b = some o → b ≠ q := fun {b o} e z => by
    rw [z, nJ] at e; cases e
  have neG : ∀ {b : Addr} {o : HO}, G b = some o → b ≠ q := fun {b o} e z => by
    rw [z, nq] at e; cases e
  refine ⟨I.ok, I.os, I.bare, ⟨I.base.keep, I.base.slot, fun b o e n hb => ?_, I.base.there, fun b xs e => ?_, fun b o u e => ?_, fun b ps e => ?_⟩, I.loc, I.cell, ?_, fun y c e => ?_, fun p hp => ?_, ?_, I.len⟩
  · obtain ⟨o', e'⟩ := J.base.there b o e (by rw [hx]; exact fun z => nomatch z)
    rw [upd_ne (neJ e')]
    exact I.base.free b o e n hb
  · rw [upd_ne (neG (J.base.tups b xs e))]
    exact I.base.tups b xs e
  · rw [upd_ne (neG (J.base.frzs b o u e))]
    exact I.base.frzs b o u e
  · obtain ⟨m, e'⟩ := J.base.tbls b ps e
    obtain ⟨m2, e2⟩ := I.base.tbls b ps e
    exact ⟨m2, by rw [upd_ne (neG e')]; exact e2⟩
  · obtain ⟨m, ⟨o, es, ep, ho, _⟩, _⟩ := J.loc
    rw [upd_ne (neJ ho)]
    exact I.free
  · obtain ⟨v, o, ho, _⟩ := J.cell y c e
    rw [upd_ne (neJ ho)]
    exact I.freeC y c e
  · obtain ⟨e, n, r⟩ := I.pin p hp
    exact ⟨e, by rw [upd_ne (neJ (J.pin p hp).1)]; exact n, r⟩
  · exact I.hok.laidN (fun _ _ e => e) nH (errO_ok hq z hd)
/-- behind a suite: the name is gone, the error is known -/
def endsK (i : Nat) (q : Addr) (cls : Value) (d : Option Addr) (D : Ends) : Ends where
  nx := fun τ G => G q = none → D.nx (τ.set i none) (upd G q (errO cls d q))
  rt := fun v G => G q = none → D.rt v (upd G q (errO cls d q))
  bk := fun τ G => G q = none → D.bk (τ.set i none) (upd G q (errO cls d q))
  ct := fun τ G => G q = none → D.ct (τ.set i none) (upd G q (errO cls d q))
def wK (K : PySem.W.Frag) (i : Nat) (D : Ends) : List (Bool × Value × (Addr → Value → Option Addr → TS)) → WX
  | [] => fun _ _ _ _ => False
  | (true, c, ts) :: r => fun cls d τ G => ∃ b, PySem.W.exmOne K cls c = some b ∧ (b = true → ∀ q, G q = none → ts q cls d (endsK i q cls d D) (τ.set i (some (.ref q))) G) ∧ (b = false → wK K i D r cls d τ G)
  | (false, c, ts) :: r => fun cls d τ G => ∃ b, PySem.W.exmOne K cls c = some b ∧ (b = true → ∀ q, G q = none → ts q cls d D τ G) ∧ (b = false → wK K i D r cls d τ G)
/-- clauses, with the error's name or without -/
inductive KClauses (X : Cx) (n : Str) : List ExceptHandler → List (Bool × Value × (Addr → Value → Option Addr → TS)) → Prop
  | none : KClauses X n [] []
  | named {x : Str} {c : Value} {ts : Addr → Value → Option Addr → TS} {b : Stmt} {bs : List Stmt} {px ph : Pos} {hs : List ExceptHandler} {l : List (Bool × Value × (Addr → Value → Option Addr → TS))} (nm : Names X x c)
      (su : ∀ (q : Addr) (oq : Obj) (cls : Value) (d : Option Addr) (pn : List (Addr × Obj)), Zc cls d oq → (∃ vs, oq.data = .fields vs) → PSs (X.suite q ((q, oq) :: pn)) (b :: bs) (ts q cls d)) (r : KClauses X n hs l) :
      KClauses X n (.ExceptHandler (some (.Name x px)) (some n) (b :: bs) ph :: hs) ((true, c, ts) :: l)
  | bare {x : Str} {c : Value} {ts : Addr → Value → Option Addr → TS} {b : Stmt} {bs : List Stmt} {px ph : Pos} {hs : List ExceptHandler} {l : List (Bool × Value × (Addr → Value → Option Addr → TS))} (nm : Names X x c)
      (su : ∀ (q : Addr) (oq : Obj) (cls : Value) (d : Option Addr) (pn : List (Addr × Obj)), Zc cls d oq → (∃ vs, oq.data = .fields vs) → PSs (X.suite q ((q, oq) :: pn)) (b :: bs) (ts q cls d)) (r : KClauses X n hs l) :
      KClauses X n (.ExceptHandler (some (.Name x px)) Option.none (b :: bs) ph :: hs) ((false, c, ts) :: l)
theorem ps_tryK {X : Cx} {n : Str} {i : Nat} {body : List Stmt} {h0 : ExceptHandler} {hs : List ExceptHandler} {l : List (Bool × Value × (Addr → Value → Option Addr → TS))} {pos : Pos} {tb : WX → TS}
    (stk : X.stack = X.env :: X.outer) (frm : X.env.frame = some X.env.locals) (nd : X.N.Nodup) (at_ : X.N[i]? = some n) (loc : X.env.kindOf n = some .local) (hex : X.ex = [])
    (bd : ∀ (W : WX) (pn : List (Addr × Obj)) (xe : Value → Shared → Prop), Takes (X.tr pn xe) W → PassesOwn (model X.prog X.w) X.A X.env xe → PSs (X.tr pn xe) body (tb W)) (cl : KClauses X n (h0 :: hs) l) :
    PS X (.Try body (h0 :: hs) [] [] pos) (fun D σ H => tb (wK X.K i D l) D σ H) := by
  refine ⟨fun pz s σ H D I hw => ?_⟩
  have okX := I.ok
  have frs_ : X.A.frames = some (X.env :: X.outer) := by rw [okX.frames, stk]
  have lc : Loc X.env.scope n := .inl loc
  refine wpAny_Try_except (wpAny_mono ((bd (wK X.K i D l) (X.pn ++ pz) (fun e z => wpAny (model X.prog X.w) X.A (noteFrame e X.env) (fun _ z2 => wpAny (model X.prog X.w) X.A (setFlight e none)
    (fun _ z3 => wpAny (model X.prog X.w) X.A (handleBy e X.env (h0 :: hs)) (SP X pz D) X.xe z3) X.xe z2) X.xe z) (fun u z xx => ?_) PassesOwn.looking).run [] s σ H D (I.toTry _) hw) (fun fl z q => ?_) fun _ _ z => z)
  · obtain ⟨q, G0, sJ, pz', τ, G, cls, d, rfl, J', nb, up, sky, nq, os, ag, w⟩ := xx
    have J : Inv X pz τ G sJ := J'.ofTry okX
    have sk2 : Sky G0 (X.env :: X.outer) q (Zc cls d) X.env.locals z.heap := stk ▸ sky
    refine Sky.land Zc.steady frs_ frm sk2 fun g3 f3 u3 => ?_
    have J3 : Inv X pz τ G { z with heap := g3 } := J.landed nb f3.1 (up.trans u3) os ag
    obtain ⟨o3, v3, e3, z3, d3⟩ := f3.there
    have out : q ∉ frs (X.env :: X.outer) := fun hm => by
      obtain ⟨_, o', e', no⟩ := f3.2.2.1.mem hm
      rw [e3] at e'; cases e'; exact no _ d3
    have nJ : sJ.heap.get? q = none := by
      cases e : sJ.heap.get? q with
      | none => rfl
      | some o =>
        have y := nb q o e (by rw [stk]; exact out)
        rw [f3.2.1] at y
        cases y
    have nL : q ≠ X.env.locals := fun e => out (List.mem_filterMap.mpr ⟨X.env, List.mem_cons_self, by rw [frm, e]⟩)
    have nF : q ∉ X.fs := fun hm => by
      obtain ⟨e, he, e2⟩ := List.mem_filterMap.mp hm; exact out (List.mem_filterMap.mpr ⟨e, List.mem_cons_of_mem _ he, e2⟩)
    have S3 := J3.suite e3 d3 nq nL nF
    have LT : PySem.W.Looks (model X.prog X.w) g3 (typeOf (.ref q)) cls := fun _ _ _ _ k r => wpAny_typeOf_ref (k _ _ e3) (by rw [z3.1]; exact r)
    have go : ∀ {hs2 : List ExceptHandler} {l2 : List (Bool × Value × (Addr → Value → Option Addr → TS))}, KClauses X n hs2 l2 → wK X.K i D l2 cls d τ G → wpAny (model X.prog X.w) X.A (handleBy (.ref q) X.env hs2) (SP X pz D) X.xe { z with heap := g3 } := by
      intro hs2 l2 ck
      induction ck with
      | none => exact fun w => w.elim
      | @named x c ts b bs px ph hs3 l3 nm su r ih =>
        rintro ⟨ans, ea, yes, no⟩
        refine wpAny_handleBy_cons (codeAny_handlers_test ?_) (fun k => nomatch k)
        have LM := PySem.W.exm_one (M := model X.prog X.w) J3.kIn LT ea
        have nameIs : ∀ {R F : Value → Shared → Prop}, R c { z with heap := g3 } → wpAny (model X.prog X.w) (X.A.mark (some (.ref q))) (eval (.Name x px) X.env) R F { z with heap := g3 } := fun {R F} k => by
          obtain ⟨gl, db, m1 | ⟨m1, m2, m3⟩⟩ := nm
          · exact ld_glob (X := X.suite q ((q, o3) :: (X.pn ++ pz))) S3 gl m1 k db
          · exact ld_blt (X := X.suite q ((q, o3) :: (X.pn ++ pz))) S3 gl m1 m2 k m3 db
        refine nameIs (LM.here ?_)
        cases ans with
        | false => exact ih (no rfl)
        | true =>
          refine codeAny_handlers_suite_as (HandSPX.lands_againZ f3 fun g4 f4 u4 => ?_)
          have J4 : Inv X pz τ G { z with heap := g4 } := J.landed nb f4.1 ((up.trans u3).trans u4) os ag
          obtain ⟨o4, v4, e4, z4, d4⟩ := f4.there
          refine store_ok (X := X.suite q ((q, o4) :: (X.pn ++ pz))) (v := .ref q) (J4.suite e4 d4 nq nL nF) nd at_ lc rfl (fun s5 S5 => ?_) (.inr loc)
          refine wpAny_mono ((su q o4 cls d (X.pn ++ pz) z4 ⟨_, d4⟩).run [] s5 _ G _ S5 (yes rfl q nq)) (fun fl s6 k => ?_) fun _ _ k => k.elim
          have bye : ∀ {τ6 : L2.St} {G6 : Hp} {R : Shared → Prop}, Inv (X.suite q ((q, o4) :: (X.pn ++ pz))) [] τ6 G6 s6 → (G6 q = none → ∀ s7, Inv X pz (τ6.set i none) (upd G6 q (errO cls d q)) s7 → R s7) →
              wpAny (model X.prog X.w) X.A (do bindName X.env n .none; unbindBehindTheSuite X.env n ph) (fun _ s7 => R s7) X.xe s6 := fun {τ6 G6 R} S6 k => by
            obtain ⟨y1, y2, y3, y4, y5⟩ := S6.pin (q, o4) (List.mem_append_left _ List.mem_cons_self)
            refine gone_ok (pin_more (S6.unsuite okX) y1 y2 y3 y4 y5) nd at_ loc fun s7 J7 => k y2 s7 ?_
            obtain ⟨w1, w2, _⟩ := J7.pin (q, o4) (List.mem_append_right _ List.mem_cons_self)
            exact Inv.err (unpin J7) J hex nq nJ w1 z4 d4 w2
          cases fl with
          | next => obtain ⟨_, _, S6, k⟩ := k; exact bye S6 fun y s7 J7 => ⟨_, _, J7, k y⟩
          | brk => obtain ⟨_, _, S6, k⟩ := k; exact bye S6 fun y s7 J7 => ⟨_, _, J7, k y⟩
          | cont => obtain ⟨_, _, S6, k⟩ := k; exact bye S6 fun y s7 J7 => ⟨_, _, J7, k y⟩
          | ret u => obtain ⟨_, _, _, S6, r6, k⟩ := k; exact bye S6 fun y s7 J7 => ⟨_, _, _, J7, r6, k y⟩
      | @bare x c ts b bs px ph hs3 l3 nm su r ih =>
        rintro ⟨ans, ea, yes, no⟩
        refine wpAny_handleBy_cons (codeAny_handlers_test ?_) (fun k => nomatch k)
        have LM := PySem.W.exm_one (M := model X.prog X.w) J3.kIn LT ea
        have nameIs : ∀ {R F : Value → Shared → Prop}, R c { z with heap := g3 } → wpAny (model X.prog X.w) (X.A.mark (some (.ref q))) (eval (.Name x px) X.env) R F { z with heap := g3 } := fun {R F} k => by
          obtain ⟨gl, db, m1 | ⟨m1, m2, m3⟩⟩ := nm
          · exact ld_glob (X := X.suite q ((q, o3) :: (X.pn ++ pz))) S3 gl m1 k db
          · exact ld_blt (X := X.suite q ((q, o3) :: (X.pn ++ pz))) S3 gl m1 m2 k m3 db
        refine nameIs (LM.here ?_)
        cases ans with
        | false => exact ih (no rfl)
        | true =>
          refine codeAny_handlers_suite ?_
          refine HandSPX.lands_againZ f3 fun g4 f4 u4 => ?_
          have J4 : Inv X pz τ G { z with heap := g4 } := J.landed nb f4.1 ((up.trans u3).trans u4) os ag
          obtain ⟨o4, v4, e4, z4, d4⟩ := f4.there
          refine wpAny_mono ((su q o4 cls d (X.pn ++ pz) z4 ⟨_, d4⟩).run [] _ _ G _ (J4.suite e4 d4 nq nL nF) (yes rfl q nq)) (fun fl s6 k => ?_) fun _ _ k => k.elim
          cases fl with
          | next => obtain ⟨_, _, S6, k⟩ := k; exact ⟨_, _, S6.unsuite okX, k⟩
          | brk => obtain ⟨_, _, S6, k⟩ := k; exact ⟨_, _, S6.unsuite okX, k⟩
          | cont => obtain ⟨_, _, S6, k⟩ := k; exact ⟨_, _, S6.unsuite okX, k⟩
          | ret u => obtain ⟨_, _, _, S6, r6, k⟩ := k; exact ⟨_, _, _, S6.unsuite okX, r6, k⟩
    exact go cl w
  · cases fl with
    | next => obtain ⟨_, _, J', k⟩ := q; exact wpAny_execs_nil ⟨_, _, J'.ofTry okX, k⟩
    | brk => obtain ⟨_, _, J', k⟩ := q; exact ⟨_, _, J'.ofTry okX, k⟩
    | cont => obtain ⟨_, _, J', k⟩ := q; exact ⟨_, _, J'.ofTry okX, k⟩
    | ret u => obtain ⟨_, _, _, J', r, k⟩ := q; exact ⟨_, _, _, J'.ofTry okX, r, k⟩
/-! #### what is asked of a kept error -/
/-- e.f, e a kept error -/
def tErrF (K : PySem.W.Frag) (f : Str) (te : TE) : TE := fun σ H Q => te σ H fun x H1 => ∃ (a C dd : Addr) (fs : List (Str × V)) (v : V), x = .ref a ∧ H1 a = some (errO (.ref C) (some dd) a) ∧ XfN K C f ∧ H1 dd = some (.xd fs) ∧ fs.lookup f = some v ∧ Q v H1
theorem pe_errf {X : Cx} {e : Expr} {te : TE} {pos : Pos} {n : Str} (he : PE X e te) (hb : attributeBase e n X.env (eval e X.env) = eval e X.env := by rfl) : PE X (.Attribute e n pos) (tErrF X.K n te) := by
  refine ⟨fun pins s σ H Q I h => ?_⟩
  refine attr_of hb (thn (he.run pins s σ H _ I h) fun u s1 hh => ?_)
  obtain ⟨x, H1, I1, rx, a, C, dd, fs, v, ex, eo, T, ea, l, q⟩ := hh
  subst ex
  obtain rfl : u = Value.ref a := rx
  obtain ⟨oe, vs, ha, hz, hd⟩ := errO_at I1.hok eo
  have hx : ObjOk X.prog X.w H1 s1.heap dd (.xd fs) := I1.hok dd _ ea
  obtain ⟨mA, hns, hr⟩ := hx
  obtain ⟨od, ho, hl⟩ := lookIn_ns hns
  obtain ⟨u, hu, ru⟩ := RelO.some_of (v := v) (o := mA n) (by rw [← l]; exact hr n)
  have J : PySem.W.InstAt s1.heap a oe C (some od) := ⟨ha, hz.1, by unfold PySem.W.notCls; rw [hd] <;> rfl, by rw [hz.2]; exact ho⟩
  exact HandSPX.exc_get I1.kIn J T.c.ga T.c.gg T.c.exC (PySem.W.findObj_own T.c.hdC T.no rfl (by rw [hl, hu])) (handed_of ru) ⟨v, H1, I1.tok _, ru, q⟩
end My
namespace PySem.W
open PySem PySem.Spec PySem.Calls PyProof.Rows
section
variable {prog : Program} {w : World} {A : Around} {E : Value → Shared → Prop} {s : Shared} {K : Frag} {x D : Addr} {ox : Obj} {od : Option Obj}
theorem findObj_dataG {C : Addr} {name : Str} {a g : Value} (hc : (clsIn K C).isSome = true) (ha : findIn K (.ref C) name = some (some a)) (hg : specialIn K a "__get__" = some (some g)) (ht : takesIn K a = some true) : findObj K C od name = some (.bind g a) := by
  obtain ⟨cd, hc⟩ := Option.isSome_iff_exists.mp hc
  unfold findObj
  rw [hc, Option.bind_some, ha, Option.bind_some]
  simp [hg, ht]
theorem kin_classG {Q : Option Value → Shared → Prop} (hga : findIn K (.ref D) "__getattribute__" = some (some (.builtin "BaseException.__getattribute__"))) (hgt : findIn K (.ref D) "__getattr__" = some none) (hsub : subIn K (.ref D) (.type "BaseException") = some true)
    (hdct : hasDictIn K D = true) (ha : findIn K (.ref D) "__class__" = some (some (.builtin "object.__class__")))
    (hn : specialIn K (.builtin "object.__class__") "__get__" = some (some (.builtin "getset_descriptor.__get__"))) (htk : takesIn K (.builtin "object.__class__") = some true) (hm : mroIn K D (.type "object") = some true)
    (X : K.In s.heap) (I : InstAt s.heap x ox D od) (h : Q (some (.ref D)) { s with toks := s.toks + 1 }) : wpAny (model prog w) A (getAttr? (.ref x) "__class__") Q E s := by
  have hf : findObj K D od "__class__" = some (.bind (.builtin "getset_descriptor.__get__") (.builtin "object.__class__")) := findObj_dataG (by obtain ⟨cd, hc, _⟩ := any_some hdct; rw [hc]; rfl) ha hn htk
  obtain ⟨hp, g, d, t, os⟩ := s
  have L0 := I.type (M := model prog w)
  have L1 := looks_findIn (M := model prog w) X hga
  have L2 := looks_findIn (M := model prog w) X hgt
  have L3 := looks_find (M := model prog w) X I hf
  have sub : Looks (model prog w) hp (isInstance (.ref x) (.type "BaseException")) true := L0.andThen (looks_subIn X hsub)
  have hx0 : (false && onTheHeap (Value.builtin "BaseException.__getattribute__")) = false := rfl
  have hx2 : (Value.builtin "BaseException.__getattribute__" == Value.builtin "object.__getattribute__") = false := by decide +kernel
  have hx1 : (onTheHeap (Value.ref D) && Value.builtin "BaseException.__getattribute__" == Value.builtin "object.__getattribute__") = false := by rw [hx2]; rfl
  unfold getAttr? getAttrBy? getAttrBy
  refine wpAny_bind (wpAny_mkText (wpAny_bind (wpAny_attempt (wpAny_holding (wpAny_bind (L0.at (wpAny_bind (L1.at ?_))))))))
  show wpAny _ _ (if (onTheHeap (Value.ref D) && Value.builtin "BaseException.__getattribute__" == Value.builtin "object.__getattribute__") = true then _ else _) _ _ _
  rw [hx1, if_neg Bool.false_ne_true]
  unfold getAttrByItsOwn hookBefore
  refine wpAny_bind ?_
  rw [if_pos (show onTheHeap (Value.ref D) = true from rfl)]
  refine L2.at ?_
  refine wpAny_bind (wpAny_attempt (wpAny_holding ?_))
  unfold callGetattribute
  rw [hx0, if_neg Bool.false_ne_true]
  unfold boundAndCalled
  rw [PySem.F.excAttr_ValueError.ga.bind (.ref x)]
  refine wpAny_bind (wpAny_pure ?_)
  show wpAny _ _ (call (.builtin "BaseException.__getattribute__") [.ref x, .str "__class__" t]) _ _ _
  refine wpAny_call (codeAny_call_builtin PySem.F.excAttr_ValueError.ga.plain PySem.F.entry_bexc_ga ?_)
  refine @check_slot (model prog w) _ _ ⟨hp, g, d, t + 1, os⟩ "BaseException.__getattribute__" "BaseException" "__getattribute__" (.ref x) [.str "__class__" t] [] _ (by decide +kernel) (by decide +kernel) sub (PySem.F.args_bexc_ga (.ref x) (.str "__class__" t)) ?_
  unfold Builtin.«object.__getattribute__»
  refine wpAny_bind (wpAny_of_eq (a := ((Value.ref x : Value), [Value.str "__class__" t])) (by first | rfl | (simp only [slotArgs]; rfl)) ?_)
  refine wpAny_bind (wpAny_pure (wpAny_bind (L0.at (wpAny_bind (L3.at ?_)))))
  show wpAny _ _ (holding [Value.builtin "object.__class__"] (call (.builtin "getset_descriptor.__get__") [.builtin "object.__class__", .ref x, .ref D]) >>= ret) _ _ _
  refine wpAny_bind (wpAny_holding (wpAny_call (class_get (s := ⟨hp, g, d, t + 1, os⟩) (ox := ox) (od := od) X I hm ?_)))
  refine wpAny_pure ?_
  show wpAny _ _ (handedOut (.ref D)) _ _ _
  rw [handedOut_of (v := .ref D) rfl]
  first
    | exact wpAny_pure (wpAny_pure h)
    | exact wpAny_pure h
    | exact wpAny_pure (wpAny_bind (wpAny_pure (wpAny_pure h)))
theorem kitx_err (hga : findIn K (.ref D) "__getattribute__" = some (some (.builtin "BaseException.__getattribute__"))) (hgt : findIn K (.ref D) "__getattr__" = some none) (hsub : subIn K (.ref D) (.type "BaseException") = some true) (hdct : hasDictIn K D = true) (ha : findIn K (.ref D) "__class__" = some (some (.builtin "object.__class__")))
    (hn : specialIn K (.builtin "object.__class__") "__get__" = some (some (.builtin "getset_descriptor.__get__"))) (htk : takesIn K (.builtin "object.__class__") = some true) (hm : mroIn K D (.type "object") = some true) :
    KitX K (.ref x) (.ref D) (fun h => InstAt h x ox D od) where
  ty := fun _ _ _ I => I.type
  it := fun _ _ X _ => by
    obtain ⟨cdD, hcD, _⟩ := any_some hdct
    unfold clsIn at hcD
    split at hcD
    · rename_i c' d' cd' sl' ho
      intro A' Q' E' s' k q
      unfold isType loadHead
      exact wpAny_bind (wpAny_loadPart (k _ _ (X _ _ ho)) (wpAny_pure q))
    · cases hcD
  ne := fun h tp dd its n sl X htp => by
    obtain ⟨cdD, hcD, _⟩ := any_some hdct
    refine Bool.eq_false_iff.mpr fun q => ?_
    have e : D = tp := Value.ref.inj (beq_iff_eq.mp q)
    subst e
    unfold clsIn at hcD
    split at hcD
    · rename_i c' d' cd' sl' ho
      have z := (X _ _ ho).symm.trans htp
      cases z
    · cases hcD
  ca := fun X I k => kin_classG hga hgt hsub hdct ha hn htk hm X I k
end
end PySem.W
namespace My
open PySem PySem.Spec PyProof.Rows L2 NdefX
/-- a kept error -/
def ErrAt (K : PySem.W.Frag) (H : Hp) (a D : Addr) : Prop := ExcC K D ∧ (H a = some (errO (.ref D) none a) ∨ ∃ dd fs, H a = some (errO (.ref D) (some dd) a) ∧ H dd = some (.xd fs))
theorem ErrAt.inst {P : Program} {w : World} {K : PySem.W.Frag} {H : Hp} {h : Heap} {a D : Addr} (hok : HOk P w H h) (e : ErrAt K H a D) : ∃ oe od, PySem.W.InstAt h a oe D od := by
  rcases e.2 with e | ⟨dd, fs, e, ed⟩
  · obtain ⟨oe, vs, ha, hz, hd⟩ := errO_at hok e
    exact ⟨oe, none, ha, hz.1, by unfold PySem.W.notCls; rw [hd] <;> rfl, by rw [hz.2]; trivial⟩
  · obtain ⟨oe, vs, ha, hz, hd⟩ := errO_at hok e
    have hx : ObjOk P w H h dd (.xd fs) := hok dd _ ed
    obtain ⟨mA, hns, hr⟩ := hx
    obtain ⟨od, ho, hl⟩ := lookIn_ns hns
    exact ⟨oe, some od, ha, hz.1, by unfold PySem.W.notCls; rw [hd] <;> rfl, by rw [hz.2]; exact ho⟩
/-- isinstance(e, c), e a kept error -/
def rIsK (K : PySem.W.Frag) : List V → Hp → VK → Prop := fun xs H Q => ∃ (a D : Addr) (c : V) (cv : Value) (b : Bool), xs = [.ref a, c] ∧ ErrAt K H a D ∧ (∀ u, L2.RelV c u → u = cv) ∧ PySem.W.kitOne K (.ref D) cv = some b ∧ Q (.bl b) H
theorem isK {X : Cx} {K : PySem.W.Frag} (hK : X.K = K := by rfl) : CallR X (.builtin "isinstance") (rIsK K) := by
  subst hK
  intro pins s σ H xs us Q I r h
  obtain ⟨a, D, c, cv, b, rfl, eA, hcv, e, q⟩ := h
  obtain ⟨u1, u2, rfl, r1, r2⟩ := vals2 r
  cases (show u1 = Value.ref a from r1)
  have ec := hcv _ r2
  subst ec
  obtain ⟨oe, od, J⟩ := eA.inst I.hok
  have C := eA.1
  exact PySem.W.kia_one (PySem.W.kitx_err C.hg C.hk C.hs C.hd C.ha C.hn C.ht C.hm) I.kIn J e (fun z => nomatch z) fun tk => ⟨.bl b, H, I.kept (t' := tk) fun _ _ z => z, rfl, q⟩
def rIsKT (K : PySem.W.Frag) : List V → Hp → VK → Prop := fun xs H Q => ∃ (a D tp : Addr) (cs : List V) (us : List Value) (b : Bool), xs = [.ref a, .ref tp] ∧ ErrAt K H a D ∧ H tp = some (.tup cs) ∧ Paired ClsV cs us ∧ PySem.W.kitAny K (.ref D) us = some b ∧ Q (.bl b) H
theorem isKT {X : Cx} {K : PySem.W.Frag} (hK : X.K = K := by rfl) : CallR X (.builtin "isinstance") (rIsKT K) := by
  subst hK
  intro pins s σ H xs us Q I r h
  obtain ⟨a, D, tp, cs, ws, b, rfl, eA, hT, kk, e, q⟩ := h
  obtain ⟨u1, u2, rfl, r1, r2⟩ := vals2 r
  cases (show u1 = Value.ref a from r1)
  cases (show u2 = Value.ref tp from r2)
  obtain ⟨oe, od, J⟩ := eA.inst I.hok
  have C := eA.1
  obtain ⟨_, its, rv, o, h1, h2, n, h3⟩ := (show ObjOk X.prog X.w H s.heap tp (.tup cs) from I.hok tp _ hT)
  have e3 := ClsV.all kk rv
  subst e3
  obtain ⟨oc, od', dt, sl⟩ := o
  simp only at h2 h3
  subst h2 h3
  exact PySem.W.kia_tup (PySem.W.kitx_err C.hg C.hk C.hs C.hd C.ha C.hn C.ht C.hm) I.kIn J h1 e (fun z => nomatch z) fun tk => ⟨.bl b, H, I.kept (t' := tk) fun _ _ z => z, rfl, q⟩
theorem callR_or {X : Cx} {f : Value} {R S : List V → Hp → VK → Prop} (a : CallR X f R) (b : CallR X f S) : CallR X f (fun xs H Q => R xs H Q ∨ S xs H Q) := fun pins s σ H xs us Q I r h => h.elim (a pins s σ H xs us Q I r) (b pins s σ H xs us Q I r)
end My
namespace K15
open PySem PySem.Spec PyProof.Rows L2 My
/-! ### the text by places -/
def topS (i : Nat) : Stmt := PySem.Challenge.pw_sizeladders_k15_stretches_of_sizes.main.body.getD i (.Pass ⟨0, 0, 0, 0⟩)
abbrev s_is_whole : Stmt := (topS 13)
abbrev s_common_part : Stmt := (topS 15)
abbrev s_Measure_init : Stmt := (inClass (topS 17) 0)
abbrev s_Measure_eq : Stmt := (inClass (topS 17) 1)
abbrev s_Measure_plus : Stmt := (inClass (topS 17) 4)
abbrev s_Measure_parted : Stmt := (inClass (topS 17) 7)
abbrev s_Measure_is_below : Stmt := (inClass (topS 17) 8)
abbrev s_is_measure_or_none : Stmt := (topS 18)
abbrev s_slip_of : Stmt := (topS 20)
abbrev s_is_empty : Stmt := (topS 22)
abbrev s_cut_low : Stmt := (topS 24)
abbrev s_cut_high : Stmt := (topS 25)
abbrev s_Stretch_init : Stmt := (inClass (topS 26) 0)
abbrev s_Stretch_cut : Stmt := (inClass (topS 26) 7)
abbrev s_are_marks : Stmt := (topS 30)
abbrev s_is_rule : Stmt := (topS 31)
abbrev s_is_span : Stmt := (topS 32)
abbrev s_midsts_of : Stmt := (topS 33)
abbrev s_end_at : Stmt := (topS 35)
abbrev s_stretch_by_rule : Stmt := (topS 36)
abbrev s_has_size : Stmt := (topS 37)
abbrev s_Ladder_init : Stmt := (inClass (topS 39) 0)
abbrev s_Ladder_len : Stmt := (inClass (topS 39) 4)
abbrev s_Ladder_stretch : Stmt := (inClass (topS 39) 6)
abbrev s_l_hand : Stmt := (topS 41)
abbrev s_l_take : Stmt := (topS 42)
abbrev s_l_of : Stmt := (topS 43)
abbrev s_l_ladder : Stmt := (topS 44)
abbrev s_l_near : Stmt := (topS 45)
abbrev s_l_measure : Stmt := (topS 46)
abbrev s_l_end : Stmt := (topS 47)
abbrev s_l_made : Stmt := (topS 48)
abbrev s_l_ends : Stmt := (topS 49)
abbrev s_l_cut : Stmt := (topS 50)
abbrev s_l_is_end : Stmt := (topS 51)
abbrev s_l_stretch_right : Stmt := (topS 52)
abbrev s_l_refused : Stmt := (topS 53)
abbrev s_l_right : Stmt := (topS 54)
abbrev s_law : Stmt := (topS 55)
abbrev N_is_whole : List Str := ["thing"]
abbrev p_is_whole : List Str := ["thing"]
theorem sc_is_whole : FnScope N_is_whole p_is_whole (defScope s_is_whole) := ⟨rfl, rfl, rfl, by decide +kernel, rfl, by decide +kernel, by decide +kernel⟩
abbrev N_common_part : List Str := ["one", "other", "great", "small"]
abbrev p_common_part : List Str := ["one", "other"]
theorem sc_common_part : FnScope N_common_part p_common_part (defScope s_common_part) := ⟨rfl, rfl, rfl, by decide +kernel, rfl, by decide +kernel, by decide +kernel⟩
abbrev N_Measure_init : List Str := ["self", "top", "bottom", "common"]
abbrev p_Measure_init : List Str := ["self", "top", "bottom"]
theorem sc_Measure_init : FnScope N_Measure_init p_Measure_init (defScope s_Measure_init) := ⟨rfl, rfl, rfl, by decide +kernel, rfl, by decide +kernel, by decide +kernel⟩
abbrev N_Measure_eq : List Str := ["self", "other"]
abbrev p_Measure_eq : List Str := ["self", "other"]
theorem sc_Measure_eq : FnScope N_Measure_eq p_Measure_eq (defScope s_Measure_eq) := ⟨rfl, rfl, rfl, by decide +kernel, rfl, by decide +kernel, by decide +kernel⟩
abbrev N_Measure_plus : List Str := ["self", "other"]
abbrev p_Measure_plus : List Str := ["self", "other"]
theorem sc_Measure_plus : FnScope N_Measure_plus p_Measure_plus (defScope s_Measure_plus) := ⟨rfl, rfl, rfl, by decide +kernel, rfl, by decide +kernel, by decide +kernel⟩
abbrev N_Measure_parted : List Str := ["self", "many"]
abbrev p_Measure_parted : List Str := ["self", "many"]
theorem sc_Measure_parted : FnScope N_Measure_parted p_Measure_parted (defScope s_Measure_parted) := ⟨rfl, rfl, rfl, by decide +kernel, rfl, by decide +kernel, by decide +kernel⟩
abbrev N_Measure_is_below : List Str := ["self", "other", "alike", "here", "there"]
abbrev p_Measure_is_below : List Str := ["self", "other", "alike"]
theorem sc_Measure_is_below : FnScope N_Measure_is_below p_Measure_is_below (defScope s_Measure_is_below) := ⟨rfl, rfl, rfl, by decide +kernel, rfl, by decide +kernel, by decide +kernel⟩
abbrev N_is_measure_or_none : List Str := ["thing"]
abbrev p_is_measure_or_none : List Str := ["thing"]
theorem sc_is_measure_or_none : FnScope N_is_measure_or_none p_is_measure_or_none (defScope s_is_measure_or_none) := ⟨rfl, rfl, rfl, by decide +kernel, rfl, by decide +kernel, by decide +kernel⟩
abbrev N_slip_of : List Str := ["rows", "number"]
abbrev p_slip_of : List Str := ["rows"]
theorem sc_slip_of : FnScope N_slip_of p_slip_of (defScope s_slip_of) := ⟨rfl, rfl, rfl, by decide +kernel, rfl, by decide +kernel, by decide +kernel⟩
abbrev N_is_empty : List Str := ["low", "high", "low_in", "high_in"]
abbrev p_is_empty : List Str := ["low", "high", "low_in", "high_in"]
theorem sc_is_empty : FnScope N_is_empty p_is_empty (defScope s_is_empty) := ⟨rfl, rfl, rfl, by decide +kernel, rfl, by decide +kernel, by decide +kernel⟩
abbrev N_cut_low : List Str := ["one", "other"]
abbrev p_cut_low : List Str := ["one", "other"]
theorem sc_cut_low : FnScope N_cut_low p_cut_low (defScope s_cut_low) := ⟨rfl, rfl, rfl, by decide +kernel, rfl, by decide +kernel, by decide +kernel⟩
abbrev N_cut_high : List Str := ["one", "other"]
abbrev p_cut_high : List Str := ["one", "other"]
theorem sc_cut_high : FnScope N_cut_high p_cut_high (defScope s_cut_high) := ⟨rfl, rfl, rfl, by decide +kernel, rfl, by decide +kernel, by decide +kernel⟩
abbrev N_Stretch_init : List Str := ["self", "low", "high", "low_in", "high_in"]
abbrev p_Stretch_init : List Str := ["self", "low", "high", "low_in", "high_in"]
theorem sc_Stretch_init : FnScope N_Stretch_init p_Stretch_init (defScope s_Stretch_init) := ⟨rfl, rfl, rfl, by decide +kernel, rfl, by decide +kernel, by decide +kernel⟩
abbrev N_Stretch_cut : List Str := ["self", "other", "low", "low_in", "high", "high_in"]
abbrev p_Stretch_cut : List Str := ["self", "other"]
theorem sc_Stretch_cut : FnScope N_Stretch_cut p_Stretch_cut (defScope s_Stretch_cut) := ⟨rfl, rfl, rfl, by decide +kernel, rfl, by decide +kernel, by decide +kernel⟩
abbrev N_are_marks : List Str := ["thing", "mark"]
abbrev p_are_marks : List Str := ["thing"]
theorem sc_are_marks : FnScope N_are_marks p_are_marks (defScope s_are_marks) := ⟨rfl, rfl, rfl, by decide +kernel, rfl, by decide +kernel, by decide +kernel⟩
abbrev N_is_rule : List Str := ["thing"]
abbrev p_is_rule : List Str := ["thing"]
theorem sc_is_rule : FnScope N_is_rule p_is_rule (defScope s_is_rule) := ⟨rfl, rfl, rfl, by decide +kernel, rfl, by decide +kernel, by decide +kernel⟩
abbrev N_is_span : List Str := ["least", "most"]
abbrev p_is_span : List Str := ["least", "most"]
theorem sc_is_span : FnScope N_is_span p_is_span (defScope s_is_span) := ⟨rfl, rfl, rfl, by decide +kernel, rfl, by decide +kernel, by decide +kernel⟩
abbrev N_midsts_of : List Str := ["marks", "at"]
abbrev p_midsts_of : List Str := ["marks"]
theorem sc_midsts_of : FnScope N_midsts_of p_midsts_of (defScope s_midsts_of) := ⟨rfl, rfl, rfl, by decide +kernel, rfl, by decide +kernel, by decide +kernel⟩
abbrev N_end_at : List Str := ["ends", "at"]
abbrev p_end_at : List Str := ["ends", "at"]
theorem sc_end_at : FnScope N_end_at p_end_at (defScope s_end_at) := ⟨rfl, rfl, rfl, by decide +kernel, rfl, by decide +kernel, by decide +kernel⟩
abbrev N_stretch_by_rule : List Str := ["marks", "rule", "number", "midsts"]
abbrev p_stretch_by_rule : List Str := ["marks", "rule", "number"]
theorem sc_stretch_by_rule : FnScope N_stretch_by_rule p_stretch_by_rule (defScope s_stretch_by_rule) := ⟨rfl, rfl, rfl, by decide +kernel, rfl, by decide +kernel, by decide +kernel⟩
abbrev N_has_size : List Str := ["ladder", "thing"]
abbrev p_has_size : List Str := ["ladder", "thing"]
theorem sc_has_size : FnScope N_has_size p_has_size (defScope s_has_size) := ⟨rfl, rfl, rfl, by decide +kernel, rfl, by decide +kernel, by decide +kernel⟩
abbrev N_Ladder_init : List Str := ["self", "marks", "rule", "least", "most", "slip"]
abbrev p_Ladder_init : List Str := ["self", "marks", "rule", "least", "most"]
theorem sc_Ladder_init : FnScope N_Ladder_init p_Ladder_init (defScope s_Ladder_init) := ⟨rfl, rfl, rfl, by decide +kernel, rfl, by decide +kernel, by decide +kernel⟩
abbrev N_Ladder_len : List Str := ["self"]
abbrev p_Ladder_len : List Str := ["self"]
theorem sc_Ladder_len : FnScope N_Ladder_len p_Ladder_len (defScope s_Ladder_len) := ⟨rfl, rfl, rfl, by decide +kernel, rfl, by decide +kernel, by decide +kernel⟩
abbrev N_Ladder_stretch : List Str := ["self", "number", "bounds"]
abbrev p_Ladder_stretch : List Str := ["self", "number"]
theorem sc_Ladder_stretch : FnScope N_Ladder_stretch p_Ladder_stretch (defScope s_Ladder_stretch) := ⟨rfl, rfl, rfl, by decide +kernel, rfl, by decide +kernel, by decide +kernel⟩
abbrev N_l_hand : List Str := ["_law_script", "_law_k", "_law_cell", "_law_own"]
abbrev p_l_hand : List Str := ["_law_script", "_law_k"]
theorem sc_l_hand : FnScope N_l_hand p_l_hand (defScope s_l_hand) := ⟨rfl, rfl, rfl, by decide +kernel, rfl, by decide +kernel, by decide +kernel⟩
abbrev N_l_take : List Str := ["_law_hand_here", "_law_many", "_law_digit", "_law_turn", "_law_prime", "_law_mixed"]
abbrev p_l_take : List Str := ["_law_hand_here", "_law_many"]
theorem sc_l_take : FnScope N_l_take p_l_take (defScope s_l_take) := ⟨rfl, rfl, rfl, by decide +kernel, rfl, by decide +kernel, by decide +kernel⟩
abbrev N_l_of : List Str := ["_law_hand_here", "_law_some"]
abbrev p_l_of : List Str := ["_law_hand_here", "_law_some"]
theorem sc_l_of : FnScope N_l_of p_l_of (defScope s_l_of) := ⟨rfl, rfl, rfl, by decide +kernel, rfl, by decide +kernel, by decide +kernel⟩
abbrev N_l_ladder : List Str := ["_law_hand_here", "_law_rule", "_law_ends_here", "_law_part", "_law_many", "_law_wide", "_law_mark", "_law_marks", "_law_k", "_law_low", "_law_high", "_law_least", "_law_most"]
abbrev p_l_ladder : List Str := ["_law_hand_here"]
theorem sc_l_ladder : FnScope N_l_ladder p_l_ladder (defScope s_l_ladder) := ⟨rfl, rfl, rfl, by decide +kernel, rfl, by decide +kernel, by decide +kernel⟩
abbrev N_l_near : List Str := ["_law_hand_here", "_law_marks", "_law_at", "_law_other", "_law_spot"]
abbrev p_l_near : List Str := ["_law_hand_here", "_law_marks"]
theorem sc_l_near : FnScope N_l_near p_l_near (defScope s_l_near) := ⟨rfl, rfl, rfl, by decide +kernel, rfl, by decide +kernel, by decide +kernel⟩
abbrev N_l_measure : List Str := ["_law_part", "_law_units"]
abbrev p_l_measure : List Str := ["_law_part", "_law_units"]
theorem sc_l_measure : FnScope N_l_measure p_l_measure (defScope s_l_measure) := ⟨rfl, rfl, rfl, by decide +kernel, rfl, by decide +kernel, by decide +kernel⟩
abbrev N_l_end : List Str := ["_law_part", "_law_units"]
abbrev p_l_end : List Str := ["_law_part", "_law_units"]
theorem sc_l_end : FnScope N_l_end p_l_end (defScope s_l_end) := ⟨rfl, rfl, rfl, by decide +kernel, rfl, by decide +kernel, by decide +kernel⟩
abbrev N_l_made : List Str := ["_law_ladder_here", "_law_part", "_law_marks", "_law_rule", "_law_least", "_law_most", "_law_rows", "_law_mark"]
abbrev p_l_made : List Str := ["_law_ladder_here"]
theorem sc_l_made : FnScope N_l_made p_l_made (defScope s_l_made) := ⟨rfl, rfl, rfl, by decide +kernel, rfl, by decide +kernel, by decide +kernel⟩
abbrev N_l_ends : List Str := ["_law_ladder_here", "_law_k", "_law_part", "_law_marks", "_law_rule", "_law_least", "_law_most", "_law_low", "_law_high"]
abbrev p_l_ends : List Str := ["_law_ladder_here", "_law_k"]
theorem sc_l_ends : FnScope N_l_ends p_l_ends (defScope s_l_ends) := ⟨rfl, rfl, rfl, by decide +kernel, rfl, by decide +kernel, by decide +kernel⟩
abbrev N_l_cut : List Str := ["_law_ladder_here", "_law_ends_here", "_law_low", "_law_high", "_law_low_in", "_law_high_in", "_law_least", "_law_most"]
abbrev p_l_cut : List Str := ["_law_ladder_here", "_law_ends_here"]
theorem sc_l_cut : FnScope N_l_cut p_l_cut (defScope s_l_cut) := ⟨rfl, rfl, rfl, by decide +kernel, rfl, by decide +kernel, by decide +kernel⟩
abbrev N_l_is_end : List Str := ["_law_part", "_law_found", "_law_units"]
abbrev p_l_is_end : List Str := ["_law_part", "_law_found", "_law_units"]
theorem sc_l_is_end : FnScope N_l_is_end p_l_is_end (defScope s_l_is_end) := ⟨rfl, rfl, rfl, by decide +kernel, rfl, by decide +kernel, by decide +kernel⟩
abbrev N_l_stretch_right : List Str := ["_law_part", "_law_found", "_law_due"]
abbrev p_l_stretch_right : List Str := ["_law_part", "_law_found", "_law_due"]
theorem sc_l_stretch_right : FnScope N_l_stretch_right p_l_stretch_right (defScope s_l_stretch_right) := ⟨rfl, rfl, rfl, by decide +kernel, rfl, by decide +kernel, by decide +kernel⟩
abbrev N_l_refused : List Str := ["_law_made_here", "_law_thing", "_law_caught", "e"]
abbrev p_l_refused : List Str := ["_law_made_here", "_law_thing"]
theorem sc_l_refused : FnScope N_l_refused p_l_refused (defScope s_l_refused) := ⟨rfl, rfl, rfl, by decide +kernel, rfl, by decide +kernel, by decide +kernel⟩
abbrev N_l_right : List Str := ["_law_ladder_here", "_law_made_here", "_law_many", "_law_k", "_law_due", "_law_odd", "_law_thing"]
abbrev p_l_right : List Str := ["_law_ladder_here"]
theorem sc_l_right : FnScope N_l_right p_l_right (defScope s_l_right) := ⟨rfl, rfl, rfl, by decide +kernel, rfl, by decide +kernel, by decide +kernel⟩
abbrev N_law : List Str := ["_law_script", "_law_k"]
abbrev p_law : List Str := ["_law_script"]
theorem sc_law : FnScope N_law p_law (defScope s_law) := ⟨rfl, rfl, rfl, by decide +kernel, rfl, by decide +kernel, by decide +kernel⟩
abbrev s_NoSize_init : Stmt := (inClass (topS 8) 0)
abbrev N_NoSize_init : List Str := ["self", "number", "__class__"]
abbrev p_NoSize_init : List Str := ["self", "number"]
theorem scS_NoSize_init : NdefX.NScope N_NoSize_init p_NoSize_init ["__class__"] (defScope s_NoSize_init) := NdefX.nscope_by (by decide +kernel)
def h_NoSize_init : He.DefD := ⟨("NoSize", some "__init__"), "__init__", "NoSize.__init__", defArgs s_NoSize_init, defBody s_NoSize_init, defScope s_NoSize_init, [], []⟩
/-! ### what the top has written -/
structure Fds where
  is_whole : FuncData
  common_part : FuncData
  Measure_init : FuncData
  Measure_eq : FuncData
  Measure_plus : FuncData
  Measure_parted : FuncData
  Measure_is_below : FuncData
  is_measure_or_none : FuncData
  slip_of : FuncData
  is_empty : FuncData
  cut_low : FuncData
  cut_high : FuncData
  Stretch_init : FuncData
  Stretch_cut : FuncData
  are_marks : FuncData
  is_rule : FuncData
  is_span : FuncData
  midsts_of : FuncData
  end_at : FuncData
  stretch_by_rule : FuncData
  has_size : FuncData
  Ladder_init : FuncData
  Ladder_len : FuncData
  Ladder_stretch : FuncData
  l_hand : FuncData
  l_take : FuncData
  l_of : FuncData
  l_ladder : FuncData
  l_near : FuncData
  l_measure : FuncData
  l_end : FuncData
  l_made : FuncData
  l_ends : FuncData
  l_cut : FuncData
  l_is_end : FuncData
  l_stretch_right : FuncData
  l_refused : FuncData
  l_right : FuncData
  law : FuncData
  NoSize_init : FuncData
  NoSize_init_cc : Addr
  NoSize_init_cda : Addr
structure Txt (P : Program) (K : PySem.W.Frag) (mg : Str → Option Value) (φ : Fds) : Prop where
  pfile : (P.main.file == ("/claim/cut.py" : Str)) = true
  ptop : (P.main.scope.names.lookup ("super" : Str)).isSome = false
  g_is_whole : mg "is_whole" = some (.ref (He.ga K "is_whole"))
  g_common_part : mg "common_part" = some (.ref (He.ga K "common_part"))
  g_is_measure_or_none : mg "is_measure_or_none" = some (.ref (He.ga K "is_measure_or_none"))
  g_slip_of : mg "slip_of" = some (.ref (He.ga K "slip_of"))
  g_is_empty : mg "is_empty" = some (.ref (He.ga K "is_empty"))
  g_cut_low : mg "cut_low" = some (.ref (He.ga K "cut_low"))
  g_cut_high : mg "cut_high" = some (.ref (He.ga K "cut_high"))
  g_are_marks : mg "are_marks" = some (.ref (He.ga K "are_marks"))
  g_is_rule : mg "is_rule" = some (.ref (He.ga K "is_rule"))
  g_is_span : mg "is_span" = some (.ref (He.ga K "is_span"))
  g_midsts_of : mg "midsts_of" = some (.ref (He.ga K "midsts_of"))
  g_end_at : mg "end_at" = some (.ref (He.ga K "end_at"))
  g_stretch_by_rule : mg "stretch_by_rule" = some (.ref (He.ga K "stretch_by_rule"))
  g_has_size : mg "has_size" = some (.ref (He.ga K "has_size"))
  g_l_hand : mg "_law_hand" = some (.ref (He.ga K "_law_hand"))
  g_l_take : mg "_law_take" = some (.ref (He.ga K "_law_take"))
  g_l_of : mg "_law_of" = some (.ref (He.ga K "_law_of"))
  g_l_ladder : mg "_law_ladder" = some (.ref (He.ga K "_law_ladder"))
  g_l_near : mg "_law_near" = some (.ref (He.ga K "_law_near"))
  g_l_measure : mg "_law_measure" = some (.ref (He.ga K "_law_measure"))
  g_l_end : mg "_law_end" = some (.ref (He.ga K "_law_end"))
  g_l_made : mg "_law_made" = some (.ref (He.ga K "_law_made"))
  g_l_ends : mg "_law_ends" = some (.ref (He.ga K "_law_ends"))
  g_l_cut : mg "_law_cut" = some (.ref (He.ga K "_law_cut"))
  g_l_is_end : mg "_law_is_end" = some (.ref (He.ga K "_law_is_end"))
  g_l_stretch_right : mg "_law_stretch_right" = some (.ref (He.ga K "_law_stretch_right"))
  g_l_refused : mg "_law_refused" = some (.ref (He.ga K "_law_refused"))
  g_l_right : mg "_law_right" = some (.ref (He.ga K "_law_right"))
  g_law : mg "law" = some (.ref (He.ga K "law"))
  g_Measure : mg "Measure" = some (.ref (He.ga K "Measure"))
  g_Stretch : mg "Stretch" = some (.ref (He.ga K "Stretch"))
  g_Ladder : mg "Ladder" = some (.ref (He.ga K "Ladder"))
  g_NoSize : mg "NoSize" = some (.ref (He.ga K "NoSize"))
  z_super : mg "super" = none
  g_RULES : mg "RULES" = some (.ref (He.ga K "RULES"))
  g_LandError : mg "LandError" = some (.ref (He.ga K "LandError"))
  g_LadderError : mg "LadderError" = some (.ref (He.ga K "LadderError"))
  g_NoLand : mg "NoLand" = some (.ref (He.ga K "NoLand"))
  g_LandTwice : mg "LandTwice" = some (.ref (He.ga K "LandTwice"))
  v_MOST_MARKS : ∃ t, mg "MOST_MARKS" = some (.int 24 t)
  z_LookupError : mg "LookupError" = none
  z_abs : mg "abs" = none
  z_all : mg "all" = none
  z_bool : mg "bool" = none
  z_int : mg "int" = none
  z_isinstance : mg "isinstance" = none
  z_len : mg "len" = none
  z_max : mg "max" = none
  z_min : mg "min" = none
  z_range : mg "range" = none
  z_repr : mg "repr" = none
  z_str : mg "str" = none
  z_tuple : mg "tuple" = none
  cl_Measure : Cls K (He.ga K "Measure")
  na_Measure_top : NoAttr K (He.ga K "Measure") "top"
  na_Measure_bottom : NoAttr K (He.ga K "Measure") "bottom"
  me_Measure_eq : Meth K (He.ga K "Measure") "__eq__" (He.ma K (He.ga K "Measure") "__eq__")
  me_Measure_plus : Meth K (He.ga K "Measure") "plus" (He.ma K (He.ga K "Measure") "plus")
  me_Measure_parted : Meth K (He.ga K "Measure") "parted" (He.ma K (He.ga K "Measure") "parted")
  me_Measure_is_below : Meth K (He.ga K "Measure") "is_below" (He.ma K (He.ga K "Measure") "is_below")
  mk_Measure : Mk K (He.ga K "Measure") (He.ma K (He.ga K "Measure") "__init__")
  cl_Stretch : Cls K (He.ga K "Stretch")
  na_Stretch_low : NoAttr K (He.ga K "Stretch") "low"
  na_Stretch_high : NoAttr K (He.ga K "Stretch") "high"
  na_Stretch_low_in : NoAttr K (He.ga K "Stretch") "low_in"
  na_Stretch_high_in : NoAttr K (He.ga K "Stretch") "high_in"
  me_Stretch_cut : Meth K (He.ga K "Stretch") "cut" (He.ma K (He.ga K "Stretch") "cut")
  mk_Stretch : Mk K (He.ga K "Stretch") (He.ma K (He.ga K "Stretch") "__init__")
  cl_Ladder : Cls K (He.ga K "Ladder")
  na_Ladder_marks : NoAttr K (He.ga K "Ladder") "marks"
  na_Ladder_rule : NoAttr K (He.ga K "Ladder") "rule"
  na_Ladder_least : NoAttr K (He.ga K "Ladder") "least"
  na_Ladder_most : NoAttr K (He.ga K "Ladder") "most"
  me_Ladder_len : Meth K (He.ga K "Ladder") "__len__" (He.ma K (He.ga K "Ladder") "__len__")
  me_Ladder_stretch : Meth K (He.ga K "Ladder") "stretch" (He.ma K (He.ga K "Ladder") "stretch")
  mk_Ladder : Mk K (He.ga K "Ladder") (He.ma K (He.ga K "Ladder") "__init__")
  sc_NoSize : SupC "LookupError" "LookupError.__new__" "LookupError.__init__" leTail K (He.ga K "NoSize")
  si_NoSize : SupI K (He.ga K "NoSize")
  xn_NoSize_number : XfN K (He.ga K "NoSize") "number"
  ii_Measure : IsC K (He.ga K "Measure")
  xc_NoSize : ExcC K (He.ga K "NoSize")
  xm_NoSize_LandError : PySem.W.exmOne K (.ref (He.ga K "NoSize")) (.ref (He.ga K "LandError")) = some true
  tp_RULES : ∀ H, SqT K H (He.ga K "RULES") ((["up", "down", "near"] : List Str).map V.str)
  k_Measure_Measure : PySem.W.kitOne K (.ref (He.ga K "Measure")) (.ref (He.ga K "Measure")) = some true
  k_NoSize_NoSize : PySem.W.kitOne K (.ref (He.ga K "NoSize")) (.ref (He.ga K "NoSize")) = some true
  k_NoSize_NoLand : PySem.W.kitOne K (.ref (He.ga K "NoSize")) (.ref (He.ga K "NoLand")) = some false
  k_NoSize_LandTwice : PySem.W.kitOne K (.ref (He.ga K "NoSize")) (.ref (He.ga K "LandTwice")) = some false
  k_NoSize_LookupError : PySem.W.kitOne K (.ref (He.ga K "NoSize")) (.type "LookupError") = some true
  su_NoSize_init : SupD K (He.ga K "NoSize") "__init__" "NoSize.__init__" (defArgs s_NoSize_init) (defBody s_NoSize_init) (defScope s_NoSize_init) [] (He.fAd K ("NoSize", some "__init__")) φ.NoSize_init_cc φ.NoSize_init_cda "/claim/cut.py" φ.NoSize_init
  f_is_whole : FunD K "is_whole" "is_whole" (defArgs s_is_whole) (defBody s_is_whole) (defScope s_is_whole) [] [] (He.fAd K ("is_whole", none)) φ.is_whole
  f_common_part : FunD K "common_part" "common_part" (defArgs s_common_part) (defBody s_common_part) (defScope s_common_part) [] [] (He.fAd K ("common_part", none)) φ.common_part
  f_Measure_init : FunD K "__init__" "Measure.__init__" (defArgs s_Measure_init) (defBody s_Measure_init) (defScope s_Measure_init) [V.int 1] [] (He.fAd K ("Measure", some "__init__")) φ.Measure_init
  f_Measure_eq : FunD K "__eq__" "Measure.__eq__" (defArgs s_Measure_eq) (defBody s_Measure_eq) (defScope s_Measure_eq) [] [] (He.fAd K ("Measure", some "__eq__")) φ.Measure_eq
  f_Measure_plus : FunD K "plus" "Measure.plus" (defArgs s_Measure_plus) (defBody s_Measure_plus) (defScope s_Measure_plus) [] [] (He.fAd K ("Measure", some "plus")) φ.Measure_plus
  f_Measure_parted : FunD K "parted" "Measure.parted" (defArgs s_Measure_parted) (defBody s_Measure_parted) (defScope s_Measure_parted) [V.int 2] [] (He.fAd K ("Measure", some "parted")) φ.Measure_parted
  f_Measure_is_below : FunD K "is_below" "Measure.is_below" (defArgs s_Measure_is_below) (defBody s_Measure_is_below) (defScope s_Measure_is_below) [V.bl false] [] (He.fAd K ("Measure", some "is_below")) φ.Measure_is_below
  f_is_measure_or_none : FunD K "is_measure_or_none" "is_measure_or_none" (defArgs s_is_measure_or_none) (defBody s_is_measure_or_none) (defScope s_is_measure_or_none) [] [] (He.fAd K ("is_measure_or_none", none)) φ.is_measure_or_none
  f_slip_of : FunD K "slip_of" "slip_of" (defArgs s_slip_of) (defBody s_slip_of) (defScope s_slip_of) [] [] (He.fAd K ("slip_of", none)) φ.slip_of
  f_is_empty : FunD K "is_empty" "is_empty" (defArgs s_is_empty) (defBody s_is_empty) (defScope s_is_empty) [] [] (He.fAd K ("is_empty", none)) φ.is_empty
  f_cut_low : FunD K "cut_low" "cut_low" (defArgs s_cut_low) (defBody s_cut_low) (defScope s_cut_low) [] [] (He.fAd K ("cut_low", none)) φ.cut_low
  f_cut_high : FunD K "cut_high" "cut_high" (defArgs s_cut_high) (defBody s_cut_high) (defScope s_cut_high) [] [] (He.fAd K ("cut_high", none)) φ.cut_high
  f_Stretch_init : FunD K "__init__" "Stretch.__init__" (defArgs s_Stretch_init) (defBody s_Stretch_init) (defScope s_Stretch_init) [V.bl false, V.bl true] [] (He.fAd K ("Stretch", some "__init__")) φ.Stretch_init
  f_Stretch_cut : FunD K "cut" "Stretch.cut" (defArgs s_Stretch_cut) (defBody s_Stretch_cut) (defScope s_Stretch_cut) [] [] (He.fAd K ("Stretch", some "cut")) φ.Stretch_cut
  f_are_marks : FunD K "are_marks" "are_marks" (defArgs s_are_marks) (defBody s_are_marks) (defScope s_are_marks) [] [] (He.fAd K ("are_marks", none)) φ.are_marks
  f_is_rule : FunD K "is_rule" "is_rule" (defArgs s_is_rule) (defBody s_is_rule) (defScope s_is_rule) [] [] (He.fAd K ("is_rule", none)) φ.is_rule
  f_is_span : FunD K "is_span" "is_span" (defArgs s_is_span) (defBody s_is_span) (defScope s_is_span) [] [] (He.fAd K ("is_span", none)) φ.is_span
  f_midsts_of : FunD K "midsts_of" "midsts_of" (defArgs s_midsts_of) (defBody s_midsts_of) (defScope s_midsts_of) [] [] (He.fAd K ("midsts_of", none)) φ.midsts_of
  f_end_at : FunD K "end_at" "end_at" (defArgs s_end_at) (defBody s_end_at) (defScope s_end_at) [] [] (He.fAd K ("end_at", none)) φ.end_at
  f_stretch_by_rule : FunD K "stretch_by_rule" "stretch_by_rule" (defArgs s_stretch_by_rule) (defBody s_stretch_by_rule) (defScope s_stretch_by_rule) [] [] (He.fAd K ("stretch_by_rule", none)) φ.stretch_by_rule
  f_has_size : FunD K "has_size" "has_size" (defArgs s_has_size) (defBody s_has_size) (defScope s_has_size) [] [] (He.fAd K ("has_size", none)) φ.has_size
  f_Ladder_init : FunD K "__init__" "Ladder.__init__" (defArgs s_Ladder_init) (defBody s_Ladder_init) (defScope s_Ladder_init) [V.str "up", V.non, V.non] [] (He.fAd K ("Ladder", some "__init__")) φ.Ladder_init
  f_Ladder_len : FunD K "__len__" "Ladder.__len__" (defArgs s_Ladder_len) (defBody s_Ladder_len) (defScope s_Ladder_len) [] [] (He.fAd K ("Ladder", some "__len__")) φ.Ladder_len
  f_Ladder_stretch : FunD K "stretch" "Ladder.stretch" (defArgs s_Ladder_stretch) (defBody s_Ladder_stretch) (defScope s_Ladder_stretch) [] [] (He.fAd K ("Ladder", some "stretch")) φ.Ladder_stretch
  f_l_hand : FunD K "_law_hand" "_law_hand" (defArgs s_l_hand) (defBody s_l_hand) (defScope s_l_hand) [] [] (He.fAd K ("_law_hand", none)) φ.l_hand
  f_l_take : FunD K "_law_take" "_law_take" (defArgs s_l_take) (defBody s_l_take) (defScope s_l_take) [] [] (He.fAd K ("_law_take", none)) φ.l_take
  f_l_of : FunD K "_law_of" "_law_of" (defArgs s_l_of) (defBody s_l_of) (defScope s_l_of) [] [] (He.fAd K ("_law_of", none)) φ.l_of
  f_l_ladder : FunD K "_law_ladder" "_law_ladder" (defArgs s_l_ladder) (defBody s_l_ladder) (defScope s_l_ladder) [] [] (He.fAd K ("_law_ladder", none)) φ.l_ladder
  f_l_near : FunD K "_law_near" "_law_near" (defArgs s_l_near) (defBody s_l_near) (defScope s_l_near) [] [] (He.fAd K ("_law_near", none)) φ.l_near
  f_l_measure : FunD K "_law_measure" "_law_measure" (defArgs s_l_measure) (defBody s_l_measure) (defScope s_l_measure) [] [] (He.fAd K ("_law_measure", none)) φ.l_measure
  f_l_end : FunD K "_law_end" "_law_end" (defArgs s_l_end) (defBody s_l_end) (defScope s_l_end) [] [] (He.fAd K ("_law_end", none)) φ.l_end
  f_l_made : FunD K "_law_made" "_law_made" (defArgs s_l_made) (defBody s_l_made) (defScope s_l_made) [] [] (He.fAd K ("_law_made", none)) φ.l_made
  f_l_ends : FunD K "_law_ends" "_law_ends" (defArgs s_l_ends) (defBody s_l_ends) (defScope s_l_ends) [] [] (He.fAd K ("_law_ends", none)) φ.l_ends
  f_l_cut : FunD K "_law_cut" "_law_cut" (defArgs s_l_cut) (defBody s_l_cut) (defScope s_l_cut) [] [] (He.fAd K ("_law_cut", none)) φ.l_cut
  f_l_is_end : FunD K "_law_is_end" "_law_is_end" (defArgs s_l_is_end) (defBody s_l_is_end) (defScope s_l_is_end) [] [] (He.fAd K ("_law_is_end", none)) φ.l_is_end
  f_l_stretch_right : FunD K "_law_stretch_right" "_law_stretch_right" (defArgs s_l_stretch_right) (defBody s_l_stretch_right) (defScope s_l_stretch_right) [] [] (He.fAd K ("_law_stretch_right", none)) φ.l_stretch_right
  f_l_refused : FunD K "_law_refused" "_law_refused" (defArgs s_l_refused) (defBody s_l_refused) (defScope s_l_refused) [] [] (He.fAd K ("_law_refused", none)) φ.l_refused
  f_l_right : FunD K "_law_right" "_law_right" (defArgs s_l_right) (defBody s_l_right) (defScope s_l_right) [] [] (He.fAd K ("_law_right", none)) φ.l_right
  f_law : FunD K "law" "law" (defArgs s_law) (defBody s_law) (defScope s_law) [] [] (He.fAd K ("law", none)) φ.law
/-! ### the head -/
def h_is_whole : He.DefD := ⟨("is_whole", none), "is_whole", "is_whole", defArgs s_is_whole, defBody s_is_whole, defScope s_is_whole, [], []⟩
def h_common_part : He.DefD := ⟨("common_part", none), "common_part", "common_part", defArgs s_common_part, defBody s_common_part, defScope s_common_part, [], []⟩
def h_Measure_init : He.DefD := ⟨("Measure", some "__init__"), "__init__", "Measure.__init__", defArgs s_Measure_init, defBody s_Measure_init, defScope s_Measure_init, [.int 1], []⟩
def h_Measure_eq : He.DefD := ⟨("Measure", some "__eq__"), "__eq__", "Measure.__eq__", defArgs s_Measure_eq, defBody s_Measure_eq, defScope s_Measure_eq, [], []⟩
def h_Measure_plus : He.DefD := ⟨("Measure", some "plus"), "plus", "Measure.plus", defArgs s_Measure_plus, defBody s_Measure_plus, defScope s_Measure_plus, [], []⟩
def h_Measure_parted : He.DefD := ⟨("Measure", some "parted"), "parted", "Measure.parted", defArgs s_Measure_parted, defBody s_Measure_parted, defScope s_Measure_parted, [.int 2], []⟩
def h_Measure_is_below : He.DefD := ⟨("Measure", some "is_below"), "is_below", "Measure.is_below", defArgs s_Measure_is_below, defBody s_Measure_is_below, defScope s_Measure_is_below, [.bl false], []⟩
def h_is_measure_or_none : He.DefD := ⟨("is_measure_or_none", none), "is_measure_or_none", "is_measure_or_none", defArgs s_is_measure_or_none, defBody s_is_measure_or_none, defScope s_is_measure_or_none, [], []⟩
def h_slip_of : He.DefD := ⟨("slip_of", none), "slip_of", "slip_of", defArgs s_slip_of, defBody s_slip_of, defScope s_slip_of, [], []⟩
def h_is_empty : He.DefD := ⟨("is_empty", none), "is_empty", "is_empty", defArgs s_is_empty, defBody s_is_empty, defScope s_is_empty, [], []⟩
def h_cut_low : He.DefD := ⟨("cut_low", none), "cut_low", "cut_low", defArgs s_cut_low, defBody s_cut_low, defScope s_cut_low, [], []⟩
def h_cut_high : He.DefD := ⟨("cut_high", none), "cut_high", "cut_high", defArgs s_cut_high, defBody s_cut_high, defScope s_cut_high, [], []⟩
def h_Stretch_init : He.DefD := ⟨("Stretch", some "__init__"), "__init__", "Stretch.__init__", defArgs s_Stretch_init, defBody s_Stretch_init, defScope s_Stretch_init, [.bl false, .bl true], []⟩
def h_Stretch_cut : He.DefD := ⟨("Stretch", some "cut"), "cut", "Stretch.cut", defArgs s_Stretch_cut, defBody s_Stretch_cut, defScope s_Stretch_cut, [], []⟩
def h_are_marks : He.DefD := ⟨("are_marks", none), "are_marks", "are_marks", defArgs s_are_marks, defBody s_are_marks, defScope s_are_marks, [], []⟩
def h_is_rule : He.DefD := ⟨("is_rule", none), "is_rule", "is_rule", defArgs s_is_rule, defBody s_is_rule, defScope s_is_rule, [], []⟩
def h_is_span : He.DefD := ⟨("is_span", none), "is_span", "is_span", defArgs s_is_span, defBody s_is_span, defScope s_is_span, [], []⟩
def h_midsts_of : He.DefD := ⟨("midsts_of", none), "midsts_of", "midsts_of", defArgs s_midsts_of, defBody s_midsts_of, defScope s_midsts_of, [], []⟩
def h_end_at : He.DefD := ⟨("end_at", none), "end_at", "end_at", defArgs s_end_at, defBody s_end_at, defScope s_end_at, [], []⟩
def h_stretch_by_rule : He.DefD := ⟨("stretch_by_rule", none), "stretch_by_rule", "stretch_by_rule", defArgs s_stretch_by_rule, defBody s_stretch_by_rule, defScope s_stretch_by_rule, [], []⟩
def h_has_size : He.DefD := ⟨("has_size", none), "has_size", "has_size", defArgs s_has_size, defBody s_has_size, defScope s_has_size, [], []⟩
def h_Ladder_init : He.DefD := ⟨("Ladder", some "__init__"), "__init__", "Ladder.__init__", defArgs s_Ladder_init, defBody s_Ladder_init, defScope s_Ladder_init, [.str "up", .non, .non], []⟩
def h_Ladder_len : He.DefD := ⟨("Ladder", some "__len__"), "__len__", "Ladder.__len__", defArgs s_Ladder_len, defBody s_Ladder_len, defScope s_Ladder_len, [], []⟩
def h_Ladder_stretch : He.DefD := ⟨("Ladder", some "stretch"), "stretch", "Ladder.stretch", defArgs s_Ladder_stretch, defBody s_Ladder_stretch, defScope s_Ladder_stretch, [], []⟩
def h_l_hand : He.DefD := ⟨("_law_hand", none), "_law_hand", "_law_hand", defArgs s_l_hand, defBody s_l_hand, defScope s_l_hand, [], []⟩
def h_l_take : He.DefD := ⟨("_law_take", none), "_law_take", "_law_take", defArgs s_l_take, defBody s_l_take, defScope s_l_take, [], []⟩
def h_l_of : He.DefD := ⟨("_law_of", none), "_law_of", "_law_of", defArgs s_l_of, defBody s_l_of, defScope s_l_of, [], []⟩
def h_l_ladder : He.DefD := ⟨("_law_ladder", none), "_law_ladder", "_law_ladder", defArgs s_l_ladder, defBody s_l_ladder, defScope s_l_ladder, [], []⟩
def h_l_near : He.DefD := ⟨("_law_near", none), "_law_near", "_law_near", defArgs s_l_near, defBody s_l_near, defScope s_l_near, [], []⟩
def h_l_measure : He.DefD := ⟨("_law_measure", none), "_law_measure", "_law_measure", defArgs s_l_measure, defBody s_l_measure, defScope s_l_measure, [], []⟩
def h_l_end : He.DefD := ⟨("_law_end", none), "_law_end", "_law_end", defArgs s_l_end, defBody s_l_end, defScope s_l_end, [], []⟩
def h_l_made : He.DefD := ⟨("_law_made", none), "_law_made", "_law_made", defArgs s_l_made, defBody s_l_made, defScope s_l_made, [], []⟩
def h_l_ends : He.DefD := ⟨("_law_ends", none), "_law_ends", "_law_ends", defArgs s_l_ends, defBody s_l_ends, defScope s_l_ends, [], []⟩
def h_l_cut : He.DefD := ⟨("_law_cut", none), "_law_cut", "_law_cut", defArgs s_l_cut, defBody s_l_cut, defScope s_l_cut, [], []⟩
def h_l_is_end : He.DefD := ⟨("_law_is_end", none), "_law_is_end", "_law_is_end", defArgs s_l_is_end, defBody s_l_is_end, defScope s_l_is_end, [], []⟩
def h_l_stretch_right : He.DefD := ⟨("_law_stretch_right", none), "_law_stretch_right", "_law_stretch_right", defArgs s_l_stretch_right, defBody s_l_stretch_right, defScope s_l_stretch_right, [], []⟩
def h_l_refused : He.DefD := ⟨("_law_refused", none), "_law_refused", "_law_refused", defArgs s_l_refused, defBody s_l_refused, defScope s_l_refused, [], []⟩
def h_l_right : He.DefD := ⟨("_law_right", none), "_law_right", "_law_right", defArgs s_l_right, defBody s_l_right, defScope s_l_right, [], []⟩
def h_law : He.DefD := ⟨("law", none), "law", "law", defArgs s_law, defBody s_law, defScope s_law, [], []⟩
def fn : List He.DefD := [h_is_whole, h_common_part, h_Measure_init, h_Measure_eq, h_Measure_plus, h_Measure_parted, h_Measure_is_below, h_is_measure_or_none, h_slip_of, h_is_empty, h_cut_low, h_cut_high, h_Stretch_init, h_Stretch_cut, h_are_marks, h_is_rule, h_is_span, h_midsts_of, h_end_at, h_stretch_by_rule, h_has_size, h_Ladder_init, h_Ladder_len, h_Ladder_stretch, h_l_hand, h_l_take, h_l_of, h_l_ladder, h_l_near, h_l_measure, h_l_end, h_l_made, h_l_ends, h_l_cut, h_l_is_end, h_l_stretch_right, h_l_refused, h_l_right, h_law]
def fa : List He.Fa := [.glo "is_whole", .glo "common_part", .glo "is_measure_or_none", .glo "slip_of", .glo "is_empty", .glo "cut_low", .glo "cut_high", .glo "are_marks", .glo "is_rule", .glo "is_span", .glo "midsts_of", .glo "end_at", .glo "stretch_by_rule", .glo "has_size", .glo "_law_hand", .glo "_law_take", .glo "_law_of", .glo "_law_ladder", .glo "_law_near", .glo "_law_measure", .glo "_law_end", .glo "_law_made", .glo "_law_ends", .glo "_law_cut", .glo "_law_is_end", .glo "_law_stretch_right", .glo "_law_refused", .glo "_law_right", .glo "law", .glo "Measure", .glo "Stretch", .glo "Ladder", .glo "NoSize", .free "super", .glo "RULES", .glo "LandError", .glo "LadderError", .glo "NoLand", .glo "LandTwice", .int "MOST_MARKS" 24, .free "LookupError", .free "abs", .free "all", .free "bool", .free "int", .free "isinstance", .free "len", .free "max", .free "min", .free "range", .free "repr", .free "str", .free "tuple", .cls "Measure", .noat "Measure" "top", .noat "Measure" "bottom", .meth "Measure" "__eq__", .meth "Measure" "plus", .meth "Measure" "parted", .meth "Measure" "is_below", .mkr "Measure", .cls "Stretch", .noat "Stretch" "low", .noat "Stretch" "high", .noat "Stretch" "low_in", .noat "Stretch" "high_in", .meth "Stretch" "cut", .mkr "Stretch", .cls "Ladder", .noat "Ladder" "marks", .noat "Ladder" "rule", .noat "Ladder" "least", .noat "Ladder" "most", .meth "Ladder" "__len__", .meth "Ladder" "stretch", .mkr "Ladder"]
abbrev R : PySem.W.OpenRow := PySem.W.OpenLaw.row PySem.Challenge.rw_sizeladders_k15_stretches_of_sizes
def ex : List (PySem.W.Frag → Bool) := [supCB "NoSize" "LookupError" "LookupError.__new__" "LookupError.__init__" leTail, supIB "NoSize", xfNB "NoSize" "number", isCB "Measure", excCB "NoSize", exmB "NoSize" "LandError" true, tupB "RULES" ["up", "down", "near"], kitF (.inl "Measure") (.inl "Measure") true, kitF (.inl "NoSize") (.inl "NoSize") true, kitF (.inl "NoSize") (.inl "NoLand") false, kitF (.inl "NoSize") (.inl "LandTwice") false, kitF (.inl "NoSize") (.inr "LookupError") true, supDB "NoSize" h_NoSize_init "/claim/cut.py"]
def sps : List He.DefD := [h_NoSize_init]
abbrev hk : PySem.W.Hook := hookS 5 fa fn ex sps
def ob (s : PySem.W.SharedT) : (He.AlD × Bool) × List SupW := obsS 5 fa fn ex sps (HandSHeadRun.getT s)
theorem ob_eq (s : PySem.W.SharedT) : ob s = hk.obs s.abs := obsS_eq (HandSHeadRun.getT_eq s)
theorem run (w : World) : HandSHeadRun.RunEq R (PySem.W.view R.prog [55]) hk ob 20000 [("_wall" : PySem.Str), ("LadderError" : PySem.Str), ("NoMeasure" : PySem.Str), ("NoStretch" : PySem.Str), ("NoLadder" : PySem.Str), ("Slip" : PySem.Str), ("LandError" : PySem.Str), ("NoSize" : PySem.Str), ("NoLand" : PySem.Str), ("LandTwice" : PySem.Str), ("NoBottom" : PySem.Str), ("is_whole" : PySem.Str), ("common_part" : PySem.Str), ("written" : PySem.Str), ("Measure" : PySem.Str), ("is_measure_or_none" : PySem.Str), ("slip_of" : PySem.Str), ("is_empty" : PySem.Str), ("end_text" : PySem.Str), ("cut_low" : PySem.Str), ("cut_high" : PySem.Str), ("Stretch" : PySem.Str), ("MOST_MARKS" : PySem.Str), ("RULES" : PySem.Str), ("are_marks" : PySem.Str), ("is_rule" : PySem.Str), ("is_span" : PySem.Str), ("midsts_of" : PySem.Str), ("size_by_rule" : PySem.Str), ("end_at" : PySem.Str), ("stretch_by_rule" : PySem.Str), ("has_size" : PySem.Str), ("bound_text" : PySem.Str), ("Ladder" : PySem.Str), ("_law_hand" : PySem.Str), ("_law_take" : PySem.Str), ("_law_of" : PySem.Str), ("_law_ladder" : PySem.Str), ("_law_near" : PySem.Str), ("_law_measure" : PySem.Str), ("_law_end" : PySem.Str), ("_law_made" : PySem.Str), ("_law_ends" : PySem.Str), ("_law_cut" : PySem.Str), ("_law_is_end" : PySem.Str), ("_law_stretch_right" : PySem.Str), ("_law_refused" : PySem.Str), ("_law_right" : PySem.Str)] w := by
  intro os
  kernel_rfl

theorem facts {K : PySem.W.Frag} {h : Heap} {mg : Str → Option Value} (X : K.In h) (G : h.Ns mainGlobals mg) (c : He.SaysD fa fn K) (cx : (ex.all fun f => f K) = true) (csp : sps.map (fun d => supW K d.at_) = sps.map supVal) : ∃ φ : Fds, Txt R.prog K mg φ := by
  obtain ⟨d0, F0⟩ := c.def_ 0 (d := h_is_whole) rfl
  obtain ⟨d1, F1⟩ := c.def_ 1 (d := h_common_part) rfl
  obtain ⟨d2, F2⟩ := c.def_ 2 (d := h_Measure_init) rfl
  obtain ⟨d3, F3⟩ := c.def_ 3 (d := h_Measure_eq) rfl
  obtain ⟨d4, F4⟩ := c.def_ 4 (d := h_Measure_plus) rfl
  obtain ⟨d5, F5⟩ := c.def_ 5 (d := h_Measure_parted) rfl
  obtain ⟨d6, F6⟩ := c.def_ 6 (d := h_Measure_is_below) rfl
  obtain ⟨d7, F7⟩ := c.def_ 7 (d := h_is_measure_or_none) rfl
  obtain ⟨d8, F8⟩ := c.def_ 8 (d := h_slip_of) rfl
  obtain ⟨d9, F9⟩ := c.def_ 9 (d := h_is_empty) rfl
  obtain ⟨d10, F10⟩ := c.def_ 10 (d := h_cut_low) rfl
  obtain ⟨d11, F11⟩ := c.def_ 11 (d := h_cut_high) rfl
  obtain ⟨d12, F12⟩ := c.def_ 12 (d := h_Stretch_init) rfl
  obtain ⟨d13, F13⟩ := c.def_ 13 (d := h_Stretch_cut) rfl
  obtain ⟨d14, F14⟩ := c.def_ 14 (d := h_are_marks) rfl
  obtain ⟨d15, F15⟩ := c.def_ 15 (d := h_is_rule) rfl
  obtain ⟨d16, F16⟩ := c.def_ 16 (d := h_is_span) rfl
  obtain ⟨d17, F17⟩ := c.def_ 17 (d := h_midsts_of) rfl
  obtain ⟨d18, F18⟩ := c.def_ 18 (d := h_end_at) rfl
  obtain ⟨d19, F19⟩ := c.def_ 19 (d := h_stretch_by_rule) rfl
  obtain ⟨d20, F20⟩ := c.def_ 20 (d := h_has_size) rfl
  obtain ⟨d21, F21⟩ := c.def_ 21 (d := h_Ladder_init) rfl
  obtain ⟨d22, F22⟩ := c.def_ 22 (d := h_Ladder_len) rfl
  obtain ⟨d23, F23⟩ := c.def_ 23 (d := h_Ladder_stretch) rfl
  obtain ⟨d24, F24⟩ := c.def_ 24 (d := h_l_hand) rfl
  obtain ⟨d25, F25⟩ := c.def_ 25 (d := h_l_take) rfl
  obtain ⟨d26, F26⟩ := c.def_ 26 (d := h_l_of) rfl
  obtain ⟨d27, F27⟩ := c.def_ 27 (d := h_l_ladder) rfl
  obtain ⟨d28, F28⟩ := c.def_ 28 (d := h_l_near) rfl
  obtain ⟨d29, F29⟩ := c.def_ 29 (d := h_l_measure) rfl
  obtain ⟨d30, F30⟩ := c.def_ 30 (d := h_l_end) rfl
  obtain ⟨d31, F31⟩ := c.def_ 31 (d := h_l_made) rfl
  obtain ⟨d32, F32⟩ := c.def_ 32 (d := h_l_ends) rfl
  obtain ⟨d33, F33⟩ := c.def_ 33 (d := h_l_cut) rfl
  obtain ⟨d34, F34⟩ := c.def_ 34 (d := h_l_is_end) rfl
  obtain ⟨d35, F35⟩ := c.def_ 35 (d := h_l_stretch_right) rfl
  obtain ⟨d36, F36⟩ := c.def_ 36 (d := h_l_refused) rfl
  obtain ⟨d37, F37⟩ := c.def_ 37 (d := h_l_right) rfl
  obtain ⟨d38, F38⟩ := c.def_ 38 (d := h_law) rfl
  obtain ⟨e0, e0c, e0a, G0⟩ := supD_ok (sup_at csp 0 (d := h_NoSize_init) rfl) (ex_at cx 12 (f := supDB "NoSize" h_NoSize_init "/claim/cut.py") rfl)
  refine ⟨⟨d0, d1, d2, d3, d4, d5, d6, d7, d8, d9, d10, d11, d12, d13, d14, d15, d16, d17, d18, d19, d20, d21, d22, d23, d24, d25, d26, d27, d28, d29, d30, d31, d32, d33, d34, d35, d36, d37, d38, e0, e0c, e0a⟩, ?_⟩
  exact {
    g_is_whole := He.glo_ok X G (c.fact 0 (f := .glo "is_whole") rfl),
    g_common_part := He.glo_ok X G (c.fact 1 (f := .glo "common_part") rfl),
    g_is_measure_or_none := He.glo_ok X G (c.fact 2 (f := .glo "is_measure_or_none") rfl),
    g_slip_of := He.glo_ok X G (c.fact 3 (f := .glo "slip_of") rfl),
    g_is_empty := He.glo_ok X G (c.fact 4 (f := .glo "is_empty") rfl),
    g_cut_low := He.glo_ok X G (c.fact 5 (f := .glo "cut_low") rfl),
    g_cut_high := He.glo_ok X G (c.fact 6 (f := .glo "cut_high") rfl),
    g_are_marks := He.glo_ok X G (c.fact 7 (f := .glo "are_marks") rfl),
    g_is_rule := He.glo_ok X G (c.fact 8 (f := .glo "is_rule") rfl),
    g_is_span := He.glo_ok X G (c.fact 9 (f := .glo "is_span") rfl),
    g_midsts_of := He.glo_ok X G (c.fact 10 (f := .glo "midsts_of") rfl),
    g_end_at := He.glo_ok X G (c.fact 11 (f := .glo "end_at") rfl),
    g_stretch_by_rule := He.glo_ok X G (c.fact 12 (f := .glo "stretch_by_rule") rfl),
    g_has_size := He.glo_ok X G (c.fact 13 (f := .glo "has_size") rfl),
    g_l_hand := He.glo_ok X G (c.fact 14 (f := .glo "_law_hand") rfl),
    g_l_take := He.glo_ok X G (c.fact 15 (f := .glo "_law_take") rfl),
    g_l_of := He.glo_ok X G (c.fact 16 (f := .glo "_law_of") rfl),
    g_l_ladder := He.glo_ok X G (c.fact 17 (f := .glo "_law_ladder") rfl),
    g_l_near := He.glo_ok X G (c.fact 18 (f := .glo "_law_near") rfl),
    g_l_measure := He.glo_ok X G (c.fact 19 (f := .glo "_law_measure") rfl),
    g_l_end := He.glo_ok X G (c.fact 20 (f := .glo "_law_end") rfl),
    g_l_made := He.glo_ok X G (c.fact 21 (f := .glo "_law_made") rfl),
    g_l_ends := He.glo_ok X G (c.fact 22 (f := .glo "_law_ends") rfl),
    g_l_cut := He.glo_ok X G (c.fact 23 (f := .glo "_law_cut") rfl),
    g_l_is_end := He.glo_ok X G (c.fact 24 (f := .glo "_law_is_end") rfl),
    g_l_stretch_right := He.glo_ok X G (c.fact 25 (f := .glo "_law_stretch_right") rfl),
    g_l_refused := He.glo_ok X G (c.fact 26 (f := .glo "_law_refused") rfl),
    g_l_right := He.glo_ok X G (c.fact 27 (f := .glo "_law_right") rfl),
    g_law := He.glo_ok X G (c.fact 28 (f := .glo "law") rfl),
    g_Measure := He.glo_ok X G (c.fact 29 (f := .glo "Measure") rfl),
    g_Stretch := He.glo_ok X G (c.fact 30 (f := .glo "Stretch") rfl),
    g_Ladder := He.glo_ok X G (c.fact 31 (f := .glo "Ladder") rfl),
    g_NoSize := He.glo_ok X G (c.fact 32 (f := .glo "NoSize") rfl),
    z_super := He.free_ok X G (c.fact 33 (f := .free "super") rfl),
    g_RULES := He.glo_ok X G (c.fact 34 (f := .glo "RULES") rfl),
    g_LandError := He.glo_ok X G (c.fact 35 (f := .glo "LandError") rfl),
    g_LadderError := He.glo_ok X G (c.fact 36 (f := .glo "LadderError") rfl),
    g_NoLand := He.glo_ok X G (c.fact 37 (f := .glo "NoLand") rfl),
    g_LandTwice := He.glo_ok X G (c.fact 38 (f := .glo "LandTwice") rfl),
    v_MOST_MARKS := He.int_ok X G (c.fact 39 (f := .int "MOST_MARKS" 24) rfl),
    z_LookupError := He.free_ok X G (c.fact 40 (f := .free "LookupError") rfl),
    z_abs := He.free_ok X G (c.fact 41 (f := .free "abs") rfl),
    z_all := He.free_ok X G (c.fact 42 (f := .free "all") rfl),
    z_bool := He.free_ok X G (c.fact 43 (f := .free "bool") rfl),
    z_int := He.free_ok X G (c.fact 44 (f := .free "int") rfl),
    z_isinstance := He.free_ok X G (c.fact 45 (f := .free "isinstance") rfl),
    z_len := He.free_ok X G (c.fact 46 (f := .free "len") rfl),
    z_max := He.free_ok X G (c.fact 47 (f := .free "max") rfl),
    z_min := He.free_ok X G (c.fact 48 (f := .free "min") rfl),
    z_range := He.free_ok X G (c.fact 49 (f := .free "range") rfl),
    z_repr := He.free_ok X G (c.fact 50 (f := .free "repr") rfl),
    z_str := He.free_ok X G (c.fact 51 (f := .free "str") rfl),
    z_tuple := He.free_ok X G (c.fact 52 (f := .free "tuple") rfl),
    cl_Measure := He.cls_ok (c.fact 53 (f := .cls "Measure") rfl),
    na_Measure_top := He.noat_ok (c.fact 54 (f := .noat "Measure" "top") rfl),
    na_Measure_bottom := He.noat_ok (c.fact 55 (f := .noat "Measure" "bottom") rfl),
    me_Measure_eq := He.meth_ok (c.fact 56 (f := .meth "Measure" "__eq__") rfl),
    me_Measure_plus := He.meth_ok (c.fact 57 (f := .meth "Measure" "plus") rfl),
    me_Measure_parted := He.meth_ok (c.fact 58 (f := .meth "Measure" "parted") rfl),
    me_Measure_is_below := He.meth_ok (c.fact 59 (f := .meth "Measure" "is_below") rfl),
    mk_Measure := He.mkr_ok (c.fact 60 (f := .mkr "Measure") rfl),
    cl_Stretch := He.cls_ok (c.fact 61 (f := .cls "Stretch") rfl),
    na_Stretch_low := He.noat_ok (c.fact 62 (f := .noat "Stretch" "low") rfl),
    na_Stretch_high := He.noat_ok (c.fact 63 (f := .noat "Stretch" "high") rfl),
    na_Stretch_low_in := He.noat_ok (c.fact 64 (f := .noat "Stretch" "low_in") rfl),
    na_Stretch_high_in := He.noat_ok (c.fact 65 (f := .noat "Stretch" "high_in") rfl),
    me_Stretch_cut := He.meth_ok (c.fact 66 (f := .meth "Stretch" "cut") rfl),
    mk_Stretch := He.mkr_ok (c.fact 67 (f := .mkr "Stretch") rfl),
    cl_Ladder := He.cls_ok (c.fact 68 (f := .cls "Ladder") rfl),
    na_Ladder_marks := He.noat_ok (c.fact 69 (f := .noat "Ladder" "marks") rfl),
    na_Ladder_rule := He.noat_ok (c.fact 70 (f := .noat "Ladder" "rule") rfl),
    na_Ladder_least := He.noat_ok (c.fact 71 (f := .noat "Ladder" "least") rfl),
    na_Ladder_most := He.noat_ok (c.fact 72 (f := .noat "Ladder" "most") rfl),
    me_Ladder_len := He.meth_ok (c.fact 73 (f := .meth "Ladder" "__len__") rfl),
    me_Ladder_stretch := He.meth_ok (c.fact 74 (f := .meth "Ladder" "stretch") rfl),
    mk_Ladder := He.mkr_ok (c.fact 75 (f := .mkr "Ladder") rfl),
    sc_NoSize := supC_ok (ex_at cx 0 (f := supCB "NoSize" "LookupError" "LookupError.__new__" "LookupError.__init__" leTail) rfl),
    si_NoSize := supI_ok (ex_at cx 1 (f := supIB "NoSize") rfl),
    xn_NoSize_number := xfN_ok (ex_at cx 2 (f := xfNB "NoSize" "number") rfl),
    ii_Measure := isC_ok (ex_at cx 3 (f := isCB "Measure") rfl),
    xc_NoSize := excC_ok (ex_at cx 4 (f := excCB "NoSize") rfl),
    xm_NoSize_LandError := My.exm_ok (ex_at cx 5 (f := exmB "NoSize" "LandError" true) rfl),
    tp_RULES := tup_ok (ex_at cx 6 (f := tupB "RULES" ["up", "down", "near"]) rfl),
    k_Measure_Measure := kitF_ok (ex_at cx 7 (f := kitF (.inl "Measure") (.inl "Measure") true) rfl),
    k_NoSize_NoSize := kitF_ok (ex_at cx 8 (f := kitF (.inl "NoSize") (.inl "NoSize") true) rfl),
    k_NoSize_NoLand := kitF_ok (ex_at cx 9 (f := kitF (.inl "NoSize") (.inl "NoLand") false) rfl),
    k_NoSize_LandTwice := kitF_ok (ex_at cx 10 (f := kitF (.inl "NoSize") (.inl "LandTwice") false) rfl),
    k_NoSize_LookupError := kitF_ok (ex_at cx 11 (f := kitF (.inl "NoSize") (.inr "LookupError") true) rfl),
    f_is_whole := F0,
    f_common_part := F1,
    f_Measure_init := F2,
    f_Measure_eq := F3,
    f_Measure_plus := F4,
    f_Measure_parted := F5,
    f_Measure_is_below := F6,
    f_is_measure_or_none := F7,
    f_slip_of := F8,
    f_is_empty := F9,
    f_cut_low := F10,
    f_cut_high := F11,
    f_Stretch_init := F12,
    f_Stretch_cut := F13,
    f_are_marks := F14,
    f_is_rule := F15,
    f_is_span := F16,
    f_midsts_of := F17,
    f_end_at := F18,
    f_stretch_by_rule := F19,
    f_has_size := F20,
    f_Ladder_init := F21,
    f_Ladder_len := F22,
    f_Ladder_stretch := F23,
    f_l_hand := F24,
    f_l_take := F25,
    f_l_of := F26,
    f_l_ladder := F27,
    f_l_near := F28,
    f_l_measure := F29,
    f_l_end := F30,
    f_l_made := F31,
    f_l_ends := F32,
    f_l_cut := F33,
    f_l_is_end := F34,
    f_l_stretch_right := F35,
    f_l_refused := F36,
    f_l_right := F37,
    f_law := F38,
    su_NoSize_init := G0,
    pfile := by kernel_rfl,
    ptop := by kernel_rfl }
def sp_law (K : PySem.W.Frag) : Sp := fun vs H Q _ => ∃ (a : Addr) (ns : List Int), vs = [.ref a] ∧ SqL K H a (ns.map V.int) ∧ ns.length ≤ 63 ∧ ∀ H', Q (.bl true) H'

end K15
open PySem PySem.W PySem.Calls PyProof.Rows in
set_option maxRecDepth 100000 in
set_option maxHeartbeats 0 in
theorem K15.pre (hl : ∀ {P : Program} {w : World} {K : PySem.W.Frag} {mg : Str → Option Value} {base : Heap} {φ : K15.Fds} (T : K15.Txt P K mg φ), My.FnG P w K mg base L2.CX0 10 (He.fAd K ("law", none)) φ.law K15.p_law (K15.sp_law K)) : PySem.Challenge.rw_sizeladders_k15_stretches_of_sizes.Holds := by
  w_on; o_law
  refine HandSHeadRun.head_any (r := OpenLaw.row PySem.Challenge.rw_sizeladders_k15_stretches_of_sizes) (q := view (OpenLaw.row PySem.Challenge.rw_sizeladders_k15_stretches_of_sizes).prog [55]) (H := K15.hk) (ob := K15.ob) (M := 20000) (loose := [("_wall" : PySem.Str), ("LadderError" : PySem.Str), ("NoMeasure" : PySem.Str), ("NoStretch" : PySem.Str), ("NoLadder" : PySem.Str), ("Slip" : PySem.Str), ("LandError" : PySem.Str), ("NoSize" : PySem.Str), ("NoLand" : PySem.Str), ("LandTwice" : PySem.Str), ("NoBottom" : PySem.Str), ("is_whole" : PySem.Str), ("common_part" : PySem.Str), ("written" : PySem.Str), ("Measure" : PySem.Str), ("is_measure_or_none" : PySem.Str), ("slip_of" : PySem.Str), ("is_empty" : PySem.Str), ("end_text" : PySem.Str), ("cut_low" : PySem.Str), ("cut_high" : PySem.Str), ("Stretch" : PySem.Str), ("MOST_MARKS" : PySem.Str), ("RULES" : PySem.Str), ("are_marks" : PySem.Str), ("is_rule" : PySem.Str), ("is_span" : PySem.Str), ("midsts_of" : PySem.Str), ("size_by_rule" : PySem.Str), ("end_at" : PySem.Str), ("stretch_by_rule" : PySem.Str), ("has_size" : PySem.Str), ("bound_text" : PySem.Str), ("Ladder" : PySem.Str), ("_law_hand" : PySem.Str), ("_law_take" : PySem.Str), ("_law_of" : PySem.Str), ("_law_ladder" : PySem.Str), ("_law_near" : PySem.Str), ("_law_measure" : PySem.Str), ("_law_end" : PySem.Str), ("_law_made" : PySem.Str), ("_law_ends" : PySem.Str), ("_law_cut" : PySem.Str), ("_law_is_end" : PySem.Str), ("_law_stretch_right" : PySem.Str), ("_law_refused" : PySem.Str), ("_law_right" : PySem.Str)]) (d := HandSHeadRun.topDef (OpenLaw.row PySem.Challenge.rw_sizeladders_k15_stretches_of_sizes).prog 55) (kwd := []) K15.ob_eq
    (by kernel_rfl) (fun s => by kernel_rfl) K15.run (by kernel_rfl) (by kernel_rfl) (by kernel_rfl) (by rfl) (by first | assumption | decide +kernel) (by decide +kernel) ⟨rfl, rfl, rfl, rfl, rfl, by decide +kernel⟩ ?hw ?hc
  case hw => w_witness2
  case hc =>
    refine My.walk_G (l := PySem.Challenge.rw_sizeladders_k15_stretches_of_sizes) (n := 63) (k := 10) (x := "_law_script") (CX := L2.CX0) rfl (by decide) (by kernel_rfl) ⟨rfl, by decide, by decide⟩ ?F (fun _ _ _ _ z => z)
    intro w mg fa h Y G hmg0
    obtain ⟨K, KX, c, cx, csp⟩ := Y
    have hmg : mg ("law" : PySem.Str) = some (.ref fa) := by
      have e : (HandSHeadRun.topDef (OpenLaw.row PySem.Challenge.rw_sizeladders_k15_stretches_of_sizes).prog 55).name = ("law" : PySem.Str) := by kernel_rfl
      rw [← e]
      exact hmg0
    obtain ⟨φ, T⟩ := K15.facts KX G c cx csp
    have e := hmg.symm.trans T.g_law
    cases e
    have b := L2.FunD.bindsA (ps := K15.p_law) T.f_law fun _ _ _ _ _ _ us hl => match us, hl with | [_], _ => rfl
    exact ⟨K, φ.law, K15.sp_law K, KX, fun s v => b s [v] rfl, fun H a ns hl _ hS => ⟨a, ns, rfl, hS, hl, fun _ => rfl⟩, fun base _ _ => hl T⟩

/-! ### repr of plain dicts; things of any kind -/
namespace My
open PySem PySem.Spec PyProof.Rows L2 NdefX
def encK : Key → PyData
  | .inl i => .int i
  | .inr x => .str x
/-- a plain value: none, a truth, a whole number, a text -/
inductive Plain : V → PyData → Prop
  | non : Plain .non .none
  | bl (b : Bool) : Plain (.bl b) (.bool b)
  | int (i : Int) : Plain (.int i) (.int i)
  | str (x : Str) : Plain (.str x) (.str x)
inductive Flat : List (Key × V) → List (PyData × PyData) → Prop
  | nil : Flat [] []
  | cons {k : Key} {v : V} {d : PyData} {kvs : List (Key × V)} {D : List (PyData × PyData)} : Plain v d → Flat kvs D → Flat ((k, v) :: kvs) ((encK k, d) :: D)
theorem Plain.reads {h : Heap} {v : V} {d : PyData} {u : Value} (p : Plain v d) (r : L2.RelV v u) : Reads h u d [] := by
  cases p with
  | non => cases r; exact .none
  | bl b => cases r; exact .bool b
  | int i => obtain ⟨t, rfl⟩ := r; exact .int i t
  | str x => obtain ⟨t, rfl⟩ := r; exact .str x t
theorem Flat.reads {h : Heap} : ∀ {kvs : List (Key × V)} {D : List (PyData × PyData)} {vs : List (Key × Value)}, Flat kvs D → KV kvs vs → PyProof.V.PairsRead h encK vs D []
  | _, _, _, .nil, .nil => .nil
  | _, _, _, .cons p f, .cons (b := (k', u)) r rs => by
    obtain ⟨e, r⟩ := r
    cases e
    exact PyProof.V.PairsRead.cons (p.reads r) (f.reads rs)
theorem encK_reads {h : Heap} {P : Program} {w : World} (k : Key) (key : Value) (e : (mixKind P w).is k key = true) : Reads h key (encK k) [] := by
  rcases keyIs_shape e with ⟨i, t, rfl, rfl⟩ | ⟨x, t, rfl, rfl⟩
  · exact .int i t
  · exact .str x t
/-- repr of a plain dict -/
theorem call_reprK {X : Cx} {n : Nat} (gd : X.A.guards = some []) (hr : Room n X.A) : CallR X (.builtin "repr") (fun xs H Q => ∃ (a : Addr) (kvs : List (Key × V)) (D : List (PyData × PyData)), xs = [.ref a] ∧ H a = some (.dK kvs) ∧ Flat kvs D ∧ (PyData.dict D).showable = true ∧ (PyData.dict D).depth ≤ 60 ∧ (PyData.dict D).shown.length ≤ sizeLine ∧ Q (.str (PyData.dict D).shown) H) := by
  intro pins s σ H xs us Q I r h
  obtain ⟨a, kvs, D, rfl, ha, hf, hs, hp, hz, q⟩ := h
  obtain ⟨u, rfl, rx⟩ := vals1 r
  cases (show u = Value.ref a from rx)
  obtain ⟨_, hsys, vs, hkv, hd⟩ := (show ObjOk X.prog X.w H s.heap a (.dK kvs) from I.hok a _ ha)
  have rd : Reads s.heap (.ref a) (.dict D) (a :: []) := PyProof.V.reads_dictOf (encK_reads) hd (hf.reads hkv)
  have hu := hr.un
  refine repr_of_reads' rd hs (fun _ z => ?_) gd (by omega) (fun _ _ e => e) (fun h' t tk hk => ⟨.str _, H, I.kept hk, ⟨t, rfl⟩, q⟩) hz
  have e : sysModules = a := by simpa using z
  rw [← e] at hsys
  simp at hsys
/-- what repr shows of it -/
inductive Shw (K : PySem.W.Frag) (H : Hp) : V → Str → Prop
  | data {v : V} {d : PyData} : Dp K H v d → d.showable = true → d.hasDict = false → d.depth ≤ 60 → d.shown.length ≤ sizeLine → Shw K H v d.shown
  | dict {a : Addr} {kvs : List (Key × V)} {D : List (PyData × PyData)} : H a = some (.dK kvs) → Flat kvs D → (PyData.dict D).showable = true → (PyData.dict D).depth ≤ 60 → (PyData.dict D).shown.length ≤ sizeLine → Shw K H (.ref a) (PyData.dict D).shown
theorem call_reprX {X : Cx} {n : Nat} (gd : X.A.guards = some []) (hr : Room n X.A) : CallR X (.builtin "repr") (fun xs H Q => ∃ v z, xs = [v] ∧ Shw X.K H v z ∧ Q (.str z) H) := by
  intro pins s σ H xs us Q I r h
  obtain ⟨v, z, rfl, hs, q⟩ := h
  cases hs with
  | data d s h1 h2 h3 => exact call_reprD gd hr pins _ σ H _ us Q I r ⟨_, _, rfl, d, s, h1, h2, h3, q⟩
  | dict ha hf s h2 h3 => exact call_reprK gd hr pins _ σ H _ us Q I r ⟨_, _, _, rfl, ha, hf, s, h2, h3, q⟩
mutual
theorem Dp.same {K : PySem.W.Frag} {H H' : Hp} (s : Same H H') : ∀ {v : V} {d : PyData}, Dp K H v d → Dp K H' v d
  | _, _, .non => .non
  | _, _, .bl b => .bl b
  | _, _, .int i => .int i
  | _, _, .str x => .str x
  | _, _, .lst h a => .lst (s.seq h) (DpAll.same s a)
  | _, _, .tup h a => .tup (s.sqt h) (DpAll.same s a)
theorem DpAll.same {K : PySem.W.Frag} {H H' : Hp} (s : Same H H') : ∀ {vs : List V} {ds : List PyData}, DpAll K H vs ds → DpAll K H' vs ds
  | _, _, .nil => .nil
  | _, _, .cons h r => .cons (Dp.same s h) (DpAll.same s r)
end
theorem Shw.same {K : PySem.W.Frag} {H H' : Hp} {v : V} {z : Str} (h : Shw K H v z) (s : Same H H') : Shw K H' v z := by
  cases h with
  | data d a b c e => exact .data (Dp.same s d) a b c e
  | dict ha hf a b c => exact .dict (s _ _ ha) hf a b c
/-- its kind: one of the seven built-in ones -/
def Kd (H : Hp) (v : V) (kn : String) : Prop := (v = .non ∧ kn = "NoneType") ∨ (∃ b, v = .bl b ∧ kn = "bool") ∨ (∃ i, v = .int i ∧ kn = "int") ∨ (∃ z, v = .str z ∧ kn = "str") ∨ (∃ a xs, v = .ref a ∧ H a = some (.lst xs) ∧ kn = "list") ∨ (∃ a xs, v = .ref a ∧ H a = some (.tup xs) ∧ kn = "tuple") ∨ (∃ a xs, v = .ref a ∧ H a = some (.dK xs) ∧ kn = "dict")
theorem Kd.same {H H' : Hp} {v : V} {kn : String} (h : Kd H v kn) (s : Same H H') : Kd H' v kn := by
  rcases h with h | h | h | h | ⟨a, xs, e, h, n⟩ | ⟨a, xs, e, h, n⟩ | ⟨a, xs, e, h, n⟩
  · exact .inl h
  · exact .inr (.inl h)
  · exact .inr (.inr (.inl h))
  · exact .inr (.inr (.inr (.inl h)))
  · exact .inr (.inr (.inr (.inr (.inl ⟨a, xs, e, s _ _ h, n⟩))))
  · exact .inr (.inr (.inr (.inr (.inr (.inl ⟨a, xs, e, s _ _ h, n⟩)))))
  · exact .inr (.inr (.inr (.inr (.inr (.inr ⟨a, xs, e, s _ _ h, n⟩)))))
theorem Kd.ty {K : PySem.W.Frag} {H : Hp} {v : V} {kn : String} (h : Kd H v kn) : TyX K H v (.type kn) := by
  rcases h with ⟨rfl, rfl⟩ | ⟨b, rfl, rfl⟩ | ⟨i, rfl, rfl⟩ | ⟨z, rfl, rfl⟩ | ⟨a, xs, rfl, h, rfl⟩ | ⟨a, xs, rfl, h, rfl⟩ | ⟨a, xs, rfl, h, rfl⟩
  · exact .base .non
  · exact .base (.bl b)
  · exact .base (.int i)
  · exact .base (.str z)
  · exact .base (.lst h)
  · exact .base (.tup h)
  · exact .base (.dK h)
theorem Kd.names {H : Hp} {v : V} {kn : String} (h : Kd H v kn) : kn = "NoneType" ∨ kn = "bool" ∨ kn = "int" ∨ kn = "str" ∨ kn = "list" ∨ kn = "tuple" ∨ kn = "dict" := by
  rcases h with ⟨_, h⟩ | ⟨_, _, h⟩ | ⟨_, _, h⟩ | ⟨_, _, h⟩ | ⟨_, _, _, _, h⟩ | ⟨_, _, _, _, h⟩ | ⟨_, _, _, _, h⟩
  · exact .inl h
  · exact .inr (.inl h)
  · exact .inr (.inr (.inl h))
  · exact .inr (.inr (.inr (.inl h)))
  · exact .inr (.inr (.inr (.inr (.inl h))))
  · exact .inr (.inr (.inr (.inr (.inr (.inl h)))))
  · exact .inr (.inr (.inr (.inr (.inr (.inr h)))))
/-- isinstance of a thing of these kinds against a built-in class -/
theorem kind_is {K : PySem.W.Frag} {H : Hp} {v : V} {kn c : String} (h : Kd H v kn) (hc : c = "int" ∨ c = "bool" ∨ c = "str" ∨ c = "tuple" ∨ c = "list") : PySem.W.kitOne K (.type kn) (.type c) = some (decide (kn = c) || (decide (kn = "bool") && decide (c = "int"))) := by
  rcases h.names with rfl | rfl | rfl | rfl | rfl | rfl | rfl <;> rcases hc with rfl | rfl | rfl | rfl | rfl <;> exact kit_ty (by decide +kernel)
/-- is_whole of anything of these kinds -/
def sp_iswX : Sp := fun vs H Q _ => ∃ (v : V) (kn : String), vs = [v] ∧ Kd H v kn ∧ Q (.bl (decide (kn = "int"))) H
/-! ### o.m(e, ..) in a body from which an error may come -/
def tMethS (C : Addr) (m : Str) (sp : Sp) (dvs : List V) (E : L2.St → XK) (ta : TE) (t : TA) : TE := fun σ H Q => ta σ H fun x H1 => ∃ a dx fs, x = .ref a ∧ H1 a = some (.ins C dx fs) ∧ fs.lookup m = none ∧
  t σ H1 fun vs H2 => sp (x :: (vs ++ dvs)) H2 Q (E σ)
section
variable {X : Cx} {CX : CXT} {k : Nat} {f C : Addr} {fd : FuncData} {ps : List Str} {sp : Sp} {dvs : List V} {ds : List Value} {E : L2.St → XK} {x m : Str} {p pos apos : Pos} {e o : Expr} {es : List Expr} {ta : TE} {t : TA}
theorem run_fnD {pins : List (Addr × Obj)} {σ : L2.St} {H : Hp} {s : Shared} {Q : VK} {us : List Value} {vs : List V} (F : FnOk X.prog X.w X.K X.mg X.base CX k f fd ps sp) (hr : Room k X.A) (hb : Binds X.K fd ps ds) (hd : Vals dvs ds) (hx : PassesAt CX X σ (E σ))
    (I : Inv X pins σ H s) (r : Vals vs us) (h : sp (vs ++ dvs) H Q (E σ)) : wpAny (model X.prog X.w) X.A (call (.ref f) us) (EP X pins σ Q) X.xe s := by
  have r2 : Vals (vs ++ dvs) (us ++ ds) := r.append hd
  have hl : (us ++ ds).length = ps.length := by rw [← r2.length]; exact F.len _ _ _ _ h
  refine wpAny_call (codeAny_mono (F.run X.A X.stack s H ⟨us, []⟩ (us ++ ds) (vs ++ dvs) Q (E σ) hr I.env0 (hb s us I.kIn hl) r2 h) fun rr s' hq => ?_)
  cases rr with
  | error e => exact hx pins H s e s' I hq
  | ok fl =>
    cases fl with
    | ret u => exact I.after hq
    | next => exact False.elim hq
    | brk => exact False.elim hq
    | cont => exact False.elim hq
theorem pe_methS {pl : Sem Bool} (he : PE X o ta) (c : Cls X.K C) (hm : Meth X.K C m f) (F : FnOk X.prog X.w X.K X.mg X.base CX k f fd ps sp) (hr : Room k X.A) (hb : Binds X.K fd ps ds) (hd : Vals dvs ds) (hx : ∀ σ, PassesAt CX X σ (E σ)) (ha : PA X (e :: es) t)
    (hst : starEach (e :: es) X.env = (false, eval e X.env) :: starEach es X.env := by rfl) (hpl : (backTo pos (starEach es X.env)).any (·.1) = false := by rfl)
    (ht : eval (.Call (.Attribute o m apos) (e :: es) [] pos) X.env = (do
      let ov ← eval o X.env
      standAt apos.atName
      let (f, first) ← holding [ov] (getMethod ov m pl)
      callWith pos f first (backTo pos (starEach (e :: es) X.env)) (backToKw pos (keywordEach [] X.env))) := by rfl) :
    PE X (.Call (.Attribute o m apos) (e :: es) [] pos) (tMethS C m sp dvs E ta t) := by
  refine ⟨fun pins s σ H Q I h => ?_⟩
  refine PySem.W.methodCall_KW (pl := pl) (thn (he.run pins s σ H _ I h) fun u s1 ⟨x, H1, I1, rx, a, dx, fs, ex, ea, l, q⟩ => ?_) ht
  subst ex
  obtain rfl : u = Value.ref a := rx
  refine getmeth_ok I1 ea c hm l ?_
  refine PySem.W.callWith_K (first := [.ref a]) (h₀ := X.base) I.ok.mod.kin hm.kp (thn (ha.run pos pins s1 σ H1 _ I1 q) fun us s2 ⟨vs, H2, I2, r, q2⟩ => ⟨I2.kIn, ?_⟩) hst hpl
  exact run_fnD (us := .ref a :: us) (vs := .ref a :: vs) F hr hb hd (hx σ) I2 (.cons rfl r) q2
end
end My
namespace K15
open PySem PySem.Spec PyProof.Rows L2 My
local macro_rules | `(tactic| walk_at "c") => `(tactic| first | exact Eq.refl _ | ((with_reducible show (_ : Int) ≤ _); omega) | ((with_reducible show (_ : Int) < _); omega) | ((with_reducible show (_ : Nat) ≤ _); omega) | ((with_reducible show (_ : Nat) < _); omega) | assumption | with_reducible exact lf_marks _ _ _ _ | with_reducible exact lf_rule _ _ _ _ | with_reducible exact lf_least _ _ _ _ | with_reducible exact lf_most _ _ _ _ | with_reducible exact mf_top _ _ | with_reducible exact mf_bottom _ _ | with_reducible exact sf_low _ _ _ _ | with_reducible exact sf_high _ _ _ _ | with_reducible exact sf_low_in _ _ _ _ | with_reducible exact sf_high_in _ _ _ _ | exact SqL.of (by assumption) | exact SqT.of (by assumption) | exact Or.inl (SqL.of (by assumption)) | exact Or.inr (SqT.of (by assumption)) | exact Or.inr (by assumption) | exact Or.inl (by assumption) | omega | exact atI_nat (by assumption) | exact atI_of (n := 0) rfl (by assumption) | exact logS (by omega) | exact Or.inl (Or.inl ⟨by omega, by omega⟩) | exact Or.inl (Or.inr ⟨by omega, by omega⟩) | exact szb rfl | exact szs (by omega) | exact szl (by omega) | exact Or.inl ⟨Eq.refl _, _, SqL.of (by assumption)⟩ | exact ⟨_, SqT.of (by assumption)⟩ | exact ⟨_, SqL.of (by assumption)⟩ | exact ⟨by omega, by omega, by omega, by omega⟩)
local macro_rules | `(tactic| walk_at "e") => `(tactic| first | rfl | exact ⟨rfl, rfl⟩ | exact ⟨rfl, rfl, rfl⟩ | assumption | exact trivial)
local macro_rules | `(tactic| walk_at "w1") => `(tactic| first
  | refine q_belowT (by assumption) (by assumption) (by omega) (by omega) ?_ | refine q_belowA (by assumption) (by assumption) (by omega) (by omega) ?_ | refine q_subT (by assumption) (by assumption) (by omega) (by omega) (by omega) ?_
  | refine meth_q (by assumption) (by decide +kernel) (by decide +kernel) ?_ | refine meth_l (by assumption) (by decide +kernel) (by decide +kernel) (by decide +kernel) (by decide +kernel) ?_ | refine meth_s (by assumption) (by decide +kernel) (by decide +kernel) (by decide +kernel) (by decide +kernel) ?_
  | apply @Exists.intro V | apply @Exists.intro Int | apply @Exists.intro Addr | apply @Exists.intro Bool | apply @Exists.intro (List V) | apply @Exists.intro Str | apply @Exists.intro Nat | apply @Exists.intro (List (Str × V))
  | refine And.intro (by walk_at "c") ?_ | refine iteT ?_ | refine iteF ?_ | refine iteDT (by omega) ?_ | refine iteDF (by omega) ?_ | refine iteNS (by omega) ?_ | refine iteNT (by omega) ?_)
local macro_rules | `(tactic| walk_at "w") => `(tactic| repeat (walk_at "w1"))
local macro_rules | `(tactic| walk_at "wa1") => `(tactic| first | refine q_addT (by assumption) (by assumption) (by omega) (by omega) (by omega) ?_ | refine q_mulT (by assumption) (by assumption) (by omega) (by omega) (by omega) ?_ | walk_at "w1")
local macro_rules | `(tactic| walk_at "wa") => `(tactic| repeat (walk_at "wa1"))
local macro_rules | `(tactic| walk_at "hand") => `(tactic| first | assumption | exact HandAt.up (by walk_at "hand") (by assumption))
local macro_rules | `(tactic| walk_at "hp") => `(tactic| first | assumption | exact upd_same | exact up1 (by assumption) (by walk_at "hp") | exact Kp.get (by assumption) (by walk_at "hand") (by walk_at "hp") (by rfl) | exact L2.Same.get (by assumption) (by walk_at "hp") | exact up2 (by assumption) (by walk_at "hp") (by rfl))


/-! a size's stretch in whole parts -/
def mZ (ms : List Int) (i : Nat) : Int := ms.getD i 0
theorem mZ_get {ms : List Int} {i : Nat} (h : i < ms.length) : ms[i]? = some (mZ ms i) := by
  unfold mZ
  rw [List.getD_eq_getElem?_getD, List.getElem?_eq_getElem h]
  rfl
theorem mZ_mem {ms : List Int} {i : Nat} (h : i < ms.length) : mZ ms i ∈ ms := List.mem_of_getElem? (mZ_get h)
theorem mZ_zq {d : Int} {ms : List Int} {i : Nat} (h : i < ms.length) : (zq d ms)[i]? = some (mZ ms i, d) := by
  unfold zq
  rw [List.getElem?_map, mZ_get h]
  rfl
abbrev EZ := Option Int × Bool
def rulZ (ms : List Int) (r : Str) (n : Nat) : EZ × EZ :=
  if r = "up" then ((if n = 0 then none else some (mZ ms (n - 1)), false), (some (mZ ms n), true))
  else if r = "down" then ((some (mZ ms n), true), (if n + 1 = ms.length then none else some (mZ ms (n + 1)), false))
  else ((if n = 0 then none else some ((mZ ms (n - 1) + mZ ms n) / 2), !decide (n = 0)), (if n + 1 = ms.length then none else some ((mZ ms n + mZ ms (n + 1)) / 2), false))
def cutZl (x : EZ) (b : Option Int) : EZ := match b with
  | none => x
  | some b => match x.1 with
    | none => (some b, true)
    | some a => if a < b then (some b, true) else x
def cutZh (x : EZ) (b : Option Int) : EZ := match b with
  | none => x
  | some b => match x.1 with
    | none => (some b, true)
    | some a => if b < a then (some b, true) else x
def someZ (x y : EZ) : Bool := match x.1, y.1 with
  | some a, some b => decide (a < b) || (decide (a = b) && x.2 && y.2)
  | _, _ => true
def okZ (x : EZ) : Prop := x.1 = none → x.2 = false
def bnZ (x : EZ) : Prop := ∀ m, x.1 = some m → -8000000 ≤ m ∧ m ≤ 8000000
theorem alike_of {a b : Option Q2} {i j : Bool} (h : PosO b) (e : a = b) (f : b.isSome = true → i = j) : Alike (a, i) (b, j) := by
  subst e
  exact ⟨ReO.refl h, f⟩
theorem endZ {d : Int} {ms : List Int} {n : Nat} : endQ (zq d ms) (n : Int) = if n < ms.length then some (mZ ms n, d) else none := by
  rw [endQ_in (n := n) rfl]
  by_cases h : n < ms.length
  · rw [if_pos h, mZ_zq h]
  · rw [if_neg h]
    exact List.getElem?_eq_none (by rw [zq_len]; omega)
theorem midZ {d : Int} {ms : List Int} {n : Nat} (h : n + 1 < ms.length) : endQ (midq (zq d ms)) (n : Int) = some (qhalf (mZ ms n, d) (mZ ms (n + 1), d)) := by
  rw [endQ_in (n := n) rfl]
  exact midq_get _ _ _ _ (mZ_zq (by omega)) (mZ_zq h)
theorem half_re {d a b : Int} (hd : 0 < d) (ha : a % 4 = 0) (hb : b % 4 = 0) : Re ((a + b) / 2, d) (qhalf (a, d) (b, d)) := by
  rw [qhalf_eq]
  refine ⟨hd, Int.mul_pos (Int.mul_pos hd hd) (by decide), ?_⟩
  have e : a + b = 2 * ((a + b) / 2) := by omega
  show (a + b) / 2 * (d * d * 2) = (a * d + b * d) * d
  generalize (a + b) / 2 = c at *
  have e2 : a * d + b * d = (2 * c) * d := by rw [← e, Int.add_mul]
  rw [e2]
  simp only [Int.mul_assoc, Int.mul_comm, Int.mul_left_comm]
theorem rulZ_ok {d : Int} {ms : List Int} {r : Str} {n : Nat} (hd : 0 < d) (fo : ∀ m ∈ ms, m % 4 = 0) (hn : n < ms.length) :
    Alike (oq d (rulZ ms r n).1.1, (rulZ ms r n).1.2) (rulE (zq d ms) r n).1 ∧ Alike (oq d (rulZ ms r n).2.1, (rulZ ms r n).2.2) (rulE (zq d ms) r n).2 := by
  have pz : PosL (zq d ms) := fun z hz => by
    obtain ⟨m, hm, rfl⟩ := List.mem_map.mp hz
    exact hd
  have lo1 : ∀ {i : Bool}, Alike (oq d (if n = 0 then none else some (mZ ms (n - 1))), i) (endQ (zq d ms) ((n : Int) - 1), i) := fun {i} => by
    refine alike_of (endQ_pos pz _) ?_ fun _ => rfl
    by_cases h : n = 0
    · subst h
      rw [if_pos rfl, endQ_none (by decide)] <;> rfl
    · rw [if_neg h, show (n : Int) - 1 = ((n - 1 : Nat) : Int) by omega, endZ, if_pos (by omega)] <;> rfl
  have me : Alike (oq d (some (mZ ms n)), true) ((zq d ms)[n]?, true) := by
    refine alike_of (getQ_pos pz _) ?_ fun _ => rfl
    rw [mZ_zq hn] <;> rfl
  have hi1 : Alike (oq d (if n + 1 = ms.length then none else some (mZ ms (n + 1))), false) (endQ (zq d ms) ((n : Int) + 1), false) := by
    refine alike_of (endQ_pos pz _) ?_ fun _ => rfl
    rw [show (n : Int) + 1 = ((n + 1 : Nat) : Int) by omega, endZ]
    by_cases h : n + 1 = ms.length
    · rw [if_pos h, if_neg (by omega)] <;> rfl
    · rw [if_neg h, if_pos (by omega)] <;> rfl
  unfold rulZ rulE
  by_cases h1 : r = "up"
  · rw [if_pos h1, if_pos h1]
    exact ⟨lo1, me⟩
  rw [if_neg h1, if_neg h1]
  by_cases h2 : r = "down"
  · rw [if_pos h2, if_pos h2]
    exact ⟨me, hi1⟩
  rw [if_neg h2, if_neg h2]
  constructor
  · by_cases h : n = 0
    · subst h
      rw [if_pos rfl]
      refine ⟨?_, fun z => by cases z⟩
      show ReO none (endQ (midq (zq d ms)) (((0 : Nat) : Int) - 1))
      rw [endQ_none (by decide)]
      trivial
    · rw [if_neg h]
      refine ⟨?_, fun _ => by simp [h]⟩
      show ReO (some _) (endQ (midq (zq d ms)) ((n : Int) - 1))
      obtain ⟨k, rfl⟩ : ∃ k, n = k + 1 := ⟨n - 1, by omega⟩
      rw [show ((k + 1 : Nat) : Int) - 1 = ((k : Nat) : Int) by omega, midZ hn]
      exact half_re hd (fo _ (mZ_mem (by omega))) (fo _ (mZ_mem hn))
  · by_cases h : n + 1 = ms.length
    · rw [if_pos h]
      refine ⟨?_, fun _ => rfl⟩
      show ReO none (endQ (midq (zq d ms)) (n : Int))
      rw [endQ_in (n := n) rfl, List.getElem?_eq_none (by rw [midq_len, zq_len]; omega)]
      trivial
    · rw [if_neg h]
      refine ⟨?_, fun _ => rfl⟩
      show ReO (some _) (endQ (midq (zq d ms)) (n : Int))
      rw [midZ (by omega)]
      exact half_re hd (fo _ (mZ_mem hn)) (fo _ (mZ_mem (by omega)))
theorem rulZ_good {ms : List Int} {r : Str} {n : Nat} (bn : ∀ m ∈ ms, -4000000 ≤ m ∧ m ≤ 4000000) (hn : n < ms.length) : (okZ (rulZ ms r n).1 ∧ bnZ (rulZ ms r n).1) ∧ okZ (rulZ ms r n).2 ∧ bnZ (rulZ ms r n).2 := by
  have b0 := bn _ (mZ_mem hn)
  have bl : n ≠ 0 → -4000000 ≤ mZ ms (n - 1) ∧ mZ ms (n - 1) ≤ 4000000 := fun h => bn _ (mZ_mem (by omega))
  have bh : n + 1 ≠ ms.length → -4000000 ≤ mZ ms (n + 1) ∧ mZ ms (n + 1) ≤ 4000000 := fun h => bn _ (mZ_mem (by omega))
  unfold rulZ
  by_cases h1 : r = "up"
  · rw [if_pos h1]
    refine ⟨⟨fun _ => rfl, fun m e => ?_⟩, fun e => (nomatch e), fun m e => by cases e; omega⟩
    by_cases h : n = 0
    · rw [if_pos h] at e; cases e
    · rw [if_neg h] at e; cases e; have := bl h; omega
  rw [if_neg h1]
  by_cases h2 : r = "down"
  · rw [if_pos h2]
    refine ⟨⟨fun e => (nomatch e), fun m e => by cases e; omega⟩, fun _ => rfl, fun m e => ?_⟩
    by_cases h : n + 1 = ms.length
    · rw [if_pos h] at e; cases e
    · rw [if_neg h] at e; cases e; have := bh h; omega
  rw [if_neg h2]
  refine ⟨⟨fun e => ?_, fun m e => ?_⟩, fun _ => rfl, fun m e => ?_⟩
  · by_cases h : n = 0
    · simp [h]
    · rw [if_neg h] at e; cases e
  · by_cases h : n = 0
    · rw [if_pos h] at e; cases e
    · rw [if_neg h] at e; cases e; have := bl h; omega
  · by_cases h : n + 1 = ms.length
    · rw [if_pos h] at e; cases e
    · rw [if_neg h] at e; cases e; have := bh h; omega
theorem cutZl_good {x : EZ} {b : Option Int} (h : okZ x ∧ bnZ x) (hb : ∀ z, b = some z → -4000040 ≤ z ∧ z ≤ 4000040) : okZ (cutZl x b) ∧ bnZ (cutZl x b) := by
  cases b with
  | none => exact h
  | some b =>
    have bb := hb b rfl
    have g : okZ (some b, true) ∧ bnZ (some b, true) := ⟨fun e => (nomatch e), fun m e => by cases e; omega⟩
    obtain ⟨x, i⟩ := x
    cases x with
    | none => exact g
    | some a =>
      show okZ (if a < b then (some b, true) else (some a, i)) ∧ bnZ (if a < b then (some b, true) else (some a, i))
      split
      · exact g
      · exact h
theorem cutZh_good {x : EZ} {b : Option Int} (h : okZ x ∧ bnZ x) (hb : ∀ z, b = some z → -4000040 ≤ z ∧ z ≤ 4000040) : okZ (cutZh x b) ∧ bnZ (cutZh x b) := by
  cases b with
  | none => exact h
  | some b =>
    have bb := hb b rfl
    have g : okZ (some b, true) ∧ bnZ (some b, true) := ⟨fun e => (nomatch e), fun m e => by cases e; omega⟩
    obtain ⟨x, i⟩ := x
    cases x with
    | none => exact g
    | some a =>
      show okZ (if b < a then (some b, true) else (some a, i)) ∧ bnZ (if b < a then (some b, true) else (some a, i))
      split
      · exact g
      · exact h
theorem oq_pos {d : Int} (hd : 0 < d) (b : Option Int) : PosO (oq d b) := by
  cases b with
  | none => trivial
  | some b => exact hd
theorem alike_rfl {x : Option Q2 × Bool} (h : PosO x.1) : Alike x x := Alike.refl h
theorem cutZl_ok {d : Int} (hd : 0 < d) (x : EZ) (b : Option Int) : Alike (oq d (cutZl x b).1, (cutZl x b).2) (cutLo (oq d x.1) x.2 (oq d b) true) := by
  obtain ⟨x, i⟩ := x
  cases b with
  | none =>
    cases x with
    | none => exact ⟨trivial, fun e => by cases e⟩
    | some a => exact Alike.refl (x := (some (a, d), i)) hd
  | some b =>
    cases x with
    | none => exact Alike.refl (x := (some (b, d), true)) hd
    | some a =>
      show Alike (oq d (if a < b then ((some b, true) : EZ) else (some a, i)).1, (if a < b then ((some b, true) : EZ) else (some a, i)).2) (if ltq (a, d) (b, d) = true then (some (b, d), true) else if eqq (a, d) (b, d) = true then (some (a, d), i && true) else (some (a, d), i))
      rw [ltq_d hd, eqq_d hd, Bool.and_true]
      by_cases h : a < b
      · rw [if_pos h, if_pos (decide_eq_true h)]
        exact Alike.refl (x := (some (b, d), true)) hd
      · rw [if_neg h, if_neg (by simpa using h)]
        split <;> exact Alike.refl (x := (some (a, d), i)) hd
theorem cutZh_ok {d : Int} (hd : 0 < d) (x : EZ) (b : Option Int) : Alike (oq d (cutZh x b).1, (cutZh x b).2) (cutHi (oq d x.1) x.2 (oq d b) true) := by
  obtain ⟨x, i⟩ := x
  cases b with
  | none =>
    cases x with
    | none => exact ⟨trivial, fun e => by cases e⟩
    | some a => exact Alike.refl (x := (some (a, d), i)) hd
  | some b =>
    cases x with
    | none => exact Alike.refl (x := (some (b, d), true)) hd
    | some a =>
      show Alike (oq d (if b < a then ((some b, true) : EZ) else (some a, i)).1, (if b < a then ((some b, true) : EZ) else (some a, i)).2) (if ltq (b, d) (a, d) = true then (some (b, d), true) else if eqq (a, d) (b, d) = true then (some (a, d), i && true) else (some (a, d), i))
      rw [ltq_d hd, eqq_d hd, Bool.and_true]
      by_cases h : b < a
      · rw [if_pos h, if_pos (decide_eq_true h)]
        exact Alike.refl (x := (some (b, d), true)) hd
      · rw [if_neg h, if_neg (by simpa using h)]
        split <;> exact Alike.refl (x := (some (a, d), i)) hd
theorem someZ_ok {d : Int} (hd : 0 < d) (x y : EZ) : someB (oq d x.1) (oq d y.1) x.2 y.2 = someZ x y := by
  obtain ⟨x, i⟩ := x
  obtain ⟨y, j⟩ := y
  cases x with
  | none => cases y <;> rfl
  | some a =>
    cases y with
    | none => rfl
    | some b =>
      show (ltq (a, d) (b, d) || (eqq (a, d) (b, d) && i && j)) = (decide (a < b) || (decide (a = b) && i && j))
      rw [ltq_d hd, eqq_d hd]
/-- both ends of a size's stretch, in whole parts -/
def sizZ (ms : List Int) (r : Str) (lo hi : Option Int) (n : Nat) : EZ × EZ := (cutZl (rulZ ms r n).1 lo, cutZh (rulZ ms r n).2 hi)
/-- a Stretch whose ends are so many units -/
def StU (CM CS : Addr) (H : Hp) (d : Int) (p : Addr) (x y : EZ) : Prop := ∃ dx l h, H p = some (.ins CS dx (sf l h x.2 y.2)) ∧ QO CM H 90 l (oq d x.1) ∧ QO CM H 90 h (oq d y.1)
theorem StU.same {CM CS : Addr} {H H' : Hp} {d : Int} {p : Addr} {x y : EZ} (a : StU CM CS H d p x y) (s : Same H H') : StU CM CS H' d p x y := by
  obtain ⟨dx, l, h, h1, h2, h3⟩ := a
  exact ⟨dx, l, h, s _ _ h1, h2.same s, h3.same s⟩
def RunU (CM CS : Addr) (H : Hp) (d : Int) (v : V) (x y : EZ) : Prop := (someZ x y = true ∧ ∃ p, v = .ref p ∧ StU CM CS H d p x y) ∨ (someZ x y = false ∧ v = .non)
theorem Alike.trans {x y z : Option Q2 × Bool} (h : Alike x y) (g : Alike y z) : Alike x z := ⟨h.1.trans g.1, fun e => (h.2 e).trans (g.2 (by rw [← h.1.isS]; exact e))⟩
theorem sze_oq {d : Int} (hd : 0 < d) (hd2 : d ≤ 40028) {x : EZ} (b : bnZ x) : SzE 90 (oq d x.1) := by
  obtain ⟨x, i⟩ := x
  cases x with
  | none => trivial
  | some m =>
    have := b m rfl
    refine ⟨?_, ?_⟩
    · show m.natAbs < 2 ^ 90
      exact Nat.lt_of_lt_of_le (show m.natAbs < 2 ^ 30 by omega) (Nat.pow_le_pow_right (by decide) (by decide))
    · show d.natAbs < 2 ^ 90
      exact Nat.lt_of_lt_of_le (show d.natAbs < 2 ^ 30 by omega) (Nat.pow_le_pow_right (by decide) (by decide))
theorem told_units {CM CS : Addr} {H : Hp} {v : V} {d : Int} {ms : List Int} {r : Str} {lo hi : Option Int} {n : Nat} (hd : 0 < d) (hd2 : d ≤ 40028) (fo : ∀ m ∈ ms, m % 4 = 0) (bn : ∀ m ∈ ms, -4000000 ≤ m ∧ m ≤ 4000000)
    (bl : ∀ z, lo = some z → -4000040 ≤ z ∧ z ≤ 4000040) (bh : ∀ z, hi = some z → -4000040 ≤ z ∧ z ≤ 4000040) (hn : n < ms.length)
    (c : CutQ CM CS H v (sizE (zq d ms) r (oq d lo) (oq d hi) n).1 (sizE (zq d ms) r (oq d lo) (oq d hi) n).2) : RunU CM CS H d v (sizZ ms r lo hi n).1 (sizZ ms r lo hi n).2 := by
  obtain ⟨r1, r2⟩ := rulZ_ok (r := r) hd fo hn
  obtain ⟨g1, g2⟩ := rulZ_good (r := r) bn hn
  have k1 := cutZl_good g1 bl
  have k2 := cutZh_good g2 bh
  have a1 : Alike (oq d (sizZ ms r lo hi n).1.1, (sizZ ms r lo hi n).1.2) (sizE (zq d ms) r (oq d lo) (oq d hi) n).1 :=
    Alike.trans (cutZl_ok hd _ _) (cutLo_alike (x := (oq d (rulZ ms r n).1.1, (rulZ ms r n).1.2)) (z := (oq d lo, true)) (w := (oq d lo, true)) r1 (Alike.refl (oq_pos hd lo)))
  have a2 : Alike (oq d (sizZ ms r lo hi n).2.1, (sizZ ms r lo hi n).2.2) (sizE (zq d ms) r (oq d lo) (oq d hi) n).2 :=
    Alike.trans (cutZh_ok hd _ _) (cutHi_alike (x := (oq d (rulZ ms r n).2.1, (rulZ ms r n).2.2)) (z := (oq d hi, true)) (w := (oq d hi, true)) r2 (Alike.refl (oq_pos hd hi)))
  have flag : ∀ {x : EZ}, okZ x → (x.2 && (oq d x.1).isSome) = x.2 := fun {x} h => by
    obtain ⟨x, i⟩ := x
    cases x with
    | none => rw [show i = false from h rfl]; rfl
    | some a => cases i <;> rfl
  have es : sizB (zq d ms) r (oq d lo) (oq d hi) n = someZ (sizZ ms r lo hi n).1 (sizZ ms r lo hi n).2 := by
    rw [← someZ_ok hd]
    exact (Alike.someB a1 a2).symm
  rcases run_of c with ⟨h, p, rfl, lo', hi', st, q1, q2⟩ | ⟨h, rfl⟩
  · refine .inl ⟨by rw [← es]; exact h, p, rfl, ?_⟩
    obtain ⟨dx, l, u, hp, m1, m2⟩ := st.ob
    rw [← a1.flag, ← a2.flag] at hp
    have f1 : ((oq d (sizZ ms r lo hi n).1.1, (sizZ ms r lo hi n).1.2).2 && (oq d (sizZ ms r lo hi n).1.1, (sizZ ms r lo hi n).1.2).1.isSome) = (sizZ ms r lo hi n).1.2 := flag k1.1
    have f2 : ((oq d (sizZ ms r lo hi n).2.1, (sizZ ms r lo hi n).2.2).2 && (oq d (sizZ ms r lo hi n).2.1, (sizZ ms r lo hi n).2.2).1.isSome) = (sizZ ms r lo hi n).2.2 := flag k2.1
    rw [f1, f2] at hp
    exact ⟨dx, l, u, hp, qo_of m1 st.l1 (q1.trans a1.1.symm) (sze_oq hd hd2 k1.2), qo_of m2 st.l2 (q2.trans a2.1.symm) (sze_oq hd hd2 k2.2)⟩
  · exact .inr ⟨by rw [← es]; exact h, rfl⟩
/-- the law's own four -/
def ES (H : Hp) (q : Addr) (x y : EZ) : Prop := H q = some (.tup [optZ x.1, optZ y.1, .bl x.2, .bl y.2])
def DueZ_ : Unit := ()
def DueZ (H : Hp) (v : V) (x y : EZ) : Prop := (someZ x y = true ∧ ∃ r, v = .ref r ∧ ES H r x y) ∨ (someZ x y = false ∧ v = .non)
theorem boolsD_ok (a b : Bool) : (PyData.tuple [.bool a, .bool b]).showable = true ∧ (PyData.tuple [.bool a, .bool b]).hasDict = false ∧ (PyData.tuple [.bool a, .bool b]).depth ≤ 60 ∧ (PyData.tuple [.bool a, .bool b]).shown.length ≤ sizeLine := by
  cases a <;> cases b <;> exact ⟨by decide +kernel, by decide +kernel, by decide +kernel, by decide +kernel⟩
theorem dpB {K : PySem.W.Frag} {H : Hp} {p : Addr} {a b : Bool} (h : SqT K H p [.bl a, .bl b]) : Dp K H (.ref p) (PyData.tuple [.bool a, .bool b]) := .tup h (.cons (.bl _) (.cons (.bl _) .nil))
theorem DueZ.same {H H' : Hp} {v : V} {x y : EZ} (h : DueZ H v x y) (s : Same H H') : DueZ H' v x y := by
  rcases h with ⟨a, r, e, h⟩ | h
  · exact .inl ⟨a, r, e, s _ _ h⟩
  · exact .inr h
def sp_lends15 : Sp := fun vs H Q _ => ∃ (p : Addr) (part : Int) (ms : List Int) (r : Str) (lo hi : Option Int) (n : Nat), vs = [.ref p, .int n] ∧ LawL H p part ms r lo hi ∧ n < ms.length ∧ ∀ q H', Same H H' → ES H' q (rulZ ms r n).1 (rulZ ms r n).2 → Q (.ref q) H'
def sp_lcut15 : Sp := fun vs H Q _ => ∃ (p q : Addr) (part : Int) (ms : List Int) (r : Str) (lo hi : Option Int) (x y : EZ), vs = [.ref p, .ref q] ∧ LawL H p part ms r lo hi ∧ ES H q x y ∧ ∀ v H', Same H H' → DueZ H' v (cutZl x lo) (cutZh y hi) → Q v H'
def sp_lisend (CM : Addr) : Sp := fun vs H Q _ => ∃ (v : V) (part : Int) (e : Option Int), vs = [.int part, v, optZ e] ∧ 0 < part ∧ part ≤ 10007 ∧ (∀ m, e = some m → -8000000 ≤ m ∧ m ≤ 8000000) ∧ QO CM H 90 v (oq (4 * part) e) ∧ Q (.bl true) H
def sp_lsright (CM CS : Addr) : Sp := fun vs H Q _ => ∃ (part : Int) (v w : V) (x y : EZ), vs = [.int part, v, w] ∧ 0 < part ∧ part ≤ 10007 ∧ bnZ x ∧ bnZ y ∧ RunU CM CS H (4 * part) v x y ∧ DueZ H w x y ∧ ∀ H', Same H H' → Q (.bl true) H'

/-- no size: something of the seven kinds that can be shown, and no number of a size -/
def Odd15 (K : PySem.W.Frag) (H : Hp) (n : Nat) (v : V) : Prop := (∃ z, Shw K H v z) ∧ ∃ kn, Kd H v kn ∧ (kn = "int" → ∃ i, v = .int i ∧ ¬ (0 ≤ i ∧ i < n))
theorem Odd15.same {K : PySem.W.Frag} {H H' : Hp} {n : Nat} {v : V} (h : Odd15 K H n v) (s : Same H H') : Odd15 K H' n v := by
  obtain ⟨⟨z, h1⟩, kn, h2, h3⟩ := h
  exact ⟨⟨z, h1.same s⟩, kn, h2.same s, h3⟩
theorem oddInt {K : PySem.W.Frag} {H : Hp} {n : Nat} {i : Int} (h : ¬ (0 ≤ i ∧ i < n)) (l : i.natAbs.log2 < 1000) : Odd15 K H n (.int i) := by
  refine ⟨⟨_, .data (.int i) (decide_eq_true (Nat.lt_trans l (by decide))) rfl (Nat.zero_le _) ?_⟩, "int", .inr (.inr (.inl ⟨i, rfl, rfl⟩)), fun _ => ⟨i, rfl, h⟩⟩
  have h4 := int_text_length_le (a := i) (k := 1000) (by decide) l
  have h5 : (Str.ofString (toString i)).length = (toString i).length := PySem.ofString_length _
  show (Str.ofString (toString i)).length ≤ _
  rw [h5]
  have h6 : 200000 ≤ sizeLine := by decide
  omega
theorem oddData {K : PySem.W.Frag} {H : Hp} {n : Nat} {v : V} {d : PyData} {kn : String} (h : Dp K H v d) (o : (d.showable && (!d.hasDict && (decide (d.depth ≤ 60) && decide (d.shown.length ≤ sizeLine)))) = true) (k : Kd H v kn) (e : kn ≠ "int") : Odd15 K H n v := by
  obtain ⟨o1, o2⟩ := He.ba o
  obtain ⟨o2, o3⟩ := He.ba o2
  obtain ⟨o3, o4⟩ := He.ba o3
  exact ⟨⟨_, .data h o1 (by simpa using o2) (of_decide_eq_true o3) (of_decide_eq_true o4)⟩, kn, k, fun z => absurd z e⟩
theorem oddDict {K : PySem.W.Frag} {H : Hp} {n : Nat} {a : Addr} {kvs : List (Key × V)} {D : List (PyData × PyData)} (h : H a = some (.dK kvs)) (f : Flat kvs D) (o : ((PyData.dict D).showable && (decide ((PyData.dict D).depth ≤ 60) && decide ((PyData.dict D).shown.length ≤ sizeLine))) = true) : Odd15 K H n (.ref a) := by
  obtain ⟨o1, o2⟩ := He.ba o
  obtain ⟨o3, o4⟩ := He.ba o2
  exact ⟨⟨_, .dict h f o1 (of_decide_eq_true o3) (of_decide_eq_true o4)⟩, "dict", .inr (.inr (.inr (.inr (.inr (.inr ⟨a, kvs, rfl, h, rfl⟩))))), fun z => nomatch (show ("dict" : String) = "int" from z)⟩
def sp_hasX (K : PySem.W.Frag) (CM CL : Addr) : Sp := fun vs H Q _ => ∃ (p : Addr) (k : Nat) (zs : List Q2) (r : Str) (lo hi : Option Q2) (v : V), vs = [.ref p, v] ∧ LadAt K CM CL H p k zs r lo hi ∧ Odd15 K H zs.length v ∧ Q (.bl false) H
def sp_strX (K : PySem.W.Frag) (CM CL CE : Addr) : Sp := fun vs H _ E => ∃ (p : Addr) (k : Nat) (zs : List Q2) (r : Str) (lo hi : Option Q2) (v : V), vs = [.ref p, v] ∧ LadAt K CM CL H p k zs r lo hi ∧ Odd15 K H zs.length v ∧ ∀ d, H d = none → E (.ref CE) (some d) (upd H d (.xd [("number", v)]))
def sp_lref (K : PySem.W.Frag) (CM CL : Addr) : Sp := fun vs H Q _ => ∃ (p : Addr) (k : Nat) (zs : List Q2) (r : Str) (lo hi : Option Q2) (v : V), vs = [.ref p, v] ∧ LadAt K CM CL H p k zs r lo hi ∧ Odd15 K H zs.length v ∧ ∀ H', Same H H' → Q (.bl true) H'
def sp_right15 : Sp := fun vs H Q _ => ∃ (p : Addr) (part : Int) (ms : List Int) (r : Str) (lo hi : Option Int), vs = [.ref p] ∧ LawL H p part ms r lo hi ∧ ∀ H', Same H H' → Q (.bl true) H'


theorem b_is_whole_1 {K : PySem.W.Frag} {mg : Str → Option Value} {φ : Fds} (T : Txt P K mg φ) : ∃ ds, Vals ([] : List V) ds ∧ Binds K φ.is_whole p_is_whole ds :=
  ⟨[], .nil, T.f_is_whole.bindsN fun _ _ _ _ _ _ us hl => match us, hl with | [_], _ => rfl⟩
theorem b_common_part_2 {K : PySem.W.Frag} {mg : Str → Option Value} {φ : Fds} (T : Txt P K mg φ) : ∃ ds, Vals ([] : List V) ds ∧ Binds K φ.common_part p_common_part ds :=
  ⟨[], .nil, T.f_common_part.bindsN fun _ _ _ _ _ _ us hl => match us, hl with | [_, _], _ => rfl⟩
theorem b_Measure_is_below_2 {K : PySem.W.Frag} {mg : Str → Option Value} {φ : Fds} (T : Txt P K mg φ) : ∃ ds, Vals ([V.bl false] : List V) ds ∧ Binds K φ.Measure_is_below p_Measure_is_below ds :=
  T.f_Measure_is_below.binds1 2 0 (by simp) rfl fun _ _ _ _ _ _ _ us its h1 h2 => match us, its, h1, h2 with | [_, _], [_], _, _ => ⟨_, rfl, rfl⟩
theorem b_Measure_is_below_3 {K : PySem.W.Frag} {mg : Str → Option Value} {φ : Fds} (T : Txt P K mg φ) : ∃ ds, Vals ([] : List V) ds ∧ Binds K φ.Measure_is_below p_Measure_is_below ds :=
  T.f_Measure_is_below.binds1 3 1 (by simp) rfl fun _ _ _ _ _ _ _ us its h1 h2 => match us, its, h1, h2 with | [_, _, _], [_], _, _ => ⟨_, rfl, rfl⟩
theorem b_are_marks_1 {K : PySem.W.Frag} {mg : Str → Option Value} {φ : Fds} (T : Txt P K mg φ) : ∃ ds, Vals ([] : List V) ds ∧ Binds K φ.are_marks p_are_marks ds :=
  ⟨[], .nil, T.f_are_marks.bindsN fun _ _ _ _ _ _ us hl => match us, hl with | [_], _ => rfl⟩
theorem b_is_rule_1 {K : PySem.W.Frag} {mg : Str → Option Value} {φ : Fds} (T : Txt P K mg φ) : ∃ ds, Vals ([] : List V) ds ∧ Binds K φ.is_rule p_is_rule ds :=
  ⟨[], .nil, T.f_is_rule.bindsN fun _ _ _ _ _ _ us hl => match us, hl with | [_], _ => rfl⟩
theorem b_is_measure_or_none_1 {K : PySem.W.Frag} {mg : Str → Option Value} {φ : Fds} (T : Txt P K mg φ) : ∃ ds, Vals ([] : List V) ds ∧ Binds K φ.is_measure_or_none p_is_measure_or_none ds :=
  ⟨[], .nil, T.f_is_measure_or_none.bindsN fun _ _ _ _ _ _ us hl => match us, hl with | [_], _ => rfl⟩
theorem b_is_span_2 {K : PySem.W.Frag} {mg : Str → Option Value} {φ : Fds} (T : Txt P K mg φ) : ∃ ds, Vals ([] : List V) ds ∧ Binds K φ.is_span p_is_span ds :=
  ⟨[], .nil, T.f_is_span.bindsN fun _ _ _ _ _ _ us hl => match us, hl with | [_, _], _ => rfl⟩
theorem b_slip_of_1 {K : PySem.W.Frag} {mg : Str → Option Value} {φ : Fds} (T : Txt P K mg φ) : ∃ ds, Vals ([] : List V) ds ∧ Binds K φ.slip_of p_slip_of ds :=
  ⟨[], .nil, T.f_slip_of.bindsN fun _ _ _ _ _ _ us hl => match us, hl with | [_], _ => rfl⟩
theorem b_Measure_init_3 {K : PySem.W.Frag} {mg : Str → Option Value} {φ : Fds} (T : Txt P K mg φ) : ∃ ds, Vals ([] : List V) ds ∧ Binds K φ.Measure_init p_Measure_init ds :=
  T.f_Measure_init.binds1 3 1 (by simp) rfl fun _ _ _ _ _ _ _ us its h1 h2 => match us, its, h1, h2 with | [_, _, _], [_], _, _ => ⟨_, rfl, rfl⟩
theorem b_Measure_parted_1 {K : PySem.W.Frag} {mg : Str → Option Value} {φ : Fds} (T : Txt P K mg φ) : ∃ ds, Vals ([V.int 2] : List V) ds ∧ Binds K φ.Measure_parted p_Measure_parted ds :=
  T.f_Measure_parted.binds1 1 0 (by simp) rfl fun _ _ _ _ _ _ _ us its h1 h2 => match us, its, h1, h2 with | [_], [_], _, _ => ⟨_, rfl, rfl⟩
theorem b_Measure_plus_2 {K : PySem.W.Frag} {mg : Str → Option Value} {φ : Fds} (T : Txt P K mg φ) : ∃ ds, Vals ([] : List V) ds ∧ Binds K φ.Measure_plus p_Measure_plus ds :=
  ⟨[], .nil, T.f_Measure_plus.bindsN fun _ _ _ _ _ _ us hl => match us, hl with | [_, _], _ => rfl⟩
theorem b_Measure_eq_2 {K : PySem.W.Frag} {mg : Str → Option Value} {φ : Fds} (T : Txt P K mg φ) : ∃ ds, Vals ([] : List V) ds ∧ Binds K φ.Measure_eq p_Measure_eq ds :=
  ⟨[], .nil, T.f_Measure_eq.bindsN fun _ _ _ _ _ _ us hl => match us, hl with | [_, _], _ => rfl⟩
theorem b_is_empty_4 {K : PySem.W.Frag} {mg : Str → Option Value} {φ : Fds} (T : Txt P K mg φ) : ∃ ds, Vals ([] : List V) ds ∧ Binds K φ.is_empty p_is_empty ds :=
  ⟨[], .nil, T.f_is_empty.bindsN fun _ _ _ _ _ _ us hl => match us, hl with | [_, _, _, _], _ => rfl⟩
theorem b_cut_low_2 {K : PySem.W.Frag} {mg : Str → Option Value} {φ : Fds} (T : Txt P K mg φ) : ∃ ds, Vals ([] : List V) ds ∧ Binds K φ.cut_low p_cut_low ds :=
  ⟨[], .nil, T.f_cut_low.bindsN fun _ _ _ _ _ _ us hl => match us, hl with | [_, _], _ => rfl⟩
theorem b_cut_high_2 {K : PySem.W.Frag} {mg : Str → Option Value} {φ : Fds} (T : Txt P K mg φ) : ∃ ds, Vals ([] : List V) ds ∧ Binds K φ.cut_high p_cut_high ds :=
  ⟨[], .nil, T.f_cut_high.bindsN fun _ _ _ _ _ _ us hl => match us, hl with | [_, _], _ => rfl⟩
theorem b_Stretch_init_5 {K : PySem.W.Frag} {mg : Str → Option Value} {φ : Fds} (T : Txt P K mg φ) : ∃ ds, Vals ([] : List V) ds ∧ Binds K φ.Stretch_init p_Stretch_init ds :=
  T.f_Stretch_init.binds1 5 2 (by simp) rfl fun _ _ _ _ _ _ _ us its h1 h2 => match us, its, h1, h2 with | [_, _, _, _, _], [_, _], _, _ => ⟨_, rfl, rfl⟩
theorem b_Stretch_init_3 {K : PySem.W.Frag} {mg : Str → Option Value} {φ : Fds} (T : Txt P K mg φ) : ∃ ds, Vals ([V.bl false, V.bl true] : List V) ds ∧ Binds K φ.Stretch_init p_Stretch_init ds :=
  T.f_Stretch_init.binds1 3 0 (by simp) rfl fun _ _ _ _ _ _ _ us its h1 h2 => match us, its, h1, h2 with | [_, _, _], [_, _], _, _ => ⟨_, rfl, rfl⟩
theorem b_end_at_2 {K : PySem.W.Frag} {mg : Str → Option Value} {φ : Fds} (T : Txt P K mg φ) : ∃ ds, Vals ([] : List V) ds ∧ Binds K φ.end_at p_end_at ds :=
  ⟨[], .nil, T.f_end_at.bindsN fun _ _ _ _ _ _ us hl => match us, hl with | [_, _], _ => rfl⟩
theorem b_midsts_of_1 {K : PySem.W.Frag} {mg : Str → Option Value} {φ : Fds} (T : Txt P K mg φ) : ∃ ds, Vals ([] : List V) ds ∧ Binds K φ.midsts_of p_midsts_of ds :=
  ⟨[], .nil, T.f_midsts_of.bindsN fun _ _ _ _ _ _ us hl => match us, hl with | [_], _ => rfl⟩
theorem b_has_size_2 {K : PySem.W.Frag} {mg : Str → Option Value} {φ : Fds} (T : Txt P K mg φ) : ∃ ds, Vals ([] : List V) ds ∧ Binds K φ.has_size p_has_size ds :=
  ⟨[], .nil, T.f_has_size.bindsN fun _ _ _ _ _ _ us hl => match us, hl with | [_, _], _ => rfl⟩
theorem b_Stretch_cut_2 {K : PySem.W.Frag} {mg : Str → Option Value} {φ : Fds} (T : Txt P K mg φ) : ∃ ds, Vals ([] : List V) ds ∧ Binds K φ.Stretch_cut p_Stretch_cut ds :=
  ⟨[], .nil, T.f_Stretch_cut.bindsN fun _ _ _ _ _ _ us hl => match us, hl with | [_, _], _ => rfl⟩
theorem b_stretch_by_rule_3 {K : PySem.W.Frag} {mg : Str → Option Value} {φ : Fds} (T : Txt P K mg φ) : ∃ ds, Vals ([] : List V) ds ∧ Binds K φ.stretch_by_rule p_stretch_by_rule ds :=
  ⟨[], .nil, T.f_stretch_by_rule.bindsN fun _ _ _ _ _ _ us hl => match us, hl with | [_, _, _], _ => rfl⟩
theorem b_l_take_2 {K : PySem.W.Frag} {mg : Str → Option Value} {φ : Fds} (T : Txt P K mg φ) : ∃ ds, Vals ([] : List V) ds ∧ Binds K φ.l_take p_l_take ds :=
  ⟨[], .nil, T.f_l_take.bindsN fun _ _ _ _ _ _ us hl => match us, hl with | [_, _], _ => rfl⟩
theorem b_l_of_2 {K : PySem.W.Frag} {mg : Str → Option Value} {φ : Fds} (T : Txt P K mg φ) : ∃ ds, Vals ([] : List V) ds ∧ Binds K φ.l_of p_l_of ds :=
  ⟨[], .nil, T.f_l_of.bindsN fun _ _ _ _ _ _ us hl => match us, hl with | [_, _], _ => rfl⟩
theorem b_l_measure_2 {K : PySem.W.Frag} {mg : Str → Option Value} {φ : Fds} (T : Txt P K mg φ) : ∃ ds, Vals ([] : List V) ds ∧ Binds K φ.l_measure p_l_measure ds :=
  ⟨[], .nil, T.f_l_measure.bindsN fun _ _ _ _ _ _ us hl => match us, hl with | [_, _], _ => rfl⟩
theorem b_Ladder_init_5 {K : PySem.W.Frag} {mg : Str → Option Value} {φ : Fds} (T : Txt P K mg φ) : ∃ ds, Vals ([] : List V) ds ∧ Binds K φ.Ladder_init p_Ladder_init ds :=
  T.f_Ladder_init.binds1 5 3 (by simp) rfl fun _ _ _ _ _ _ _ us its h1 h2 => match us, its, h1, h2 with | [_, _, _, _, _], [_, _, _], _, _ => ⟨_, rfl, rfl⟩
theorem b_l_end_2 {K : PySem.W.Frag} {mg : Str → Option Value} {φ : Fds} (T : Txt P K mg φ) : ∃ ds, Vals ([] : List V) ds ∧ Binds K φ.l_end p_l_end ds :=
  ⟨[], .nil, T.f_l_end.bindsN fun _ _ _ _ _ _ us hl => match us, hl with | [_, _], _ => rfl⟩
theorem b_l_near_2 {K : PySem.W.Frag} {mg : Str → Option Value} {φ : Fds} (T : Txt P K mg φ) : ∃ ds, Vals ([] : List V) ds ∧ Binds K φ.l_near p_l_near ds :=
  ⟨[], .nil, T.f_l_near.bindsN fun _ _ _ _ _ _ us hl => match us, hl with | [_, _], _ => rfl⟩
theorem b_l_is_end_3 {K : PySem.W.Frag} {mg : Str → Option Value} {φ : Fds} (T : Txt P K mg φ) : ∃ ds, Vals ([] : List V) ds ∧ Binds K φ.l_is_end p_l_is_end ds :=
  ⟨[], .nil, T.f_l_is_end.bindsN fun _ _ _ _ _ _ us hl => match us, hl with | [_, _, _], _ => rfl⟩
theorem bs_NoSize_init {P : Program} {K : PySem.W.Frag} {mg : Str → Option Value} {φ : Fds} (T : Txt P K mg φ) : Binds K φ.NoSize_init p_NoSize_init [] :=
  T.su_NoSize_init.bindsA fun _ _ _ _ _ us hl => match us, hl with | [_, _], _ => rfl
theorem b_Ladder_stretch_2 {K : PySem.W.Frag} {mg : Str → Option Value} {φ : Fds} (T : Txt P K mg φ) : ∃ ds, Vals ([] : List V) ds ∧ Binds K φ.Ladder_stretch p_Ladder_stretch ds :=
  ⟨[], .nil, T.f_Ladder_stretch.bindsN fun _ _ _ _ _ _ us hl => match us, hl with | [_, _], _ => rfl⟩
theorem b_l_made_1 {K : PySem.W.Frag} {mg : Str → Option Value} {φ : Fds} (T : Txt P K mg φ) : ∃ ds, Vals ([] : List V) ds ∧ Binds K φ.l_made p_l_made ds :=
  ⟨[], .nil, T.f_l_made.bindsN fun _ _ _ _ _ _ us hl => match us, hl with | [_], _ => rfl⟩
theorem b_l_cut_2 {K : PySem.W.Frag} {mg : Str → Option Value} {φ : Fds} (T : Txt P K mg φ) : ∃ ds, Vals ([] : List V) ds ∧ Binds K φ.l_cut p_l_cut ds :=
  ⟨[], .nil, T.f_l_cut.bindsN fun _ _ _ _ _ _ us hl => match us, hl with | [_, _], _ => rfl⟩
theorem b_l_ends_2 {K : PySem.W.Frag} {mg : Str → Option Value} {φ : Fds} (T : Txt P K mg φ) : ∃ ds, Vals ([] : List V) ds ∧ Binds K φ.l_ends p_l_ends ds :=
  ⟨[], .nil, T.f_l_ends.bindsN fun _ _ _ _ _ _ us hl => match us, hl with | [_, _], _ => rfl⟩
theorem b_l_stretch_right_3 {K : PySem.W.Frag} {mg : Str → Option Value} {φ : Fds} (T : Txt P K mg φ) : ∃ ds, Vals ([] : List V) ds ∧ Binds K φ.l_stretch_right p_l_stretch_right ds :=
  ⟨[], .nil, T.f_l_stretch_right.bindsN fun _ _ _ _ _ _ us hl => match us, hl with | [_, _, _], _ => rfl⟩
theorem b_Ladder_stretch_1_number {K : PySem.W.Frag} {mg : Str → Option Value} {φ : Fds} (T : Txt P K mg φ) : ∃ its : List Value, KBn K φ.Ladder_stretch p_Ladder_stretch 1 ["number"] (fun vs zs => (fun {α : Type} (vs ds zs : List α) => (vs ++ (zs.drop 0).take 1)) vs its zs) (fun vs zs => (fun {α : Type} (vs ds zs : List α) => (vs ++ (zs.drop 0).take 1)) vs ([] : List V) zs) :=
  ⟨[], kb_none T.f_Ladder_stretch (fun {α : Type} (vs zs : List α) => (fun (ds : List α) => (vs ++ (zs.drop 0).take 1)) []) (fun a c => (a.append ((c.drop 0).take 1))) fun _ _ _ _ _ _ us ws h1 h2 => match us, ws, h1, h2 with | [_], [_], _, _ => rfl⟩
theorem b_l_refused_2 {K : PySem.W.Frag} {mg : Str → Option Value} {φ : Fds} (T : Txt P K mg φ) : ∃ ds, Vals ([] : List V) ds ∧ Binds K φ.l_refused p_l_refused ds :=
  ⟨[], .nil, T.f_l_refused.bindsN fun _ _ _ _ _ _ us hl => match us, hl with | [_, _], _ => rfl⟩
theorem b_l_right_1 {K : PySem.W.Frag} {mg : Str → Option Value} {φ : Fds} (T : Txt P K mg φ) : ∃ ds, Vals ([] : List V) ds ∧ Binds K φ.l_right p_l_right ds :=
  ⟨[], .nil, T.f_l_right.bindsN fun _ _ _ _ _ _ us hl => match us, hl with | [_], _ => rfl⟩
theorem b_l_ladder_1 {K : PySem.W.Frag} {mg : Str → Option Value} {φ : Fds} (T : Txt P K mg φ) : ∃ ds, Vals ([] : List V) ds ∧ Binds K φ.l_ladder p_l_ladder ds :=
  ⟨[], .nil, T.f_l_ladder.bindsN fun _ _ _ _ _ _ us hl => match us, hl with | [_], _ => rfl⟩
theorem b_l_hand_2 {K : PySem.W.Frag} {mg : Str → Option Value} {φ : Fds} (T : Txt P K mg φ) : ∃ ds, Vals ([] : List V) ds ∧ Binds K φ.l_hand p_l_hand ds :=
  ⟨[], .nil, T.f_l_hand.bindsN fun _ _ _ _ _ _ us hl => match us, hl with | [_, _], _ => rfl⟩
theorem ok_is_whole {P : Program} {w : World} {K : PySem.W.Frag} {mg : Str → Option Value} {base : Heap} {φ : Fds} (T : Txt P K mg φ) : FnOk P w K mg base CX0 1 (He.fAd K ("is_whole", none)) φ.is_whole p_is_whole sp_whole := by
  refine T.f_is_whole.ok sc_is_whole (fun vs H Q E h => ?_) (fun cdv A outer s H vs Q E hr h => ?_)
  · obtain ⟨n, rfl, k⟩ := h; rfl
  · obtain ⟨n, rfl, k⟩ := h
    refine ⟨_, PSs.nox (pss_one (ps_ret (pe_and (pe_callB (id := "isinstance") (isi (K := K)) (by rfl) T.z_isinstance (by decide +kernel) (pa_cons (pv 0) (pa_cons (pe_bltn (v := .ty "int") rfl T.z_int (by decide +kernel) rfl) pa_nil))) (pe_one (pe_not (pe_callB (id := "isinstance") (isi (K := K)) (by rfl) T.z_isinstance (by decide +kernel) (pa_cons (pv 0) (pa_cons (pe_bltn (v := .ty "bool") rfl T.z_bool (by decide +kernel) rfl) pa_nil)))))))), ?_⟩
    refine ⟨_, rfl, _, _, _, _, _, rfl, .ty _, .base (.int _), kit_ty (r := true) (by decide +kernel), _, rfl, ?_⟩
    refine iteT ?_
    refine ⟨_, rfl, _, _, _, _, _, rfl, .ty _, .base (.int _), kit_ty (r := false) (by decide +kernel), _, rfl, ?_⟩
    exact k
theorem ok_common_part {P : Program} {w : World} {K : PySem.W.Frag} {mg : Str → Option Value} {base : Heap} {φ : Fds} (T : Txt P K mg φ) : FnOk P w K mg base CX0 1 (He.fAd K ("common_part", none)) φ.common_part p_common_part sp_common := by
  refine T.f_common_part.ok sc_common_part (fun vs H Q E h => ?_) (fun cdv A outer s H vs Q E hr h => ?_)
  · obtain ⟨a, b, rfl, k⟩ := h; rfl
  · obtain ⟨a, b, rfl, k⟩ := h
    refine ⟨_, PSs.nox (pss_cons (ps_par (i := 2) (j := 3) rfl sc_common_part.nd rfl rfl (by decide) rfl rfl (pa_cons (pe_callB (id := "abs") call_abs (by rfl) T.z_abs (by decide +kernel) (pa_cons (pv 0) pa_nil)) (pa_cons (pe_callB (id := "abs") call_abs (by rfl) T.z_abs (by decide +kernel) (pa_cons (pv 1) pa_nil)) pa_nil)) (by rfl))
      (pss_cons (ps_while PassesOwn.never (pt_cmpR op_gt (pv 3) pe_int (nomark _))
      (pss_one (ps_par (i := 2) (j := 3) rfl sc_common_part.nd rfl rfl (by decide) rfl rfl (pa_cons (pv 3) (pa_cons (pe_op op_mod (pv 2) (pv 3)) pa_nil)) (by rfl))))
      (pss_one (ps_ret (pv 2))))), ?_⟩
    refine ⟨_, rfl, _, rfl, _, rfl, _, rfl, _, _, rfl, ?_⟩
    refine while_by (fun σ H' => H' = H ∧ ∃ g s : Int, σ = [some (.int a), some (.int b), some (.int g), some (.int s)] ∧ 0 ≤ g ∧ 0 ≤ s ∧ Int.gcd g s = Int.gcd a b)
      (fun σ _ => match σ with | [_, _, _, some (.int s)] => s.toNat | _ => 0) ⟨rfl, _, _, rfl, ?_, ?_, ?_⟩ ?_ (fun σ H Q Q' hQ ⟨v, e1, i, j, e2, e3, c, e4, q⟩ => ⟨v, e1, i, j, e2, e3, c, e4, hQ _ _ q⟩)
    · split <;> omega
    · split <;> omega
    · have e1 : (if a < 0 then -a else a) = (a.natAbs : Int) := by split <;> omega
      have e2 : (if b < 0 then -b else b) = (b.natAbs : Int) := by split <;> omega
      rw [e1, e2]
      rfl
    · rintro σ H' ⟨rfl, g, s, rfl, hg, hs, e⟩
      refine ⟨_, rfl, _, _, rfl, rfl, _, rfl, ?_⟩
      refine ite2 (fun c => ?_) (fun c => ?_)
      · have c0 : 0 < s := of_decide_eq_true c
        refine ⟨_, rfl, _, rfl, _, rfl, _, _, rfl, rfl, c0, _, _, rfl, ?_⟩
        refine ⟨⟨rfl, s, g % s, rfl, hs, Int.emod_nonneg _ (by omega), (gcd_step c0 hg).trans e⟩, ?_⟩
        show (g % s).toNat < s.toNat
        have h1 := Int.emod_nonneg g (show s ≠ 0 by omega)
        have h2 := Int.emod_lt_of_pos g c0
        omega
      · have c0 : ¬ 0 < s := fun z => c (decide_eq_true z)
        have s0 : s = 0 := by omega
        subst s0
        refine ⟨_, rfl, ?_⟩
        have eg : g = (Int.gcd a b : Int) := by
          rw [← e, Int.gcd_zero_right]
          omega
        rw [eg]
        exact k
theorem ok_Measure_init {P : Program} {w : World} {K : PySem.W.Frag} {mg : Str → Option Value} {base : Heap} {φ : Fds} (T : Txt P K mg φ) : FnOk P w K mg base CX0 2 (He.fAd K ("Measure", some "__init__")) φ.Measure_init p_Measure_init (sp_minit (He.ga K "Measure")) := by
  obtain ⟨_, B0v, B0⟩ := b_is_whole_1 T
  obtain ⟨_, B1v, B1⟩ := b_common_part_2 T
  refine T.f_Measure_init.ok sc_Measure_init (fun vs H Q E h => ?_) (fun cdv A outer s H vs Q E hr h => ?_)
  · obtain ⟨p, dx, a, b, rfl, hp, hb, hl, k⟩ := h; rfl
  · obtain ⟨p, dx, a, b, rfl, hp, hb, hl, k⟩ := h
    refine ⟨_, PSs.nox (pss_cons (ps_if (PW.pt (pw_or (pt_not (pt_val (pe_call (ok_is_whole T) (hr.mono (by decide)) rfl T.g_is_whole T.f_is_whole.kp B0 B0v pass0 (pa_cons (pv 1) pa_nil)))) (pw_or1 (pt_not (pt_val (pe_call (ok_is_whole T) (hr.mono (by decide)) rfl T.g_is_whole T.f_is_whole.kp B0 B0v pass0 (pa_cons (pv 2) pa_nil)))))))
      (pss_one ps_never)
      pss_nil)
      (pss_cons (ps_if (pt_cmpR op_eq (pv 2) pe_int (nomark _))
      (pss_one ps_never)
      pss_nil)
      (pss_cons (ps_set (i := 3) sc_Measure_init.nd rfl (Or.inl rfl) (pe_call (ok_common_part T) (hr.mono (by decide)) rfl T.g_common_part T.f_common_part.kp B1 B1v pass0 (pa_cons (pv 1) (pa_cons (pv 2) pa_nil))))
      (pss_cons (ps_cut (ps_if (pt_cmpR op_lt (pv 2) pe_int (nomark _))
      (pss_one (ps_set (i := 3) sc_Measure_init.nd rfl (Or.inl rfl) (pe_un un_neg (pv 3))))
      pss_nil))
      (pss_cons (ps_fld (pv 0) (pe_op op_fd (pv 1) (pv 3)) rfl)
      (pss_one (ps_fld (pv 0) (pe_op op_fd (pv 2) (pv 3)) rfl))))))), ?_⟩
    refine ⟨_, rfl, a, rfl, _, rfl, ?_⟩
    refine iteF ?_
    refine ⟨_, rfl, b, rfl, _, rfl, ?_⟩
    refine iteF ?_
    refine ⟨_, rfl, rfl, _, rfl, ?_⟩
    rw [dI]
    refine ite2 (fun e => absurd (of_decide_eq_true e) hb) (fun _ => ?_)
    refine ⟨_, rfl, _, rfl, a, b, rfl, ?_⟩
    refine ⟨fun σ' H' => H' = H ∧ ∃ c : Int, c = sgn b * (Int.gcd a b : Int) ∧ σ' = [some (.ref p), some (.int a), some (.int b), some (.int c)], ?_, ?_⟩
    · refine ⟨_, rfl, _, _, rfl, rfl, _, rfl, ?_⟩
      refine ite2 (fun e => ?_) (fun e => ?_)
      · have e0 : b < 0 := of_decide_eq_true e
        refine ⟨_, rfl, _, rfl, rfl, _, ?_, rfl⟩
        unfold sgn
        rw [if_neg (by omega), Int.neg_one_mul]
      · have e0 : ¬ b < 0 := fun z => e (decide_eq_true z)
        refine ⟨rfl, _, ?_, rfl⟩
        unfold sgn
        rw [if_pos (by omega), Int.one_mul]
    · rintro σ' H' ⟨rfl, c, hc, rfl⟩
      obtain ⟨c0, cl, fr⟩ := fr_mk hb hc
      have c9 : c.natAbs.log2 < 9000 := by
        refine Nat.lt_of_le_of_lt ?_ hl
        exact (Nat.le_log2 (by omega)).mpr (Nat.le_trans (Nat.log2_self_le (by omega)) cl)
      refine ⟨_, rfl, _, rfl, _, _, rfl, rfl, ⟨c0, c9⟩, _, rfl, p, _, dx, _, rfl, hp, T.cl_Measure, T.na_Measure_top, (by show 0 < 1000; decide), ?_⟩
      refine ⟨_, rfl, _, rfl, _, _, rfl, rfl, ⟨c0, c9⟩, _, rfl, p, _, dx, _, rfl, upd_same, T.cl_Measure, T.na_Measure_bottom, (by show 1 < 1000; decide), ?_⟩
      refine k _ _ _ fr ?_ fun q o e nq => ?_
      · rw [upd_same, mf_put]
      · rw [upd_ne nq, upd_ne nq]
        exact e
theorem ok_Measure_is_below {P : Program} {w : World} {K : PySem.W.Frag} {mg : Str → Option Value} {base : Heap} {φ : Fds} (T : Txt P K mg φ) : FnOk P w K mg base CX0 1 (He.fAd K ("Measure", some "is_below")) φ.Measure_is_below p_Measure_is_below (sp_below (He.ga K "Measure")) := by
  refine T.f_Measure_is_below.ok sc_Measure_is_below (fun vs H Q E h => ?_) (fun cdv A outer s H vs Q E hr h => ?_)
  · obtain ⟨p, q, t, u, t', u', al, rfl, ⟨dp, hp⟩, ⟨dq, hq⟩, st, su, st', su', k⟩ := h; rfl
  · obtain ⟨p, q, t, u, t', u', al, rfl, ⟨dp, hp⟩, ⟨dq, hq⟩, st, su, st', su', k⟩ := h
    refine ⟨_, PSs.nox (pss_cons (ps_set (i := 3) sc_Measure_is_below.nd rfl (Or.inl rfl) (pe_op op_mulA (fldK (K := K) (pv 0) rfl) (fldK (K := K) (pv 1) rfl)))
      (pss_cons (ps_set (i := 4) sc_Measure_is_below.nd rfl (Or.inl rfl) (pe_op op_mulA (fldK (K := K) (pv 1) rfl) (fldK (K := K) (pv 0) rfl)))
      (pss_one (ps_ret (pe_or (pe_cmpR op_lt (pv 3) (pv 4) (nomark _)) (pe_one (pe_and (pv 2) (pe_one (pe_cmpR op_eq (pv 3) (pv 4) (nomark _)))))))))), ?_⟩
    refine ⟨_, rfl, _, _, _, _, _, rfl, hp, T.cl_Measure, T.na_Measure_top, mf_top _ _, _, rfl, _, _, _, _, _, rfl, hq, T.cl_Measure, T.na_Measure_bottom, mf_bottom _ _, _, _, rfl, rfl, st.cmul su' (by decide) (by decide) (by decide), ?_⟩
    refine ⟨_, rfl, _, _, _, _, _, rfl, hq, T.cl_Measure, T.na_Measure_top, mf_top _ _, _, rfl, _, _, _, _, _, rfl, hp, T.cl_Measure, T.na_Measure_bottom, mf_bottom _ _, _, _, rfl, rfl, st'.cmul su (by decide) (by decide) (by decide), ?_⟩
    refine ⟨_, rfl, _, rfl, _, _, rfl, rfl, _, rfl, ?_⟩
    have e : ∀ b : Bool, b = lessA t u t' u' al → Q (.bl b) H := fun b z => by rw [z]; exact k
    refine ite2 (fun c => e _ ?_) (fun c => ?_)
    · unfold lessA
      rw [c]
      rfl
    · have c0 : decide (t * u' < t' * u) = false := by simpa using c
      refine ⟨_, rfl, _, rfl, ?_⟩
      cases al with
      | false =>
        refine iteF (e _ ?_)
        unfold lessA
        rw [c0]
        rfl
      | true =>
        refine iteT ?_
        refine ⟨_, rfl, _, rfl, rfl, e _ ?_⟩
        unfold lessA
        rw [c0, dI]
        rfl
theorem ok_slip_of {P : Program} {w : World} {K : PySem.W.Frag} {mg : Str → Option Value} {base : Heap} {φ : Fds} (T : Txt P K mg φ) : FnOk P w K mg base CX0 2 (He.fAd K ("slip_of", none)) φ.slip_of p_slip_of (sp_slip K (He.ga K "Measure")) := by
  obtain ⟨_, B0v, B0⟩ := b_Measure_is_below_2 T
  refine T.f_slip_of.ok sc_slip_of (fun vs H Q E h => ?_) (fun cdv A outer s H vs Q E hr h => ?_)
  · obtain ⟨T', k, ps, zs, rfl, hT, hm, hk, hl, kk⟩ := h; rfl
  · obtain ⟨T', k, ps, zs, rfl, hT, hm, hk, hl, kk⟩ := h
    refine ⟨_, PSs.nox (pss_cons (ps_for PassesOwn.never rfl (pi_range2 rfl T.z_range (pa_cons pe_int (pa_cons (pe_callB (id := "len") (lenS (K := K)) (by rfl) T.z_len PySem.boot_len (pa_cons (pv 0) pa_nil)) pa_nil))) (pg_name (i := 1) sc_slip_of.nd rfl (Or.inl rfl))
      (pss_one (ps_if (pt_not (pt_val (pe_meth (pe_ix (ixt (K := K)) (pv 0) (pe_op op_sub (pv 1) pe_int) (fun _ _ => rfl)) T.cl_Measure T.me_Measure_is_below (ok_Measure_is_below T) (hr.mono (by decide)) B0 B0v pass0 (pa_cons (pe_ix (ixt (K := K)) (pv 0) (pv 1) (fun _ _ => rfl)) pa_nil))))
      (pss_one (ps_ret (pv 1)))
      pss_nil)))
      (pss_one (ps_ret pe_non))), ?_⟩
    have el : ((ps.length : Nat) : Int) = (zs.length : Int) := by rw [hm.len]
    walk_at "w"
    refine for_range (fun i σ H' => H' = H ∧ (∃ v, σ = [some (.ref T'), v]) ∧ ∀ j a b, j < i → zs[j]? = some a → zs[j + 1]? = some b → ltq a b = true) ⟨rfl, ⟨_, rfl⟩, fun j a b z => by omega⟩ ?_ ?_
    · rintro i σ H1 hi ⟨rfl, ⟨v, rfl⟩, hp⟩
      obtain ⟨a, ha⟩ := ge2 (zs := zs) (n := i) (by omega)
      obtain ⟨b, hb⟩ := ge2 (zs := zs) (n := i + 1) (by omega)
      obtain ⟨p, ep, qp⟩ := hm.at ha
      obtain ⟨q, eq, qq⟩ := hm.at hb
      walk_at "w"
      refine ⟨atI_of (n := i) (by omega) ep, ?_⟩
      walk_at "w"
      refine ⟨atI_of (n := i + 1) (by omega) eq, ?_⟩
      walk_at "w"
      cases e : ltq a b with
      | false =>
        refine iteT ⟨_, rfl, ?_⟩
        have z : (1 : Int) + i = ((i + 1 : Nat) : Int) := by omega
        rw [z]
        refine kk (some (i + 1)) ⟨by omega, by omega, fun a' b' h1 h2 => ?_, fun j a' b' hj h1 h2 => hp j a' b' (by omega) h1 h2⟩
        rw [Nat.add_sub_cancel, ha] at h1
        rw [hb] at h2
        cases h1; cases h2
        exact e
      | true =>
        refine iteF ⟨rfl, ⟨_, rfl⟩, fun j a' b' hj h1 h2 => ?_⟩
        by_cases hji : j < i
        · exact hp j a' b' hji h1 h2
        · have : j = i := by omega
          subst this
          rw [ha] at h1
          rw [hb] at h2
          cases h1; cases h2
          exact e
    · rintro σ H1 ⟨rfl, ⟨v, rfl⟩, hp⟩
      refine kk none fun j a b h1 h2 => hp j a b ?_ h1 h2
      have := (List.getElem?_eq_some_iff.mp h2).1
      omega
theorem ok_is_measure_or_none {P : Program} {w : World} {K : PySem.W.Frag} {mg : Str → Option Value} {base : Heap} {φ : Fds} (T : Txt P K mg φ) : FnOk P w K mg base CX0 1 (He.fAd K ("is_measure_or_none", none)) φ.is_measure_or_none p_is_measure_or_none (sp_isend (He.ga K "Measure")) := by
  refine T.f_is_measure_or_none.ok sc_is_measure_or_none (fun vs H Q E h => ?_) (fun cdv A outer s H vs Q E hr h => ?_)
  · obtain ⟨v, m, rfl, hv, k⟩ := h; rfl
  · obtain ⟨v, m, rfl, hv, k⟩ := h
    refine ⟨_, PSs.nox (pss_one (ps_ret (pe_or (pe_cmpR op_isN (pv 0) pe_non (nomark _)) (pe_one (pe_callB (id := "isinstance") (isi (K := K)) (by rfl) T.z_isinstance (by decide +kernel) (pa_cons (pv 0) (pa_cons (pe_glob (v := .ref (He.ga K "Measure")) rfl T.g_Measure rfl) pa_nil))))))), ?_⟩
    refine ⟨_, rfl, rfl, _, rfl, ?_⟩
    cases m with
    | none => cases hv; exact iteT k
    | some a =>
      obtain ⟨p, rfl, dx, hp⟩ := hv
      refine iteF ?_
      exact ⟨_, rfl, _, _, _, _, true, rfl, .own _, tyM hp T.cl_Measure T.ii_Measure, T.k_Measure_Measure, k⟩
theorem ok_are_marks {P : Program} {w : World} {K : PySem.W.Frag} {mg : Str → Option Value} {base : Heap} {φ : Fds} (T : Txt P K mg φ) : FnOk P w K mg base CX0 1 (He.fAd K ("are_marks", none)) φ.are_marks p_are_marks (sp_arem K (He.ga K "Measure")) := by
  refine T.f_are_marks.ok sc_are_marks (fun vs H Q E h => ?_) (fun cdv A outer s H vs Q E hr h => ?_)
  · obtain ⟨T', k, ps, zs, rfl, hT, hm, h0, h1, kk⟩ := h; rfl
  · obtain ⟨T', k, ps, zs, rfl, hT, hm, h0, h1, kk⟩ := h
    refine ⟨_, PSs.nox (pss_cons (ps_if (PW.pt (pw_or (pt_not (pt_val (pe_callB (id := "isinstance") (isi (K := K)) (by rfl) T.z_isinstance (by decide +kernel) (pa_cons (pv 0) (pa_cons (pe_bltn (v := .ty "tuple") rfl T.z_tuple (by decide +kernel) rfl) pa_nil))))) (pw_or1 (pt_not (pt_chain op_le op_le pe_int (pe_callB (id := "len") (lenS (K := K)) (by rfl) T.z_len PySem.boot_len (pa_cons (pv 0) pa_nil)) (C8.pe_gc (v := .int 24) rfl (T.v_MOST_MARKS.elim fun t e => ⟨_, e, ⟨t, rfl⟩⟩)))))))
      (pss_one (ps_ret pe_bl))
      pss_nil)
      (pss_one (ps_ret (pe_callB (id := "all") (allK (K := K)) (by rfl) T.z_all (by decide +kernel) (pa_cons (pe_lc (own := [("mark", 1)]) (g := gName 1) rfl sc_are_marks.nd (pi_tup (pv 0)) (blkOk_by (own := [("mark", 1)]) (N := N_are_marks) (sc := (defScope s_are_marks)) (by decide +kernel)) (fun _ _ _ _ _ => (pg_name (i := 1) sc_are_marks.nd rfl (Or.inl rfl))) (fun _ _ _ _ _ => pts_nil) (fun _ _ _ _ _ => (pe_callB (id := "isinstance") (isi (K := K)) (by rfl) T.z_isinstance (by decide +kernel) (pa_cons (pv 1) (pa_cons (pe_glob (v := .ref (He.ga K "Measure")) rfl T.g_Measure rfl) pa_nil))))) pa_nil))))), ?_⟩
    have el : ps.length = zs.length := hm.len
    refine ⟨_, rfl, _, _, _, _, _, rfl, .ty _, tyTup hT, kit_ty (r := true) (by decide +kernel), _, rfl, iteF ?_⟩
    walk_at "w"
    refine ⟨⟨_, hT⟩, fun D nD => ?_⟩
    refine lcz (n := ps.length) walk_tup (fun _ _ g s => s.sqt g) (List.replicate ps.length (some (V.bl true))) (by simp) (by rw [sizeLine_eq]; omega) hT nD (fun i x H1 H2 z N M hi hz s1 y hN hM => ?_) (fun H1 s1 hD => ?_)
    · obtain ⟨rfl, hx⟩ := y
      obtain ⟨p, z1, rfl, _, qz⟩ := (hm.same s1).of hx
      obtain ⟨⟨t, u, ⟨dx, hp⟩, _⟩, _⟩ := qz
      rw [List.getElem?_replicate, if_pos hi] at hz
      cases hz
      refine ⟨rfl, yesT ?_⟩
      exact ⟨_, rfl, _, _, _, _, _, rfl, .own _, tyM hp T.cl_Measure T.ii_Measure, T.k_Measure_Measure, hN _ _ rfl (Same.refl _)⟩
    have e : (List.replicate ps.length (some (V.bl true))).filterMap _root_.id = (List.replicate ps.length true).map V.bl := by
      generalize ps.length = n
      induction n with
      | zero => rfl
      | succ n ih => rw [List.replicate_succ, List.replicate_succ]; simpa using ih
    rw [e] at hD
    refine ⟨D, _, rfl, SqL.of hD, ?_⟩
    have e2 : (List.replicate ps.length true).all _root_.id = true := by
      generalize ps.length = n
      induction n with
      | zero => rfl
      | succ n ih => rw [List.replicate_succ]; simpa using ih
    rw [e2]
    exact kk _ s1
theorem ok_is_rule {P : Program} {w : World} {K : PySem.W.Frag} {mg : Str → Option Value} {base : Heap} {φ : Fds} (T : Txt P K mg φ) : FnOk P w K mg base CX0 1 (He.fAd K ("is_rule", none)) φ.is_rule p_is_rule sp_isrule := by
  refine T.f_is_rule.ok sc_is_rule (fun vs H Q E h => ?_) (fun cdv A outer s H vs Q E hr h => ?_)
  · obtain ⟨r, rfl, hr', kk⟩ := h; rfl
  · obtain ⟨r, rfl, hr', kk⟩ := h
    refine ⟨_, PSs.nox (pss_one (ps_ret (pe_and (pe_callB (id := "isinstance") (isi (K := K)) (by rfl) T.z_isinstance (by decide +kernel) (pa_cons (pv 0) (pa_cons (pe_bltn (v := .ty "str") rfl T.z_str (by decide +kernel) rfl) pa_nil))) (pe_one (pe_cmpR (inK (K := K)) (pv 0) (pe_glob (v := .ref (He.ga K "RULES")) rfl T.g_RULES rfl) (by rfl)))))), ?_⟩
    refine ⟨_, rfl, _, _, _, _, _, rfl, .ty _, .base (.str _), kit_ty (r := true) (by decide +kernel), _, rfl, iteT ?_⟩
    refine ⟨_, rfl, _, _, rfl, .inr (T.tp_RULES H), rfl, rfl, ?_⟩
    have e : inV (.str r) (([Str.ofString "up", Str.ofString "down", Str.ofString "near"] : List Str).map V.str) = true := by
      rcases hr' with rfl | rfl | rfl <;> decide +kernel
    simp only [Bool.false_eq_true, if_false]
    rw [e]
    exact kk
theorem ok_is_span {P : Program} {w : World} {K : PySem.W.Frag} {mg : Str → Option Value} {base : Heap} {φ : Fds} (T : Txt P K mg φ) : FnOk P w K mg base CX0 2 (He.fAd K ("is_span", none)) φ.is_span p_is_span (sp_span (He.ga K "Measure")) := by
  obtain ⟨_, B0v, B0⟩ := b_Measure_is_below_3 T
  refine T.f_is_span.ok sc_is_span (fun vs H Q E h => ?_) (fun cdv A outer s H vs Q E hr h => ?_)
  · obtain ⟨l, h, k, lo, hi, rfl, ql, qh, hk, kk⟩ := h; rfl
  · obtain ⟨l, h, k, lo, hi, rfl, ql, qh, hk, kk⟩ := h
    refine ⟨_, PSs.nox (pss_one (ps_ret (pe_or (pe_cmpR op_isN (pv 0) pe_non (nomark _)) (pe_or (pe_cmpR op_isN (pv 1) pe_non (nomark _)) (pe_one (pe_meth (pv 0) T.cl_Measure T.me_Measure_is_below (ok_Measure_is_below T) (hr.mono (by decide)) B0 B0v pass0 (pa_cons (pv 1) (pa_cons pe_bl pa_nil)))))))), ?_⟩
    cases lo with
    | none =>
      cases ql
      walk_at "w"
      exact kk
    | some a =>
      obtain ⟨pl, rfl, qa⟩ := ql
      cases hi with
      | none =>
        cases qh
        walk_at "w"
        exact kk
      | some b =>
        obtain ⟨ph, rfl, qb⟩ := qh
        rw [span_leq] at kk
        walk_at "w"
        exact kk
theorem ok_Ladder_init {P : Program} {w : World} {K : PySem.W.Frag} {mg : Str → Option Value} {base : Heap} {φ : Fds} (T : Txt P K mg φ) : FnOk P w K mg base CX0 3 (He.fAd K ("Ladder", some "__init__")) φ.Ladder_init p_Ladder_init (sp_linit K (He.ga K "Measure") (He.ga K "Ladder")) := by
  obtain ⟨_, B0v, B0⟩ := b_are_marks_1 T
  obtain ⟨_, B1v, B1⟩ := b_is_rule_1 T
  obtain ⟨_, B2v, B2⟩ := b_is_measure_or_none_1 T
  obtain ⟨_, B3v, B3⟩ := b_is_span_2 T
  obtain ⟨_, B4v, B4⟩ := b_slip_of_1 T
  refine T.f_Ladder_init.ok sc_Ladder_init (fun vs H Q E h => ?_) (fun cdv A outer s H vs Q E hr h => ?_)
  · obtain ⟨p, dx, T', k, ps, zs, r, l, h, lo, hi, rfl, hp, hT, hm, hk, h0, h1, hri, hru, ql, qh, hsp, kk⟩ := h; rfl
  · obtain ⟨p, dx, T', k, ps, zs, r, l, h, lo, hi, rfl, hp, hT, hm, hk, h0, h1, hri, hru, ql, qh, hsp, kk⟩ := h
    refine ⟨_, PSs.nox (pss_cons (ps_if (pt_not (pt_val (pe_call (ok_are_marks T) (hr.mono (by decide)) rfl T.g_are_marks T.f_are_marks.kp B0 B0v pass0 (pa_cons (pv 1) pa_nil))))
      (pss_one ps_never)
      pss_nil)
      (pss_cons (ps_if (pt_not (pt_val (pe_call (ok_is_rule T) (hr.mono (by decide)) rfl T.g_is_rule T.f_is_rule.kp B1 B1v pass0 (pa_cons (pv 2) pa_nil))))
      (pss_one ps_never)
      pss_nil)
      (pss_cons (ps_if (PW.pt (pw_or (pt_not (pt_val (pe_call (ok_is_measure_or_none T) (hr.mono (by decide)) rfl T.g_is_measure_or_none T.f_is_measure_or_none.kp B2 B2v pass0 (pa_cons (pv 3) pa_nil)))) (pw_or1 (pt_not (pt_val (pe_call (ok_is_measure_or_none T) (hr.mono (by decide)) rfl T.g_is_measure_or_none T.f_is_measure_or_none.kp B2 B2v pass0 (pa_cons (pv 4) pa_nil)))))))
      (pss_one ps_never)
      pss_nil)
      (pss_cons (ps_if (pt_not (pt_val (pe_call (ok_is_span T) (hr.mono (by decide)) rfl T.g_is_span T.f_is_span.kp B3 B3v pass0 (pa_cons (pv 3) (pa_cons (pv 4) pa_nil)))))
      (pss_one ps_never)
      pss_nil)
      (pss_cons (ps_set (i := 5) sc_Ladder_init.nd rfl (Or.inl rfl) (pe_call (ok_slip_of T) (hr.mono (by decide)) rfl T.g_slip_of T.f_slip_of.kp B4 B4v pass0 (pa_cons (pv 1) pa_nil)))
      (pss_cons (ps_if (pt_cmpR op_notN (pv 5) pe_non (nomark _))
      (pss_one ps_never)
      pss_nil)
      (pss_cons (ps_fld (pv 0) (pv 1) rfl)
      (pss_cons (ps_fld (pv 0) (pv 2) rfl)
      (pss_cons (ps_fld (pv 0) (pv 3) rfl)
      (pss_one (ps_fld (pv 0) (pv 4) rfl))))))))))), ?_⟩
    obtain ⟨mlo, mql, _, _⟩ := ql.low hk
    obtain ⟨mhi, mqh, _, _⟩ := qh.low hk
    have cl_Ladder := T.cl_Ladder
    have na_Ladder_marks := T.na_Ladder_marks
    have na_Ladder_rule := T.na_Ladder_rule
    have na_Ladder_least := T.na_Ladder_least
    have na_Ladder_most := T.na_Ladder_most
    
    walk_at "w"
    refine ⟨zs, rfl, hT, hm, h0, h1, fun H1 s1 => ?_⟩
    walk_at "w"
    refine ⟨mlo, rfl, mql.same s1, ?_⟩
    walk_at "w"
    refine ⟨mhi, rfl, mqh.same s1, ?_⟩
    have hT1 := s1.sqt hT
    have hm1 := hm.same s1
    replace ql := ql.same s1
    replace qh := qh.same s1
    have hp1 := s1 _ _ hp
    walk_at "w"
    refine ⟨lo, hi, rfl, ql, qh, by omega, ?_⟩
    rw [hsp]
    walk_at "w"
    refine ⟨zs, rfl, hT1, hm1, by omega, by omega, fun o ho => ?_⟩
    have eo : o = none := by
      cases o with
      | none => rfl
      | some n =>
        obtain ⟨n1, n2, n3, _⟩ := ho
        obtain ⟨a, ha⟩ := ge2 (zs := zs) (n := n - 1) (by omega)
        obtain ⟨b, hb⟩ := ge2 (zs := zs) (n := n) n2
        have z1 := n3 a b ha hb
        have z2 := hri (n - 1) a b ha (by rw [Nat.sub_add_cancel n1]; exact hb)
        rw [z1] at z2
        cases z2
    subst eo
    walk_at "w"
    refine ⟨by show 0 < 1000; decide, ?_⟩
    refine ⟨_, rfl, _, rfl, p, _, dx, _, rfl, upd_same, cl_Ladder, na_Ladder_rule, by show 1 < 1000; decide, ?_⟩
    refine ⟨_, rfl, _, rfl, p, _, dx, _, rfl, upd_same, cl_Ladder, na_Ladder_least, by show 2 < 1000; decide, ?_⟩
    refine ⟨_, rfl, _, rfl, p, _, dx, _, rfl, upd_same, cl_Ladder, na_Ladder_most, by show 3 < 1000; decide, ?_⟩
    refine kk _ ?_ fun c o ec nc => ?_
    · rw [upd_same, lf_put]
    · rw [upd_ne nc, upd_ne nc, upd_ne nc, upd_ne nc]
      exact s1 _ _ ec
theorem ok_Measure_plus {P : Program} {w : World} {K : PySem.W.Frag} {mg : Str → Option Value} {base : Heap} {φ : Fds} (T : Txt P K mg φ) : FnOk P w K mg base CX0 4 (He.fAd K ("Measure", some "plus")) φ.Measure_plus p_Measure_plus (sp_bin2 (He.ga K "Measure") (fun t u t' u' => t * u' + t' * u) (fun t u t' u' => u * u')) := by
  obtain ⟨_, B0v, B0⟩ := b_Measure_init_3 T
  refine T.f_Measure_plus.ok sc_Measure_plus (fun vs H Q E h => ?_) (fun cdv A outer s H vs Q E hr h => ?_)
  · obtain ⟨p, q, t, u, t', u', rfl, ⟨dp, hp⟩, ⟨dq, hq⟩, hu, hu', st, su, st', su', sg, k⟩ := h; rfl
  · obtain ⟨p, q, t, u, t', u', rfl, ⟨dp, hp⟩, ⟨dq, hq⟩, hu, hu', st, su, st', su', sg, k⟩ := h
    refine ⟨_, PSs.nox (pss_one (ps_ret (pe_make T.mk_Measure (ok_Measure_init T) (hr.mono (by decide)) rfl T.g_Measure B0 B0v pass0 (pa_cons (pe_op op_add (pe_op op_mulA (fldK (K := K) (pv 0) rfl) (fldK (K := K) (pv 1) rfl)) (pe_op op_mulA (fldK (K := K) (pv 1) rfl) (fldK (K := K) (pv 0) rfl))) (pa_cons (pe_op op_mulA (fldK (K := K) (pv 0) rfl) (fldK (K := K) (pv 1) rfl)) pa_nil))))), ?_⟩
    refine ⟨_, rfl, _, _, _, _, _, rfl, hp, T.cl_Measure, T.na_Measure_top, mf_top _ _, _, rfl, _, _, _, _, _, rfl, hq, T.cl_Measure, T.na_Measure_bottom, mf_bottom _ _, _, _, rfl, rfl, st.cmul su' (by decide) (by decide) (by decide), _, rfl, _, _, _, _, _, rfl, hq, T.cl_Measure, T.na_Measure_top, mf_top _ _, _, rfl, _, _, _, _, _, rfl, hp, T.cl_Measure, T.na_Measure_bottom, mf_bottom _ _, _, _, rfl, rfl, st'.cmul su (by decide) (by decide) (by decide), _, _, rfl, rfl, _, rfl, _, _, _, _, _, rfl, hp, T.cl_Measure, T.na_Measure_bottom, mf_bottom _ _, _, rfl, _, _, _, _, _, rfl, hq, T.cl_Measure, T.na_Measure_bottom, mf_bottom _ _, _, _, rfl, rfl, su.cmul su' (by decide) (by decide) (by decide), ?_⟩
    intro x dx nx nd ne
    refine ⟨x, dx, _, _, rfl, upd_same, Int.mul_ne_zero (by omega) (by omega), sg.log (by decide) (by decide), fun t2 u2 H' fr hx kp => ⟨rfl, ?_⟩⟩
    exact k x t2 u2 H' nx (made_same nx nd kp) ⟨_, hx⟩ fr
theorem ok_Measure_parted {P : Program} {w : World} {K : PySem.W.Frag} {mg : Str → Option Value} {base : Heap} {φ : Fds} (T : Txt P K mg φ) : FnOk P w K mg base CX0 4 (He.fAd K ("Measure", some "parted")) φ.Measure_parted p_Measure_parted (sp_part2 (He.ga K "Measure")) := by
  obtain ⟨_, B0v, B0⟩ := b_Measure_init_3 T
  refine T.f_Measure_parted.ok sc_Measure_parted (fun vs H Q E h => ?_) (fun cdv A outer s H vs Q E hr h => ?_)
  · obtain ⟨p, t, u, m, rfl, ⟨dp, hp⟩, hu, hm, st, su, sm, sg, k⟩ := h; rfl
  · obtain ⟨p, t, u, m, rfl, ⟨dp, hp⟩, hu, hm, st, su, sm, sg, k⟩ := h
    refine ⟨_, PSs.nox (pss_one (ps_ret (pe_make T.mk_Measure (ok_Measure_init T) (hr.mono (by decide)) rfl T.g_Measure B0 B0v pass0 (pa_cons (fldK (K := K) (pv 0) rfl) (pa_cons (pe_op op_mulA (fldK (K := K) (pv 0) rfl) (pv 1)) pa_nil))))), ?_⟩
    refine ⟨_, rfl, _, _, _, _, _, rfl, hp, T.cl_Measure, T.na_Measure_top, mf_top _ _, _, rfl, _, _, _, _, _, rfl, hp, T.cl_Measure, T.na_Measure_bottom, mf_bottom _ _, _, rfl, _, _, rfl, rfl, su.cmul sm (by decide) (by decide) (by decide), ?_⟩
    intro x dx nx nd ne
    refine ⟨x, dx, _, _, rfl, upd_same, Int.mul_ne_zero (by omega) hm, sg.log (by decide) (by decide), fun t2 u2 H' fr hx kp => ⟨rfl, ?_⟩⟩
    exact k x t2 u2 H' nx (made_same nx nd kp) ⟨_, hx⟩ fr
theorem ok_midsts_of {P : Program} {w : World} {K : PySem.W.Frag} {mg : Str → Option Value} {base : Heap} {φ : Fds} (T : Txt P K mg φ) : FnOk P w K mg base CX0 5 (He.fAd K ("midsts_of", none)) φ.midsts_of p_midsts_of (sp_mids K (He.ga K "Measure")) := by
  obtain ⟨_, B0v, B0⟩ := b_Measure_parted_1 T
  obtain ⟨_, B1v, B1⟩ := b_Measure_plus_2 T
  refine T.f_midsts_of.ok sc_midsts_of (fun vs H Q E h => ?_) (fun cdv A outer s H vs Q E hr h => ?_)
  · obtain ⟨T', k, ps, zs, rfl, hT, hm, h0, h1, l0, l1, kk⟩ := h; rfl
  · obtain ⟨T', k, ps, zs, rfl, hT, hm, h0, h1, l0, l1, kk⟩ := h
    refine ⟨_, PSs.nox (pss_one (ps_ret (pe_lc (own := [("at", 1)]) (g := gName 1) rfl sc_midsts_of.nd (pi_range2 rfl T.z_range (pa_cons pe_int (pa_cons (pe_callB (id := "len") (lenS (K := K)) (by rfl) T.z_len PySem.boot_len (pa_cons (pv 0) pa_nil)) pa_nil))) (blkOk_by (own := [("at", 1)]) (N := N_midsts_of) (sc := (defScope s_midsts_of)) (by decide +kernel)) (fun _ _ _ _ _ => (pg_name (i := 1) sc_midsts_of.nd rfl (Or.inl rfl))) (fun _ _ _ _ _ => pts_nil) (fun _ _ _ _ _ => (pe_meth0 (pe_meth (pe_ix (ixt (K := K)) (pv 0) (pe_op op_sub (pv 1) pe_int) (fun _ _ => rfl)) T.cl_Measure T.me_Measure_plus (ok_Measure_plus T) (hr.mono (by decide)) B1 B1v pass0 (pa_cons (pe_ix (ixt (K := K)) (pv 0) (pv 1) (fun _ _ => rfl)) pa_nil)) T.cl_Measure T.me_Measure_parted (ok_Measure_parted T) (hr.mono (by decide)) B0 B0v pass0))))), ?_⟩
    have el : ps.length = zs.length := hm.len
    walk_at "w"
    intro D nD
    refine lcr walk_range (fun _ _ _ _ => trivial) (fun i H v => ∃ p z, v = .ref p ∧ (midq zs)[i]? = some z ∧ QAt (He.ga K "Measure") H p (k + k + 1 + 10 + 1) z) (fun i H H' y ⟨p, z, e1, e2, q⟩ n => ⟨p, z, e1, e2, q.nl n⟩) (by rw [sizeLine_eq]; omega) trivial nD (fun i x H1 H2 N M hi s1 y hN => ?_) (fun H1 ys s1 hD ly hy => ?_)
    · obtain ⟨rfl, rfl⟩ := y
      obtain ⟨a, ha⟩ := ge2 (zs := zs) (n := i) (by omega)
      obtain ⟨b, hb⟩ := ge2 (zs := zs) (n := i + 1) (by omega)
      obtain ⟨p, ep, qp⟩ := (hm.same s1).at ha
      obtain ⟨q, eq, qq⟩ := (hm.same s1).at hb
      have hT1 := s1.sqt hT
      refine ⟨rfl, yesT ?_⟩
      walk_at "w"
      refine ⟨atI_of (n := i) (by omega) ep, ?_⟩
      walk_at "w"
      refine ⟨atI_of (n := i + 1) (by omega) eq, q_addT qp qq (by omega) h0 h0 fun r H3 s3 R => ?_⟩
      refine meth_q R (by decide +kernel) (by decide +kernel) (q_prt2T R (by omega) (by omega) fun r2 H4 s4 R2 => ?_)
      exact hN _ _ (s3.trans s4) ⟨r2, qhalf a b, rfl, midq_get zs i a b ha hb, R2⟩
    refine kk D ys H1 s1 hD ⟨?_, fun i v z h1 h2 => ?_⟩
    · rw [midq_len, ly]; omega
    · obtain ⟨p, z', e1, e2, q⟩ := hy i v h1
      rw [h2] at e2
      cases e2
      exact ⟨p, e1, q⟩
theorem ok_Measure_eq {P : Program} {w : World} {K : PySem.W.Frag} {mg : Str → Option Value} {base : Heap} {φ : Fds} (T : Txt P K mg φ) : FnOk P w K mg base CX0 1 (He.fAd K ("Measure", some "__eq__")) φ.Measure_eq p_Measure_eq (sp_meq (He.ga K "Measure")) := by
  refine T.f_Measure_eq.ok sc_Measure_eq (fun vs H Q E h => ?_) (fun cdv A outer s H vs Q E hr h => ?_)
  · obtain ⟨p, q, a, b, rfl, ⟨dp, hp⟩, ⟨dq, hq⟩, k⟩ := h; rfl
  · obtain ⟨p, q, a, b, rfl, ⟨dp, hp⟩, ⟨dq, hq⟩, k⟩ := h
    refine ⟨_, PSs.nox (pss_one (ps_ret (pe_and (pe_callB (id := "isinstance") (isi (K := K)) (by rfl) T.z_isinstance (by decide +kernel) (pa_cons (pv 1) (pa_cons (pe_glob (v := .ref (He.ga K "Measure")) rfl T.g_Measure rfl) pa_nil))) (pe_and (pe_cmpR op_eq (fldK (K := K) (pv 0) rfl) (fldK (K := K) (pv 1) rfl) (nomark _)) (pe_one (pe_cmpR op_eq (fldK (K := K) (pv 0) rfl) (fldK (K := K) (pv 1) rfl) (nomark _))))))), ?_⟩
    refine ⟨_, rfl, _, _, _, _, true, rfl, .own _, tyM hq T.cl_Measure T.ii_Measure, T.k_Measure_Measure, _, rfl, iteT ?_⟩
    refine ⟨_, rfl, _, _, _, _, _, rfl, hp, T.cl_Measure, T.na_Measure_top, mf_top _ _, _, rfl, _, _, _, _, _, rfl, hq, T.cl_Measure, T.na_Measure_top, mf_top _ _, rfl, _, rfl, ?_⟩
    rw [dI]
    refine ite2 (fun e => ?_) (fun e => ?_)
    · rw [e] at k
      refine ⟨_, rfl, _, _, _, _, _, rfl, hp, T.cl_Measure, T.na_Measure_bottom, mf_bottom _ _, _, rfl, _, _, _, _, _, rfl, hq, T.cl_Measure, T.na_Measure_bottom, mf_bottom _ _, rfl, ?_⟩
      rw [dI]
      exact k
    · rw [isTrueN e] at k
      exact k
theorem ok_is_empty {P : Program} {w : World} {K : PySem.W.Frag} {mg : Str → Option Value} {base : Heap} {φ : Fds} (T : Txt P K mg φ) : FnOk P w K mg base CX0 2 (He.fAd K ("is_empty", none)) φ.is_empty p_is_empty (sp_empty (He.ga K "Measure")) := by
  obtain ⟨_, B0v, B0⟩ := b_Measure_eq_2 T
  obtain ⟨_, B1v, B1⟩ := b_Measure_is_below_2 T
  refine T.f_is_empty.ok sc_is_empty (fun vs H Q E h => ?_) (fun cdv A outer s H vs Q E hr h => ?_)
  · obtain ⟨l, h, lo, hi, li, hj, rfl, ml, mh, l1, l2, k⟩ := h; rfl
  · obtain ⟨l, h, lo, hi, li, hj, rfl, ml, mh, l1, l2, k⟩ := h
    refine ⟨_, PSs.nox (pss_cons (ps_if (PW.pt (pw_or (pt_cmpR op_isN (pv 0) pe_non (nomark _)) (pw_or1 (pt_cmpR op_isN (pv 1) pe_non (nomark _)))))
      (pss_one (ps_ret pe_bl))
      pss_nil)
      (pss_cons (ps_if (pt_cmpR (op_eqI (ok_Measure_eq T) (hr.mono (by decide)) T.me_Measure_eq B0 B0v pass0) (pv 0) (pv 1) (nomark _))
      (pss_one (ps_ret (pe_not (pe_cut (pe_and (pv 2) (pe_one (pv 3)))))))
      pss_nil)
      (pss_one (ps_ret (pe_meth (pv 1) T.cl_Measure T.me_Measure_is_below (ok_Measure_is_below T) (hr.mono (by decide)) B1 B1v pass0 (pa_cons (pv 0) pa_nil)))))), ?_⟩
    refine ⟨_, rfl, rfl, _, rfl, ?_⟩
    cases lo with
    | none =>
      cases ml
      exact iteT (iteT k)
    | some a =>
      have ml0 := ml
      obtain ⟨p, rfl, dp, hp⟩ := ml
      refine iteF ?_
      refine ⟨_, rfl, rfl, _, rfl, ?_⟩
      cases hi with
      | none =>
        cases mh
        exact iteT k
      | some b =>
        obtain ⟨q, rfl, dq, hq⟩ := mh
        refine iteF ?_
        have k : Q (.bl (!(ltq a b || (eqq a b && li && hj)))) H := k
        refine ⟨_, rfl, _, rfl, p, q, _, _, _, _, rfl, rfl, hp, hq, p, q, a, b, rfl, ⟨_, hp⟩, ⟨_, hq⟩, _, rfl, ?_⟩
        rw [low_eqq l1 l2]
        refine ite2 (fun e => ?_) (fun e => ?_)
        · refine ⟨fun v H' => H = H' ∧ v = .bl (li && hj), ?_, ?_⟩
          · refine ⟨_, rfl, _, rfl, ?_⟩
            cases li with
            | true => exact iteT ⟨_, rfl, rfl, rfl⟩
            | false => exact iteF ⟨rfl, rfl⟩
          rintro v H' ⟨rfl, rfl⟩
          refine ⟨_, rfl, ?_⟩
          rcases lt_tri a b with ⟨h1, h2, h3⟩ | ⟨h1, h2, h3⟩ | ⟨h1, h2, h3⟩
          · rw [h2] at e; cases e
          · rw [h1, h2] at k
            exact k
          · rw [h2] at e; cases e
        · refine ⟨_, rfl, q, _, _, rfl, hq, mf_no _ _ (by decide +kernel) (by decide +kernel), _, rfl, q, p, b.1, b.2, a.1, a.2, false, rfl, ⟨_, hq⟩, ⟨_, hp⟩, l2.s1.mono (by decide), l2.s2.mono (by decide), l1.s1.mono (by decide), l1.s2.mono (by decide), ?_⟩
          have e3 : lessA b.1 b.2 a.1 a.2 false = ltq b a := by unfold lessA ltq; simp
          rw [e3]
          rcases lt_tri a b with ⟨h1, h2, h3⟩ | ⟨h1, h2, h3⟩ | ⟨h1, h2, h3⟩
          · rw [h3]; rw [h1] at k; exact k
          · exact absurd h2 e
          · rw [h3]; rw [h1, h2] at k; exact k
theorem ok_Stretch_init {P : Program} {w : World} {K : PySem.W.Frag} {mg : Str → Option Value} {base : Heap} {φ : Fds} (T : Txt P K mg φ) : FnOk P w K mg base CX0 3 (He.fAd K ("Stretch", some "__init__")) φ.Stretch_init p_Stretch_init (sp_sinit (He.ga K "Measure") (He.ga K "Stretch")) := by
  obtain ⟨_, B0v, B0⟩ := b_is_measure_or_none_1 T
  obtain ⟨_, B1v, B1⟩ := b_is_empty_4 T
  refine T.f_Stretch_init.ok sc_Stretch_init (fun vs H Q E h => ?_) (fun cdv A outer s H vs Q E hr h => ?_)
  · obtain ⟨p, dx, l, h, lo, hi, li, hj, rfl, hp, ml, mh, l1, l2, so, k⟩ := h; rfl
  · obtain ⟨p, dx, l, h, lo, hi, li, hj, rfl, hp, ml, mh, l1, l2, so, k⟩ := h
    refine ⟨_, PSs.nox (pss_cons (ps_if (PW.pt (pw_or (pt_not (pt_val (pe_call (ok_is_measure_or_none T) (hr.mono (by decide)) rfl T.g_is_measure_or_none T.f_is_measure_or_none.kp B0 B0v pass0 (pa_cons (pv 1) pa_nil)))) (pw_or1 (pt_not (pt_val (pe_call (ok_is_measure_or_none T) (hr.mono (by decide)) rfl T.g_is_measure_or_none T.f_is_measure_or_none.kp B0 B0v pass0 (pa_cons (pv 2) pa_nil)))))))
      (pss_one ps_never)
      pss_nil)
      (pss_cons (ps_if (PW.pt (pw_or (pt_not (pt_val (pe_callB (id := "isinstance") (isi (K := K)) (by rfl) T.z_isinstance (by decide +kernel) (pa_cons (pv 3) (pa_cons (pe_bltn (v := .ty "bool") rfl T.z_bool (by decide +kernel) rfl) pa_nil))))) (pw_or1 (pt_not (pt_val (pe_callB (id := "isinstance") (isi (K := K)) (by rfl) T.z_isinstance (by decide +kernel) (pa_cons (pv 4) (pa_cons (pe_bltn (v := .ty "bool") rfl T.z_bool (by decide +kernel) rfl) pa_nil))))))))
      (pss_one ps_never)
      pss_nil)
      (pss_cons (ps_if (pt_val (pe_call (ok_is_empty T) (hr.mono (by decide)) rfl T.g_is_empty T.f_is_empty.kp B1 B1v pass0 (pa_cons (pv 1) (pa_cons (pv 2) (pa_cons (pv 3) (pa_cons (pv 4) pa_nil))))))
      (pss_one ps_never)
      pss_nil)
      (pss_cons (ps_fld (pv 0) (pv 1) rfl)
      (pss_cons (ps_fld (pv 0) (pv 2) rfl)
      (pss_cons (ps_fld (pv 0) (pe_cut (pe_and (pv 3) (pe_one (pe_cmpR op_notN (pv 1) pe_non (nomark _))))) rfl)
      (pss_one (ps_fld (pv 0) (pe_cut (pe_and (pv 4) (pe_one (pe_cmpR op_notN (pv 2) pe_non (nomark _))))) rfl)))))))), ?_⟩
    refine ⟨_, rfl, l, lo, rfl, ml, _, rfl, iteF ?_⟩
    refine ⟨_, rfl, h, hi, rfl, mh, _, rfl, iteF ?_⟩
    refine ⟨_, rfl, _, _, _, _, true, rfl, .ty _, .base (.bl _), kit_ty (r := true) (by decide +kernel), _, rfl, iteF ?_⟩
    refine ⟨_, rfl, _, _, _, _, true, rfl, .ty _, .base (.bl _), kit_ty (r := true) (by decide +kernel), _, rfl, iteF ?_⟩
    refine ⟨_, rfl, _, rfl, _, rfl, _, rfl, l, h, lo, hi, li, hj, rfl, ml, mh, l1, l2, _, rfl, ?_⟩
    rw [so]
    refine iteF ?_
    refine ⟨_, rfl, _, rfl, p, _, dx, _, rfl, hp, T.cl_Stretch, T.na_Stretch_low, (by show 0 < 1000; decide), ?_⟩
    refine ⟨_, rfl, _, rfl, p, _, dx, _, rfl, upd_same, T.cl_Stretch, T.na_Stretch_high, (by show 1 < 1000; decide), ?_⟩
    have nl : decide (l = V.non) = !lo.isSome := by
      cases lo with
      | none => cases ml; rfl
      | some a => obtain ⟨q, rfl, _⟩ := ml; rfl
    have nh : decide (h = V.non) = !hi.isSome := by
      cases hi with
      | none => cases mh; rfl
      | some a => obtain ⟨q, rfl, _⟩ := mh; rfl
    generalize hJ : upd (upd H p _) p _ = HJ
    refine ⟨fun v H' => HJ = H' ∧ v = .bl (li && lo.isSome), ?_, ?_⟩
    · refine ⟨_, rfl, _, rfl, ?_⟩
      cases li with
      | true =>
        refine iteT ⟨_, rfl, rfl, rfl, ?_⟩
        rw [nl]; simp
      | false => exact iteF ⟨rfl, rfl⟩
    rintro v H' ⟨rfl, rfl⟩
    refine ⟨_, rfl, p, _, dx, _, rfl, (by rw [← hJ]; exact upd_same), T.cl_Stretch, T.na_Stretch_low_in, ?_, ?_⟩
    · exact Nat.lt_of_le_of_lt (length_putF _ _ _) (by show 1 + 1 < 1000; decide)
    generalize hG : upd HJ p _ = HG
    refine ⟨fun v H' => HG = H' ∧ v = .bl (hj && hi.isSome), ?_, ?_⟩
    · refine ⟨_, rfl, _, rfl, ?_⟩
      cases hj with
      | true =>
        refine iteT ⟨_, rfl, rfl, rfl, ?_⟩
        rw [nh]; simp
      | false => exact iteF ⟨rfl, rfl⟩
    rintro v H' ⟨rfl, rfl⟩
    refine ⟨_, rfl, p, _, dx, _, rfl, (by rw [← hG]; exact upd_same), T.cl_Stretch, T.na_Stretch_high_in, ?_, ?_⟩
    · exact Nat.lt_of_le_of_lt (length_putF _ _ _) (Nat.lt_of_le_of_lt (Nat.succ_le_succ (length_putF _ _ _)) (by show 1 + 1 + 1 < 1000; decide))
    refine k _ ?_ fun q o e nq => ?_
    · rw [upd_same, sf_put]
    · rw [upd_ne nq, ← hG, upd_ne nq, ← hJ, upd_ne nq, upd_ne nq]
      exact e
theorem ok_cut_low {P : Program} {w : World} {K : PySem.W.Frag} {mg : Str → Option Value} {base : Heap} {φ : Fds} (T : Txt P K mg φ) : FnOk P w K mg base CX0 2 (He.fAd K ("cut_low", none)) φ.cut_low p_cut_low (sp_cutEnd (He.ga K "Measure") (He.ga K "Stretch") (fun m1 m2 i1 i2 n1 n2 j1 j2 => cutLo m1 i1 n1 j1)) := by
  obtain ⟨_, B0v, B0⟩ := b_Measure_is_below_2 T
  refine T.f_cut_low.ok sc_cut_low (fun vs H Q E h => ?_) (fun cdv A outer s H vs Q E hr h => ?_)
  · obtain ⟨p, q, m1, m2, n1, n2, i1, i2, j1, j2, rfl, ⟨⟨dp, pl, ph, hp, ml, mh⟩, a1, a2, _, _⟩, ⟨⟨dq, ql, qh, hq, nl, nh⟩, b1, b2, _, _⟩, k⟩ := h; rfl
  · obtain ⟨p, q, m1, m2, n1, n2, i1, i2, j1, j2, rfl, ⟨⟨dp, pl, ph, hp, ml, mh⟩, a1, a2, _, _⟩, ⟨⟨dq, ql, qh, hq, nl, nh⟩, b1, b2, _, _⟩, k⟩ := h
    refine ⟨_, PSs.nox (pss_cons (ps_if (pt_cmpR op_isN (fldK (K := K) (pv 0) rfl) pe_non (nomark _))
      (pss_one (ps_ret (pe_tup (pa_cons (fldK (K := K) (pv 1) rfl) (pa_cons (fldK (K := K) (pv 1) rfl) pa_nil)))))
      pss_nil)
      (pss_cons (ps_if (PW.pt (pw_or (pt_cmpR op_isN (fldK (K := K) (pv 1) rfl) pe_non (nomark _)) (pw_or1 (pt_val (pe_meth (fldK (K := K) (pv 1) rfl) T.cl_Measure T.me_Measure_is_below (ok_Measure_is_below T) (hr.mono (by decide)) B0 B0v pass0 (pa_cons (fldK (K := K) (pv 0) rfl) pa_nil))))))
      (pss_one (ps_ret (pe_tup (pa_cons (fldK (K := K) (pv 0) rfl) (pa_cons (fldK (K := K) (pv 0) rfl) pa_nil)))))
      pss_nil)
      (pss_cons (ps_if (pt_val (pe_meth (fldK (K := K) (pv 0) rfl) T.cl_Measure T.me_Measure_is_below (ok_Measure_is_below T) (hr.mono (by decide)) B0 B0v pass0 (pa_cons (fldK (K := K) (pv 1) rfl) pa_nil)))
      (pss_one (ps_ret (pe_tup (pa_cons (fldK (K := K) (pv 1) rfl) (pa_cons (fldK (K := K) (pv 1) rfl) pa_nil)))))
      pss_nil)
      (pss_one (ps_ret (pe_tup (pa_cons (fldK (K := K) (pv 0) rfl) (pa_cons (pe_cut (pe_and (fldK (K := K) (pv 0) rfl) (pe_one (fldK (K := K) (pv 1) rfl)))) pa_nil)))))))), ?_⟩
    refine ⟨_, rfl, _, _, _, _, _, rfl, hp, T.cl_Stretch, T.na_Stretch_low, sf_low _ _ _ _, rfl, _, rfl, ?_⟩
    have LA : ∀ x y : Q2, lessA x.1 x.2 y.1 y.2 false = ltq x y := fun x y => by unfold lessA ltq; simp
    cases m1 with
    | none =>
      cases ml
      refine iteT ?_
      exact ⟨_, rfl, _, _, _, _, _, rfl, hq, T.cl_Stretch, T.na_Stretch_low, sf_low _ _ _ _, _, rfl, _, _, _, _, _, rfl, hq, T.cl_Stretch, T.na_Stretch_low_in, sf_low_in _ _ _ _, by show 2 ≤ sizeLine; decide, fun r nr => k r _ _ (same1 nr) upd_same (nl.same (same1 nr))⟩
    | some a =>
      have ma0 := ml
      obtain ⟨pa, rfl, da, hpa⟩ := ml
      refine iteF ?_
      refine ⟨_, rfl, _, _, _, _, _, rfl, hq, T.cl_Stretch, T.na_Stretch_low, sf_low _ _ _ _, rfl, _, rfl, ?_⟩
      cases n1 with
      | none =>
        cases nl
        refine iteT ?_
        refine iteT ?_
        exact ⟨_, rfl, _, _, _, _, _, rfl, hp, T.cl_Stretch, T.na_Stretch_low, sf_low _ _ _ _, _, rfl, _, _, _, _, _, rfl, hp, T.cl_Stretch, T.na_Stretch_low_in, sf_low_in _ _ _ _, by show 2 ≤ sizeLine; decide, fun r nr => k r _ _ (same1 nr) upd_same (ma0.same (same1 nr))⟩
      | some b =>
        have mb0 := nl
        obtain ⟨pb, rfl, db, hpb⟩ := nl
        refine iteF ?_
        refine ⟨_, rfl, _, _, _, _, _, rfl, hq, T.cl_Stretch, T.na_Stretch_low, sf_low _ _ _ _, pb, _, _, rfl, hpb, mf_no _ _ (by decide +kernel) (by decide +kernel), _, rfl, _, _, _, _, _, rfl, hp, T.cl_Stretch, T.na_Stretch_low, sf_low _ _ _ _, pb, pa, b.1, b.2, a.1, a.2, false, rfl, ⟨_, hpb⟩, ⟨_, hpa⟩, b1.s1.mono (by decide), b1.s2.mono (by decide), a1.s1.mono (by decide), a1.s2.mono (by decide), _, rfl, ?_⟩
        have k : ∀ (r : Addr) (v : V) (H' : Hp), Same H H' → H' r = some (.tup [v, .bl (if ltq a b then (some b, j1) else if eqq a b then (some a, i1 && j1) else (some a, i1)).2]) → MsV (He.ga K "Measure") H' v (if ltq a b then (some b, j1) else if eqq a b then (some a, i1 && j1) else (some a, i1)).1 → Q (.ref r) H' := k
        rcases lt_tri a b with ⟨h1, h2, h3⟩ | ⟨h1, h2, h3⟩ | ⟨h1, h2, h3⟩
        · rw [h1] at k
          · rw [show lessA b.1 b.2 a.1 a.2 false = false from (LA _ _).trans h3]
            refine iteF ?_
            refine ⟨_, rfl, _, _, _, _, _, rfl, hp, T.cl_Stretch, T.na_Stretch_low, sf_low _ _ _ _, pa, _, _, rfl, hpa, mf_no _ _ (by decide +kernel) (by decide +kernel), _, rfl, _, _, _, _, _, rfl, hq, T.cl_Stretch, T.na_Stretch_low, sf_low _ _ _ _, pa, pb, a.1, a.2, b.1, b.2, false, rfl, ⟨_, hpa⟩, ⟨_, hpb⟩, a1.s1.mono (by decide), a1.s2.mono (by decide), b1.s1.mono (by decide), b1.s2.mono (by decide), _, rfl, ?_⟩
            rw [show lessA a.1 a.2 b.1 b.2 false = true from (LA _ _).trans h1]
            exact iteT ⟨_, rfl, _, _, _, _, _, rfl, hq, T.cl_Stretch, T.na_Stretch_low, sf_low _ _ _ _, _, rfl, _, _, _, _, _, rfl, hq, T.cl_Stretch, T.na_Stretch_low_in, sf_low_in _ _ _ _, by show 2 ≤ sizeLine; decide, fun r nr => k r _ _ (same1 nr) upd_same (mb0.same (same1 nr))⟩
        · rw [h1, h2] at k
          · rw [show lessA b.1 b.2 a.1 a.2 false = false from (LA _ _).trans h3]
            refine iteF ?_
            refine ⟨_, rfl, _, _, _, _, _, rfl, hp, T.cl_Stretch, T.na_Stretch_low, sf_low _ _ _ _, pa, _, _, rfl, hpa, mf_no _ _ (by decide +kernel) (by decide +kernel), _, rfl, _, _, _, _, _, rfl, hq, T.cl_Stretch, T.na_Stretch_low, sf_low _ _ _ _, pa, pb, a.1, a.2, b.1, b.2, false, rfl, ⟨_, hpa⟩, ⟨_, hpb⟩, a1.s1.mono (by decide), a1.s2.mono (by decide), b1.s1.mono (by decide), b1.s2.mono (by decide), _, rfl, ?_⟩
            rw [show lessA a.1 a.2 b.1 b.2 false = false from (LA _ _).trans h1]
            refine iteF ?_
            refine ⟨_, rfl, _, _, _, _, _, rfl, hp, T.cl_Stretch, T.na_Stretch_low, sf_low _ _ _ _, ?_⟩
            refine ⟨fun v H' => H = H' ∧ v = .bl (i1 && j1), ?_, ?_⟩
            · refine ⟨_, rfl, _, _, _, _, _, rfl, hp, T.cl_Stretch, T.na_Stretch_low_in, sf_low_in _ _ _ _, _, rfl, ?_⟩
              cases i1 with
              | true => exact iteT ⟨_, rfl, _, _, _, _, _, rfl, hq, T.cl_Stretch, T.na_Stretch_low_in, sf_low_in _ _ _ _, rfl, rfl⟩
              | false => exact iteF ⟨rfl, rfl⟩
            rintro v H' ⟨rfl, rfl⟩
            exact ⟨by show 2 ≤ sizeLine; decide, fun r nr => k r _ _ (same1 nr) upd_same (ma0.same (same1 nr))⟩
        · rw [h1, h2] at k
          · rw [show lessA b.1 b.2 a.1 a.2 false = true from (LA _ _).trans h3]
            exact iteT ⟨_, rfl, _, _, _, _, _, rfl, hp, T.cl_Stretch, T.na_Stretch_low, sf_low _ _ _ _, _, rfl, _, _, _, _, _, rfl, hp, T.cl_Stretch, T.na_Stretch_low_in, sf_low_in _ _ _ _, by show 2 ≤ sizeLine; decide, fun r nr => k r _ _ (same1 nr) upd_same (ma0.same (same1 nr))⟩
theorem ok_cut_high {P : Program} {w : World} {K : PySem.W.Frag} {mg : Str → Option Value} {base : Heap} {φ : Fds} (T : Txt P K mg φ) : FnOk P w K mg base CX0 2 (He.fAd K ("cut_high", none)) φ.cut_high p_cut_high (sp_cutEnd (He.ga K "Measure") (He.ga K "Stretch") (fun m1 m2 i1 i2 n1 n2 j1 j2 => cutHi m2 i2 n2 j2)) := by
  obtain ⟨_, B0v, B0⟩ := b_Measure_is_below_2 T
  refine T.f_cut_high.ok sc_cut_high (fun vs H Q E h => ?_) (fun cdv A outer s H vs Q E hr h => ?_)
  · obtain ⟨p, q, m1, m2, n1, n2, i1, i2, j1, j2, rfl, ⟨⟨dp, pl, ph, hp, ml, mh⟩, a1, a2, _, _⟩, ⟨⟨dq, ql, qh, hq, nl, nh⟩, b1, b2, _, _⟩, k⟩ := h; rfl
  · obtain ⟨p, q, m1, m2, n1, n2, i1, i2, j1, j2, rfl, ⟨⟨dp, pl, ph, hp, ml, mh⟩, a1, a2, _, _⟩, ⟨⟨dq, ql, qh, hq, nl, nh⟩, b1, b2, _, _⟩, k⟩ := h
    refine ⟨_, PSs.nox (pss_cons (ps_if (pt_cmpR op_isN (fldK (K := K) (pv 0) rfl) pe_non (nomark _))
      (pss_one (ps_ret (pe_tup (pa_cons (fldK (K := K) (pv 1) rfl) (pa_cons (fldK (K := K) (pv 1) rfl) pa_nil)))))
      pss_nil)
      (pss_cons (ps_if (PW.pt (pw_or (pt_cmpR op_isN (fldK (K := K) (pv 1) rfl) pe_non (nomark _)) (pw_or1 (pt_val (pe_meth (fldK (K := K) (pv 0) rfl) T.cl_Measure T.me_Measure_is_below (ok_Measure_is_below T) (hr.mono (by decide)) B0 B0v pass0 (pa_cons (fldK (K := K) (pv 1) rfl) pa_nil))))))
      (pss_one (ps_ret (pe_tup (pa_cons (fldK (K := K) (pv 0) rfl) (pa_cons (fldK (K := K) (pv 0) rfl) pa_nil)))))
      pss_nil)
      (pss_cons (ps_if (pt_val (pe_meth (fldK (K := K) (pv 1) rfl) T.cl_Measure T.me_Measure_is_below (ok_Measure_is_below T) (hr.mono (by decide)) B0 B0v pass0 (pa_cons (fldK (K := K) (pv 0) rfl) pa_nil)))
      (pss_one (ps_ret (pe_tup (pa_cons (fldK (K := K) (pv 1) rfl) (pa_cons (fldK (K := K) (pv 1) rfl) pa_nil)))))
      pss_nil)
      (pss_one (ps_ret (pe_tup (pa_cons (fldK (K := K) (pv 0) rfl) (pa_cons (pe_cut (pe_and (fldK (K := K) (pv 0) rfl) (pe_one (fldK (K := K) (pv 1) rfl)))) pa_nil)))))))), ?_⟩
    refine ⟨_, rfl, _, _, _, _, _, rfl, hp, T.cl_Stretch, T.na_Stretch_high, sf_high _ _ _ _, rfl, _, rfl, ?_⟩
    have LA : ∀ x y : Q2, lessA x.1 x.2 y.1 y.2 false = ltq x y := fun x y => by unfold lessA ltq; simp
    cases m2 with
    | none =>
      cases mh
      refine iteT ?_
      exact ⟨_, rfl, _, _, _, _, _, rfl, hq, T.cl_Stretch, T.na_Stretch_high, sf_high _ _ _ _, _, rfl, _, _, _, _, _, rfl, hq, T.cl_Stretch, T.na_Stretch_high_in, sf_high_in _ _ _ _, by show 2 ≤ sizeLine; decide, fun r nr => k r _ _ (same1 nr) upd_same (nh.same (same1 nr))⟩
    | some a =>
      have ma0 := mh
      obtain ⟨pa, rfl, da, hpa⟩ := mh
      refine iteF ?_
      refine ⟨_, rfl, _, _, _, _, _, rfl, hq, T.cl_Stretch, T.na_Stretch_high, sf_high _ _ _ _, rfl, _, rfl, ?_⟩
      cases n2 with
      | none =>
        cases nh
        refine iteT ?_
        refine iteT ?_
        exact ⟨_, rfl, _, _, _, _, _, rfl, hp, T.cl_Stretch, T.na_Stretch_high, sf_high _ _ _ _, _, rfl, _, _, _, _, _, rfl, hp, T.cl_Stretch, T.na_Stretch_high_in, sf_high_in _ _ _ _, by show 2 ≤ sizeLine; decide, fun r nr => k r _ _ (same1 nr) upd_same (ma0.same (same1 nr))⟩
      | some b =>
        have mb0 := nh
        obtain ⟨pb, rfl, db, hpb⟩ := nh
        refine iteF ?_
        refine ⟨_, rfl, _, _, _, _, _, rfl, hp, T.cl_Stretch, T.na_Stretch_high, sf_high _ _ _ _, pa, _, _, rfl, hpa, mf_no _ _ (by decide +kernel) (by decide +kernel), _, rfl, _, _, _, _, _, rfl, hq, T.cl_Stretch, T.na_Stretch_high, sf_high _ _ _ _, pa, pb, a.1, a.2, b.1, b.2, false, rfl, ⟨_, hpa⟩, ⟨_, hpb⟩, a2.s1.mono (by decide), a2.s2.mono (by decide), b2.s1.mono (by decide), b2.s2.mono (by decide), _, rfl, ?_⟩
        have k : ∀ (r : Addr) (v : V) (H' : Hp), Same H H' → H' r = some (.tup [v, .bl (if ltq b a then (some b, j2) else if eqq a b then (some a, i2 && j2) else (some a, i2)).2]) → MsV (He.ga K "Measure") H' v (if ltq b a then (some b, j2) else if eqq a b then (some a, i2 && j2) else (some a, i2)).1 → Q (.ref r) H' := k
        rcases lt_tri a b with ⟨h1, h2, h3⟩ | ⟨h1, h2, h3⟩ | ⟨h1, h2, h3⟩
        · rw [h3, h2] at k
          · rw [show lessA a.1 a.2 b.1 b.2 false = true from (LA _ _).trans h1]
            exact iteT ⟨_, rfl, _, _, _, _, _, rfl, hp, T.cl_Stretch, T.na_Stretch_high, sf_high _ _ _ _, _, rfl, _, _, _, _, _, rfl, hp, T.cl_Stretch, T.na_Stretch_high_in, sf_high_in _ _ _ _, by show 2 ≤ sizeLine; decide, fun r nr => k r _ _ (same1 nr) upd_same (ma0.same (same1 nr))⟩
        · rw [h3, h2] at k
          · rw [show lessA a.1 a.2 b.1 b.2 false = false from (LA _ _).trans h1]
            refine iteF ?_
            refine ⟨_, rfl, _, _, _, _, _, rfl, hq, T.cl_Stretch, T.na_Stretch_high, sf_high _ _ _ _, pb, _, _, rfl, hpb, mf_no _ _ (by decide +kernel) (by decide +kernel), _, rfl, _, _, _, _, _, rfl, hp, T.cl_Stretch, T.na_Stretch_high, sf_high _ _ _ _, pb, pa, b.1, b.2, a.1, a.2, false, rfl, ⟨_, hpb⟩, ⟨_, hpa⟩, b2.s1.mono (by decide), b2.s2.mono (by decide), a2.s1.mono (by decide), a2.s2.mono (by decide), _, rfl, ?_⟩
            rw [show lessA b.1 b.2 a.1 a.2 false = false from (LA _ _).trans h3]
            refine iteF ?_
            refine ⟨_, rfl, _, _, _, _, _, rfl, hp, T.cl_Stretch, T.na_Stretch_high, sf_high _ _ _ _, ?_⟩
            refine ⟨fun v H' => H = H' ∧ v = .bl (i2 && j2), ?_, ?_⟩
            · refine ⟨_, rfl, _, _, _, _, _, rfl, hp, T.cl_Stretch, T.na_Stretch_high_in, sf_high_in _ _ _ _, _, rfl, ?_⟩
              cases i2 with
              | true => exact iteT ⟨_, rfl, _, _, _, _, _, rfl, hq, T.cl_Stretch, T.na_Stretch_high_in, sf_high_in _ _ _ _, rfl, rfl⟩
              | false => exact iteF ⟨rfl, rfl⟩
            rintro v H' ⟨rfl, rfl⟩
            exact ⟨by show 2 ≤ sizeLine; decide, fun r nr => k r _ _ (same1 nr) upd_same (ma0.same (same1 nr))⟩
        · rw [h3] at k
          · rw [show lessA a.1 a.2 b.1 b.2 false = false from (LA _ _).trans h1]
            refine iteF ?_
            refine ⟨_, rfl, _, _, _, _, _, rfl, hq, T.cl_Stretch, T.na_Stretch_high, sf_high _ _ _ _, pb, _, _, rfl, hpb, mf_no _ _ (by decide +kernel) (by decide +kernel), _, rfl, _, _, _, _, _, rfl, hp, T.cl_Stretch, T.na_Stretch_high, sf_high _ _ _ _, pb, pa, b.1, b.2, a.1, a.2, false, rfl, ⟨_, hpb⟩, ⟨_, hpa⟩, b2.s1.mono (by decide), b2.s2.mono (by decide), a2.s1.mono (by decide), a2.s2.mono (by decide), _, rfl, ?_⟩
            rw [show lessA b.1 b.2 a.1 a.2 false = true from (LA _ _).trans h3]
            exact iteT ⟨_, rfl, _, _, _, _, _, rfl, hq, T.cl_Stretch, T.na_Stretch_high, sf_high _ _ _ _, _, rfl, _, _, _, _, _, rfl, hq, T.cl_Stretch, T.na_Stretch_high_in, sf_high_in _ _ _ _, by show 2 ≤ sizeLine; decide, fun r nr => k r _ _ (same1 nr) upd_same (mb0.same (same1 nr))⟩
theorem ok_Stretch_cut {P : Program} {w : World} {K : PySem.W.Frag} {mg : Str → Option Value} {base : Heap} {φ : Fds} (T : Txt P K mg φ) : FnOk P w K mg base CX0 5 (He.fAd K ("Stretch", some "cut")) φ.Stretch_cut p_Stretch_cut (sp_cutS (He.ga K "Measure") (He.ga K "Stretch")) := by
  obtain ⟨_, B0v, B0⟩ := b_cut_low_2 T
  obtain ⟨_, B1v, B1⟩ := b_cut_high_2 T
  obtain ⟨_, B2v, B2⟩ := b_is_empty_4 T
  obtain ⟨_, B3v, B3⟩ := b_Stretch_init_5 T
  refine T.f_Stretch_cut.ok sc_Stretch_cut (fun vs H Q E h => ?_) (fun cdv A outer s H vs Q E hr h => ?_)
  · obtain ⟨p, q, m1, m2, n1, n2, i1, i2, j1, j2, rfl, sp, sq, k⟩ := h; rfl
  · obtain ⟨p, q, m1, m2, n1, n2, i1, i2, j1, j2, rfl, sp, sq, k⟩ := h
    refine ⟨_, PSs.nox (pss_cons (ps_asg (pe_call (ok_cut_low T) (hr.mono (by decide)) rfl T.g_cut_low T.f_cut_low.kp B0 B0v pass0 (pa_cons (pv 0) (pa_cons (pv 1) pa_nil))) (pg_tup rfl (pgs_cons (pg_name (i := 2) sc_Stretch_cut.nd rfl (Or.inl rfl)) (pgs_cons (pg_name (i := 3) sc_Stretch_cut.nd rfl (Or.inl rfl)) pgs_nil))))
      (pss_cons (ps_asg (pe_call (ok_cut_high T) (hr.mono (by decide)) rfl T.g_cut_high T.f_cut_high.kp B1 B1v pass0 (pa_cons (pv 0) (pa_cons (pv 1) pa_nil))) (pg_tup rfl (pgs_cons (pg_name (i := 4) sc_Stretch_cut.nd rfl (Or.inl rfl)) (pgs_cons (pg_name (i := 5) sc_Stretch_cut.nd rfl (Or.inl rfl)) pgs_nil))))
      (pss_cons (ps_if (pt_val (pe_call (ok_is_empty T) (hr.mono (by decide)) rfl T.g_is_empty T.f_is_empty.kp B2 B2v pass0 (pa_cons (pv 2) (pa_cons (pv 4) (pa_cons (pv 3) (pa_cons (pv 5) pa_nil))))))
      (pss_one (ps_ret pe_non))
      pss_nil)
      (pss_one (ps_ret (pe_make T.mk_Stretch (ok_Stretch_init T) (hr.mono (by decide)) rfl T.g_Stretch B3 B3v pass0 (pa_cons (pv 2) (pa_cons (pv 4) (pa_cons (pv 3) (pa_cons (pv 5) pa_nil)))))))))), ?_⟩
    refine ⟨_, rfl, _, rfl, p, q, m1, m2, n1, n2, i1, i2, j1, j2, rfl, sp, sq, fun r v H1 s1 hr1 mv => ?_⟩
    refine ⟨r, _, rfl, SqT.of hr1, rfl, _, _, rfl, _, _, rfl, rfl, ?_⟩
    refine ⟨_, rfl, _, rfl, p, q, m1, m2, n1, n2, i1, i2, j1, j2, rfl, sp.same s1, sq.same s1, fun r2 w H2 s2 hr2 mw => ?_⟩
    refine ⟨r2, _, rfl, SqT.of hr2, rfl, _, _, rfl, _, _, rfl, rfl, ?_⟩
    have mv2 := mv.same s2
    have lv : LowO (cutLo m1 i1 n1 j1).1 := cutLo_low sp.l1 sq.l1
    have lw : LowO (cutHi m2 i2 n2 j2).1 := cutHi_low sp.l2 sq.l2
    refine ⟨_, rfl, _, rfl, _, rfl, _, rfl, v, w, _, _, _, _, rfl, mv2, mw, lv, lw, _, rfl, ?_⟩
    cases e : someB (cutLo m1 i1 n1 j1).1 (cutHi m2 i2 n2 j2).1 (cutLo m1 i1 n1 j1).2 (cutHi m2 i2 n2 j2).2 with
    | false =>
      refine iteT ?_
      exact k _ H2 (s1.trans s2) (.inr ⟨e, rfl⟩)
    | true =>
      refine iteF ?_
      refine ⟨_, rfl, _, rfl, _, rfl, _, rfl, ?_⟩
      intro x dx nx nd ne
      have sx : Same H2 (upd (upd H2 dx (.own x)) x (.ins (He.ga K "Stretch") dx [])) := fun c o e => by
        rw [upd_ne (ne_of_none e nx)]; exact up1 nd e
      refine ⟨x, dx, v, w, _, _, _, _, rfl, upd_same, mv2.same sx, mw.same sx, lv, lw, e, fun H' hx kp => ⟨rfl, ?_⟩⟩
      have s' : Same H2 H' := made_same nx nd kp
      exact k _ H' ((s1.trans s2).trans s') (.inl ⟨e, x, rfl, StAt.mk' hx s' mv2 mw lv lw⟩)
theorem ok_end_at {P : Program} {w : World} {K : PySem.W.Frag} {mg : Str → Option Value} {base : Heap} {φ : Fds} (T : Txt P K mg φ) : FnOk P w K mg base CX0 1 (He.fAd K ("end_at", none)) φ.end_at p_end_at (sp_endat K (He.ga K "Measure")) := by
  refine T.f_end_at.ok sc_end_at (fun vs H Q E h => ?_) (fun cdv A outer s H vs Q E hr h => ?_)
  · obtain ⟨T', k, ps, zs, i, rfl, hq, hm, kk⟩ := h; rfl
  · obtain ⟨T', k, ps, zs, i, rfl, hq, hm, kk⟩ := h
    refine ⟨_, PSs.nox (pss_cons (ps_if (pt_chain op_le op_lt pe_int (pv 1) (pe_callB (id := "len") (lenS (K := K)) (by rfl) T.z_len PySem.boot_len (pa_cons (pv 0) pa_nil)))
      (pss_one (ps_ret (pe_ix (ixs (K := K)) (pv 0) (pv 1) (fun _ _ => rfl))))
      pss_nil)
      (pss_one (ps_ret pe_non))), ?_⟩
    have el : ps.length = zs.length := hm.len
    walk_at "w"
    by_cases c1 : 0 ≤ i
    · obtain ⟨n, rfl⟩ := Int.eq_ofNat_of_zero_le c1
      walk_at "w"
      rw [endQ_in rfl] at kk
      by_cases c2 : n < zs.length
      · obtain ⟨a, ha⟩ := ge2 c2
        obtain ⟨p, ep, qp⟩ := hm.at ha
        rw [ha] at kk
        walk_at "w"
        exact kk _ ⟨p, rfl, qp⟩
      · walk_at "w"
        refine kk _ ?_
        rw [List.getElem?_eq_none (by omega)]
        rfl
    · walk_at "w"
      refine kk _ ?_
      rw [endQ_none (by omega)]
      rfl
theorem ok_has_size {P : Program} {w : World} {K : PySem.W.Frag} {mg : Str → Option Value} {base : Heap} {φ : Fds} (T : Txt P K mg φ) : FnOk P w K mg base CX0 2 (He.fAd K ("has_size", none)) φ.has_size p_has_size (sp_hassz K (He.ga K "Measure") (He.ga K "Ladder")) := by
  obtain ⟨_, B0v, B0⟩ := b_is_whole_1 T
  refine T.f_has_size.ok sc_has_size (fun vs H Q E h => ?_) (fun cdv A outer s H vs Q E hr h => ?_)
  · obtain ⟨p, k, zs, r, lo, hi, n, rfl, hL, hn, kk⟩ := h; rfl
  · obtain ⟨p, k, zs, r, lo, hi, n, rfl, hL, hn, kk⟩ := h
    refine ⟨_, PSs.nox (pss_one (ps_ret (pe_and (pe_call (ok_is_whole T) (hr.mono (by decide)) rfl T.g_is_whole T.f_is_whole.kp B0 B0v pass0 (pa_cons (pv 1) pa_nil)) (pe_one (pe_chain op_le op_lt pe_int (pv 1) (pe_callB (id := "len") (lenS (K := K)) (by rfl) T.z_len PySem.boot_len (pa_cons (fldK (K := K) (pv 0) rfl) pa_nil))))))), ?_⟩
    have cl_Ladder := T.cl_Ladder
    have na_Ladder_marks := T.na_Ladder_marks
    have na_Ladder_rule := T.na_Ladder_rule
    have na_Ladder_least := T.na_Ladder_least
    have na_Ladder_most := T.na_Ladder_most
    
    obtain ⟨⟨dx, T', ps, l, h, hp, hT, hm, ql, qh⟩, l0, l1, hri, hru, hsp⟩ := hL
    have el : ps.length = zs.length := hm.len
    walk_at "w"
    show Q (.bl (decide ((n : Int) < (ps.length : Int)))) H
    rw [decide_eq_true (by omega)]
    exact kk
theorem ok_Ladder_len {P : Program} {w : World} {K : PySem.W.Frag} {mg : Str → Option Value} {base : Heap} {φ : Fds} (T : Txt P K mg φ) : FnOk P w K mg base CX0 1 (He.fAd K ("Ladder", some "__len__")) φ.Ladder_len p_Ladder_len (sp_llen K (He.ga K "Measure") (He.ga K "Ladder")) := by
  refine T.f_Ladder_len.ok sc_Ladder_len (fun vs H Q E h => ?_) (fun cdv A outer s H vs Q E hr h => ?_)
  · obtain ⟨p, k, zs, r, lo, hi, rfl, hL, kk⟩ := h; rfl
  · obtain ⟨p, k, zs, r, lo, hi, rfl, hL, kk⟩ := h
    refine ⟨_, PSs.nox (pss_one (ps_ret (pe_callB (id := "len") (lenS (K := K)) (by rfl) T.z_len PySem.boot_len (pa_cons (fldK (K := K) (pv 0) rfl) pa_nil)))), ?_⟩
    have cl_Ladder := T.cl_Ladder
    have na_Ladder_marks := T.na_Ladder_marks
    have na_Ladder_rule := T.na_Ladder_rule
    have na_Ladder_least := T.na_Ladder_least
    have na_Ladder_most := T.na_Ladder_most
    
    obtain ⟨⟨dx, T', ps, l, h, hp, hT, hm, ql, qh⟩, l0, l1, hri, hru, hsp⟩ := hL
    have el : ps.length = zs.length := hm.len
    walk_at "w"
    rw [el]
    exact kk
theorem ok_stretch_by_rule {P : Program} {w : World} {K : PySem.W.Frag} {mg : Str → Option Value} {base : Heap} {φ : Fds} (T : Txt P K mg φ) : FnOk P w K mg base CX0 6 (He.fAd K ("stretch_by_rule", none)) φ.stretch_by_rule p_stretch_by_rule (sp_strR K (He.ga K "Measure") (He.ga K "Stretch")) := by
  obtain ⟨_, B0v, B0⟩ := b_Stretch_init_3 T
  obtain ⟨_, B1v, B1⟩ := b_end_at_2 T
  obtain ⟨_, B2v, B2⟩ := b_Stretch_init_5 T
  obtain ⟨_, B3v, B3⟩ := b_midsts_of_1 T
  refine T.f_stretch_by_rule.ok sc_stretch_by_rule (fun vs H Q E h => ?_) (fun cdv A outer s H vs Q E hr h => ?_)
  · obtain ⟨T', k, ps, zs, r, n, rfl, hT, hm, k0, k1, l1, hn, hr', kk⟩ := h; rfl
  · obtain ⟨T', k, ps, zs, r, n, rfl, hT, hm, k0, k1, l1, hn, hr', kk⟩ := h
    refine ⟨_, PSs.nox (pss_cons (ps_if (pt_cmpR op_eq (pv 1) pe_str (nomark _))
      (pss_one (ps_ret (pe_make T.mk_Stretch (ok_Stretch_init T) (hr.mono (by decide)) rfl T.g_Stretch B0 B0v pass0 (pa_cons (pe_call (ok_end_at T) (hr.mono (by decide)) rfl T.g_end_at T.f_end_at.kp B1 B1v pass0 (pa_cons (pv 0) (pa_cons (pe_op op_sub (pv 2) pe_int) pa_nil))) (pa_cons (pe_ix (ixt (K := K)) (pv 0) (pv 2) (fun _ _ => rfl)) pa_nil)))))
      pss_nil)
      (pss_cons (ps_if (pt_cmpR op_eq (pv 1) pe_str (nomark _))
      (pss_one (ps_ret (pe_make T.mk_Stretch (ok_Stretch_init T) (hr.mono (by decide)) rfl T.g_Stretch B2 B2v pass0 (pa_cons (pe_ix (ixt (K := K)) (pv 0) (pv 2) (fun _ _ => rfl)) (pa_cons (pe_call (ok_end_at T) (hr.mono (by decide)) rfl T.g_end_at T.f_end_at.kp B1 B1v pass0 (pa_cons (pv 0) (pa_cons (pe_op op_add (pv 2) pe_int) pa_nil))) (pa_cons pe_bl (pa_cons pe_bl pa_nil)))))))
      pss_nil)
      (pss_cons (ps_set (i := 3) sc_stretch_by_rule.nd rfl (Or.inl rfl) (pe_call (ok_midsts_of T) (hr.mono (by decide)) rfl T.g_midsts_of T.f_midsts_of.kp B3 B3v pass0 (pa_cons (pv 0) pa_nil)))
      (pss_one (ps_ret (pe_make T.mk_Stretch (ok_Stretch_init T) (hr.mono (by decide)) rfl T.g_Stretch B2 B2v pass0 (pa_cons (pe_call (ok_end_at T) (hr.mono (by decide)) rfl T.g_end_at T.f_end_at.kp B1 B1v pass0 (pa_cons (pv 3) (pa_cons (pe_op op_sub (pv 2) pe_int) pa_nil))) (pa_cons (pe_call (ok_end_at T) (hr.mono (by decide)) rfl T.g_end_at T.f_end_at.kp B1 B1v pass0 (pa_cons (pv 3) (pa_cons (pv 2) pa_nil))) (pa_cons pe_bl (pa_cons pe_bl pa_nil)))))))))), ?_⟩
    obtain ⟨a, ha⟩ := ge2 hn
    obtain ⟨pa, ea, qa⟩ := hm.at ha
    have l0 : 0 < zs.length := by omega
    refine ⟨_, rfl, rfl, _, rfl, ?_⟩
    refine ite2 (fun e => ?_) (fun e => ?_)
    · have er : r = "up" := V.str.inj (of_decide_eq_true e)
      have ee : rulE zs r n = ((endQ zs ((n : Int) - 1), false), (zs[n]?, true)) := by unfold rulE; rw [if_pos er]
      rw [ee, ha] at kk
      walk_at "w"
      refine ⟨zs, _, rfl, .inr hT, hm, fun v1 q1 => ?_⟩
      walk_at "w"
      have so := some_up (n := n) hr' (i := false) (j := true)
      rw [ha] at so
      exact stq_made (a := endQ zs ((n : Int) - 1)) (b := some a) (ia := false) (ib := true) q1 ⟨pa, rfl, qa⟩ (by omega) (by omega) so fun p H' s S => kk p H' s S
    have er : ¬ r = "up" := fun z => e (decide_eq_true (congrArg V.str z))
    refine ⟨_, rfl, rfl, _, rfl, ?_⟩
    refine ite2 (fun e => ?_) (fun e => ?_)
    · have er2 : r = "down" := V.str.inj (of_decide_eq_true e)
      have ee : rulE zs r n = ((zs[n]?, true), (endQ zs ((n : Int) + 1), false)) := by unfold rulE; rw [if_neg er, if_pos er2]
      rw [ee, ha] at kk
      walk_at "w"
      refine ⟨zs, _, rfl, .inr hT, hm, fun v1 q1 => ?_⟩
      walk_at "w"
      have so := some_dn (n := n) hr' (i := true) (j := false)
      rw [ha] at so
      exact stq_made (b := endQ zs ((n : Int) + 1)) (a := some a) (ia := true) (ib := false) ⟨pa, rfl, qa⟩ q1 (by omega) (by omega) so fun p H' s S => kk p H' s S
    have er2 : ¬ r = "down" := fun z => e (decide_eq_true (congrArg V.str z))
    have ee : rulE zs r n = ((endQ (midq zs) ((n : Int) - 1), true), (endQ (midq zs) n, false)) := by unfold rulE; rw [if_neg er, if_neg er2]
    rw [ee] at kk
    refine ⟨_, rfl, T', k, ps, zs, rfl, hT, hm, k0, k1, l0, l1, fun D ys H1 s1 hD hm1 => ?_⟩
    walk_at "w"
    refine ⟨midq zs, _, rfl, .inl (SqL.of hD), hm1, fun v1 q1 => ?_⟩
    walk_at "w"
    refine ⟨midq zs, _, rfl, .inl (SqL.of hD), hm1, fun v2 q2 => ?_⟩
    exact stq_made (a := endQ (midq zs) ((n : Int) - 1)) (b := endQ (midq zs) n) (ia := true) (ib := false) q1 q2 (by omega) (by omega) (some_nr (midq_rise hr' hm.posL)) fun p H' s S => kk p H' (s1.trans s) S
theorem ok_Ladder_stretch {P : Program} {w : World} {K : PySem.W.Frag} {mg : Str → Option Value} {base : Heap} {φ : Fds} (T : Txt P K mg φ) : FnOk P w K mg base CX0 7 (He.fAd K ("Ladder", some "stretch")) φ.Ladder_stretch p_Ladder_stretch (sp_stretch K (He.ga K "Measure") (He.ga K "Ladder") (He.ga K "Stretch")) := by
  obtain ⟨_, B0v, B0⟩ := b_has_size_2 T
  obtain ⟨_, B1v, B1⟩ := b_Stretch_init_5 T
  obtain ⟨_, B2v, B2⟩ := b_Stretch_cut_2 T
  obtain ⟨_, B3v, B3⟩ := b_stretch_by_rule_3 T
  refine T.f_Ladder_stretch.ok sc_Ladder_stretch (fun vs H Q E h => ?_) (fun cdv A outer s H vs Q E hr h => ?_)
  · obtain ⟨p, k, zs, r, lo, hi, n, rfl, hL, k0, k1, hn, kk⟩ := h; rfl
  · obtain ⟨p, k, zs, r, lo, hi, n, rfl, hL, k0, k1, hn, kk⟩ := h
    refine ⟨_, PSs.nox (pss_cons (ps_if (pt_not (pt_val (pe_call (ok_has_size T) (hr.mono (by decide)) rfl T.g_has_size T.f_has_size.kp B0 B0v pass0 (pa_cons (pv 0) (pa_cons (pv 1) pa_nil)))))
      (pss_one ps_never)
      pss_nil)
      (pss_cons (ps_set (i := 2) sc_Ladder_stretch.nd rfl (Or.inl rfl) (pe_make T.mk_Stretch (ok_Stretch_init T) (hr.mono (by decide)) rfl T.g_Stretch B1 B1v pass0 (pa_cons (fldK (K := K) (pv 0) rfl) (pa_cons (fldK (K := K) (pv 0) rfl) (pa_cons pe_bl (pa_cons pe_bl pa_nil))))))
      (pss_one (ps_ret (pe_meth (pe_call (ok_stretch_by_rule T) (hr.mono (by decide)) rfl T.g_stretch_by_rule T.f_stretch_by_rule.kp B3 B3v pass0 (pa_cons (fldK (K := K) (pv 0) rfl) (pa_cons (fldK (K := K) (pv 0) rfl) (pa_cons (pv 1) pa_nil)))) T.cl_Stretch T.me_Stretch_cut (ok_Stretch_cut T) (hr.mono (by decide)) B2 B2v pass0 (pa_cons (pv 2) pa_nil)))))), ?_⟩
    have cl_Ladder := T.cl_Ladder
    have na_Ladder_marks := T.na_Ladder_marks
    have na_Ladder_rule := T.na_Ladder_rule
    have na_Ladder_least := T.na_Ladder_least
    have na_Ladder_most := T.na_Ladder_most
    
    have hL0 := hL
    obtain ⟨⟨dx, T', ps, l, h, hp, hT, hm, ql, qh⟩, l0, l1, hri, hru, hsp⟩ := hL
    have el : ps.length = zs.length := hm.len
    walk_at "w"
    refine ⟨zs, _, lo, hi, n, rfl, hL0, hn, _, rfl, iteF ?_⟩
    walk_at "w"
    change ∀ (x dx : Addr), _
    refine stq_made (a := lo) (b := hi) (ia := true) (ib := true) ql qh (by omega) (by omega) (some_tt hsp) (fun B H1 s1 SB => ?_)
    have hp1 := s1 _ _ hp
    have hT1 := s1.sqt hT
    have hm1 := hm.same s1
    walk_at "w"
    refine ⟨zs, _, n, rfl, hT1, hm1, k0, k1, l1, hn, hri, fun S H2 s2 SS => ?_⟩
    obtain ⟨a1, b1, St1, ra, rb⟩ := SS
    obtain ⟨a2, b2, St2, rc, rd⟩ := SB.same s2
    refine meth_s St1 (by decide +kernel) (by decide +kernel) (by decide +kernel) (by decide +kernel) ?_
    refine ⟨_, rfl, S, B, _, _, _, _, _, _, _, _, rfl, St1, St2, fun v H3 s3 C => ?_⟩
    have A1 : Alike (a1, (rulE zs r n).1.2 && (rulE zs r n).1.1.isSome) (rulE zs r n).1 := Alike.norm (i := (rulE zs r n).1.2) ra
    have A2 : Alike (a2, true && lo.isSome) (lo, true) := Alike.norm rc
    have B1 : Alike (b1, (rulE zs r n).2.2 && (rulE zs r n).2.1.isSome) (rulE zs r n).2 := Alike.norm (i := (rulE zs r n).2.2) rb
    have B2 : Alike (b2, true && hi.isSome) (hi, true) := Alike.norm rd
    exact kk v H3 ((s1.trans s2).trans s3) ⟨_, _, C, cutLo_alike A1 A2, cutHi_alike B1 B2⟩
theorem ok_l_take {P : Program} {w : World} {K : PySem.W.Frag} {mg : Str → Option Value} {base : Heap} {φ : Fds} (T : Txt P K mg φ) : FnOk P w K mg base CX0 1 (He.fAd K ("_law_take", none)) φ.l_take p_l_take sp_take := by
  refine T.f_l_take.ok sc_l_take (fun vs H Q E h => ?_) (fun cdv A outer s H vs Q E hr h => ?_)
  · obtain ⟨hd, n, m, rfl, hh, hn, hm, hl, k⟩ := h; rfl
  · obtain ⟨hd, n, m, rfl, hh, hn, hm, hl, k⟩ := h
    refine ⟨_, PSs.nox (pss_cons (ps_if (pt_cmpR op_gt (pe_ix (ixl (K := K)) (pv 0) pe_int (fun _ _ => rfl)) pe_int (nomark _))
      (pss_cons (ps_set (i := 2) sc_l_take.nd rfl (Or.inl rfl) (pe_op op_mod (pe_ix (ixl (K := K)) (pv 0) pe_int (fun _ _ => rfl)) (pv 1)))
      (pss_cons (ps_asg (pe_op op_fd (pe_ix (ixl (K := K)) (pv 0) pe_int (fun _ _ => rfl)) (pv 1)) (pg_sub (pv 0) pe_int set_list))
      (pss_one (ps_ret (pv 2)))))
      pss_nil)
      (pss_cons (ps_set (i := 3) sc_l_take.nd rfl (Or.inl rfl) (pe_op op_add (pe_ix (ixl (K := K)) (pv 0) pe_int (fun _ _ => rfl)) pe_int))
      (pss_cons (ps_asg (pv 3) (pg_sub (pv 0) pe_int set_list))
      (pss_cons (ps_set (i := 4) sc_l_take.nd rfl (Or.inl rfl) (pe_ix (ixl (K := K)) (pe_lst (pa_cons pe_int (pa_cons pe_int (pa_cons pe_int (pa_cons pe_int pa_nil))))) (pe_op op_mod (pv 3) pe_int) (fun _ _ => rfl)))
      (pss_cons (ps_set (i := 5) sc_l_take.nd rfl (Or.inl rfl) (pe_op op_mod (pe_op op_add (pe_op op_add (pe_ix (ixl (K := K)) (pv 0) pe_int (fun _ _ => rfl)) (pe_op op_mulA (pe_op op_mulA pe_int (pv 3)) (pv 3))) (pe_op op_mulA pe_int (pv 3))) (pv 4)))
      (pss_cons (ps_set (i := 5) sc_l_take.nd rfl (Or.inl rfl) (pe_op op_mod (pe_op op_pow (pv 5) pe_int) (pv 4)))
      (pss_one (ps_ret (pe_op op_mod (pe_op op_add (pe_op op_fd (pv 5) pe_int) (pe_op op_mulA (pe_op op_fd (pv 5) pe_int) pe_int)) (pv 1)))))))))), ?_⟩
    obtain ⟨a, b, c, h0, ha, hb, hb2, hc, hc2⟩ := hh
    refine ⟨_, rfl, _, _, _, _, rfl, rfl, SqL.of h0, rfl, _, _, rfl, rfl, _, rfl, ?_⟩
    refine ite2 (fun e => ?_) (fun e => ?_)
    · have e0 : 0 < a := of_decide_eq_true e
      refine ⟨_, rfl, _, _, _, _, rfl, rfl, SqL.of h0, rfl, _, rfl, _, _, rfl, rfl, hm, ?_⟩
      refine ⟨_, rfl, _, _, _, _, rfl, rfl, SqL.of h0, rfl, _, rfl, _, _, rfl, rfl, ⟨by omega, hl⟩, _, rfl, _, _, _, _, rfl, rfl, h0, rfl, ?_⟩
      refine ⟨_, rfl, k _ _ (Int.emod_nonneg _ (by omega)) (Int.emod_lt_of_pos _ hm) ⟨a.fdiv m, b, c, upd_same, ?_, hb, hb2, hc, by omega⟩ (Kp.refl _ _).set⟩
      rw [Int.fdiv_eq_ediv_of_nonneg a (by omega)]
      exact Int.ediv_nonneg ha (by omega)
    · have c9 : c ≤ 1000000 := by omega
      refine ⟨_, rfl, _, _, _, _, rfl, rfl, SqL.of h0, rfl, _, _, rfl, rfl, _, rfl, _, rfl, _, _, _, _, rfl, rfl, h0, rfl, ?_⟩
      have h1 : (upd H hd (.lst ([V.int a, V.int b, V.int c].set 2 (V.int (c + 1))))) hd = some (.lst [V.int a, V.int b, V.int (c + 1)]) := upd_same
      refine ⟨by show 4 ≤ sizeLine; decide, fun q nq => ?_⟩
      have nqh : q ≠ hd := (ne_of_none h1 nq).symm
      have hp : ∃ m : Int, 0 < m ∧ m < 2 ^ 62 ∧ atI [V.int 2305843009213693951, V.int 999999999989, V.int 1000000000039, V.int 67280421310721] ((c + 1) % 4) = some (V.int m) := by
        have e4 : (c + 1) % 4 = 0 ∨ (c + 1) % 4 = 1 ∨ (c + 1) % 4 = 2 ∨ (c + 1) % 4 = 3 := by omega
        rcases e4 with e | e | e | e <;> rw [e]
        · exact ⟨2305843009213693951, by decide, by decide, rfl⟩
        · exact ⟨999999999989, by decide, by decide, rfl⟩
        · exact ⟨1000000000039, by decide, by decide, rfl⟩
        · exact ⟨67280421310721, by decide, by decide, rfl⟩
      obtain ⟨p, p0, p1, hat⟩ := hp
      refine ⟨_, rfl, _, _, rfl, rfl, (by show (0 : Int) < 4; decide), _, _, _, _, rfl, rfl, SqL.of upd_same, hat, ?_⟩
      have h2 := up1 (u := .lst [V.int 2305843009213693951, V.int 999999999989, V.int 1000000000039, V.int 67280421310721]) nq h1
      have s2 : Kp hd H (upd (upd H hd (.lst ([V.int a, V.int b, V.int c].set 2 (V.int (c + 1))))) q (.lst [V.int 2305843009213693951, V.int 999999999989, V.int 1000000000039, V.int 67280421310721])) := ((Kp.refl hd H).set).up nq
      have cm : 0 ≤ 7919 * (c + 1) := by omega
      have cM : 7919 * (c + 1) ≤ 7919 * 1000001 := by omega
      refine ⟨_, rfl, _, _, _, _, rfl, rfl, SqL.of h2, rfl, _, rfl, _, _, rfl, rfl, .inl (.inl ⟨by decide, by decide⟩), _, rfl, _, _, rfl, rfl, .inl (.inl ⟨by omega, by omega⟩), _, _, rfl, rfl, _, rfl, _, _, rfl, rfl, .inl (.inl ⟨by decide, by decide⟩), _, _, rfl, rfl, _, rfl, _, _, rfl, rfl, p0, ?_⟩
      generalize (b + 7919 * (c + 1) * (c + 1) + 65537 * (c + 1)) = z
      have z0 := Int.emod_nonneg z (show p ≠ 0 by omega)
      have z1 := Int.emod_lt_of_pos z p0
      refine ⟨_, rfl, _, _, rfl, rfl, ⟨by decide, by decide, ?_⟩, _, rfl, _, _, rfl, rfl, p0, ?_⟩
      · show (z % p).natAbs < 2 ^ 64
        omega
      generalize (z % p) ^ Int.toNat 5 % p = y
      refine ⟨_, rfl, _, _, rfl, rfl, ⟨by decide, by decide +kernel⟩, _, rfl, _, _, rfl, rfl, ⟨by decide, by decide +kernel⟩, _, _, rfl, rfl, .inl (.inr ⟨by decide, by decide⟩), _, _, rfl, rfl, _, rfl, _, _, rfl, rfl, hm, ?_⟩
      exact k _ _ (Int.emod_nonneg _ (by omega)) (Int.emod_lt_of_pos _ hm) ⟨a, b, c + 1, h2, ha, hb, hb2, by omega, by omega⟩ s2
theorem ok_l_hand {P : Program} {w : World} {K : PySem.W.Frag} {mg : Str → Option Value} {base : Heap} {φ : Fds} (T : Txt P K mg φ) : FnOk P w K mg base CX0 1 (He.fAd K ("_law_hand", none)) φ.l_hand p_l_hand (sp_hand K) := by
  refine T.f_l_hand.ok sc_l_hand (fun vs H Q E h => ?_) (fun cdv A outer s H vs Q E hr h => ?_)
  · obtain ⟨a, ns, kk, rfl, hS, hk, k⟩ := h; rfl
  · obtain ⟨a, ns, kk, rfl, hS, hk, k⟩ := h
    refine ⟨_, PSs.nox (pss_cons (ps_set (i := 2) sc_l_hand.nd rfl (Or.inl rfl) pe_int)
      (pss_cons (ps_cut (ps_if (pt_cmpR op_lt (pv 1) (pe_callB (id := "len") (lenS (K := K)) (by rfl) T.z_len PySem.boot_len (pa_cons (pv 0) pa_nil)) (nomark _))
      (pss_one (ps_set (i := 2) sc_l_hand.nd rfl (Or.inl rfl) (pe_ix (ixl (K := K)) (pv 0) (pv 1) (fun _ _ => rfl))))
      pss_nil))
      (pss_cons (ps_set (i := 3) sc_l_hand.nd rfl (Or.inl rfl) (pe_callB (id := "abs") call_abs (by rfl) T.z_abs (by decide +kernel) (pa_cons (pv 2) pa_nil)))
      (pss_cons (ps_cut (ps_if (pt_cmpR op_lt (pv 3) (pe_op op_pow pe_int pe_int) (nomark _))
      (pss_one (ps_set (i := 3) sc_l_hand.nd rfl (Or.inl rfl) pe_int))
      pss_nil))
      (pss_one (ps_ret (pe_lst (pa_cons (pv 3) (pa_cons (pe_op op_add (pe_op op_add (pe_op op_mod (pv 2) pe_int) (pe_op op_mulA pe_int (pv 1))) pe_int) (pa_cons pe_int pa_nil)))))))))), ?_⟩
    refine ⟨fun σ' H' => H' = H ∧ ∃ z : Int, σ' = [some (.ref a), some (.int kk), some (.int z), none], ?_, ?_⟩
    · refine ⟨_, rfl, _, rfl, a, _, rfl, .inl hS, _, _, rfl, rfl, _, rfl, ?_⟩
      refine ite2 (fun e => ?_) (fun e => ?_)
      · have e0 : (kk : Int) < ((ns.map V.int).length : Int) := of_decide_eq_true e
        rw [List.length_map] at e0
        have e1 : kk < ns.length := by omega
        refine ⟨_, rfl, _, rfl, a, _, _, V.int ns[kk], rfl, rfl, hS, atI_nat ?_, rfl, _, rfl⟩
        rw [List.getElem?_map, List.getElem?_eq_getElem e1]
        rfl
      · exact ⟨rfl, 0, rfl⟩
    · rintro σ' H' ⟨rfl, z, rfl⟩
      refine ⟨_, rfl, _, rfl, ?_⟩
      refine ⟨fun σ' H'' => H'' = H' ∧ ∃ y : Int, 0 ≤ y ∧ σ' = [some (.ref a), some (.int kk), some (.int z), some (.int y)], ?_, ?_⟩
      · refine ⟨_, rfl, _, _, rfl, rfl, ⟨by decide, by decide, by decide⟩, _, _, rfl, rfl, _, rfl, ?_⟩
        refine ite2 (fun e => ?_) (fun e => ?_)
        · exact ⟨rfl, 0, by decide, rfl⟩
        · exact ⟨rfl, _, by split <;> omega, rfl⟩
      rintro σ' H'' ⟨rfl, y, y0, rfl⟩
      refine ⟨_, rfl, _, rfl, _, _, rfl, rfl, (by show (0 : Int) < 2305843009213693951; decide), _, rfl, _, _, rfl, rfl, .inl (.inl ⟨by decide, by decide⟩), _, _, rfl, rfl, _, _, rfl, rfl, by show 3 ≤ sizeLine; decide, fun p hp => ?_⟩
      have e1 := Int.emod_nonneg z (show (2305843009213693951 : Int) ≠ 0 by decide)
      have e2 := Int.emod_lt_of_pos z (show (0 : Int) < 2305843009213693951 by decide)
      exact k p _ hp (same1 hp) ⟨_, _, _, upd_same, y0, by omega, by omega, by decide, by decide⟩
theorem ok_l_of {P : Program} {w : World} {K : PySem.W.Frag} {mg : Str → Option Value} {base : Heap} {φ : Fds} (T : Txt P K mg φ) : FnOk P w K mg base CX0 2 (He.fAd K ("_law_of", none)) φ.l_of p_l_of (sp_of K) := by
  obtain ⟨_, B0v, B0⟩ := b_l_take_2 T
  refine T.f_l_of.ok sc_l_of (fun vs H Q E h => ?_) (fun cdv A outer s H vs Q E hr h => ?_)
  · obtain ⟨h, l, n, xs, rfl, hh, hn, hl, ne, l0, l1, k⟩ := h; rfl
  · obtain ⟨h, l, n, xs, rfl, hh, hn, hl, ne, l0, l1, k⟩ := h
    refine ⟨_, PSs.nox (pss_one (ps_ret (pe_ix (ixl (K := K)) (pv 1) (pe_call (ok_l_take T) (hr.mono (by decide)) rfl T.g_l_take T.f_l_take.kp B0 B0v pass0 (pa_cons (pv 0) (pa_cons (pe_callB (id := "len") (lenS (K := K)) (by rfl) T.z_len PySem.boot_len (pa_cons (pv 1) pa_nil)) pa_nil))) (fun _ _ => rfl)))), ?_⟩
    refine ⟨_, rfl, _, rfl, _, rfl, l, xs, rfl, .inl hl, h, n, (xs.length : Int), rfl, hh, by omega, by omega, ?_, fun d H1 d0 d1 hh1 k1 => ?_⟩
    · have : (xs.length : Int).natAbs = xs.length := by omega
      rw [this]
      have : xs.length < 2 ^ 10 := by omega
      exact Nat.lt_of_lt_of_le (PySem.Flt.log2_lt_of (by decide) this) (by decide)
    obtain ⟨j, rfl⟩ := Int.eq_ofNat_of_zero_le d0
    have hj : j < xs.length := by omega
    exact ⟨l, xs, _, xs[j], rfl, rfl, k1.seq ne hl, atI_nat (List.getElem?_eq_getElem hj), k j _ _ (List.getElem?_eq_getElem hj) hh1 k1⟩
theorem ok_l_near {P : Program} {w : World} {K : PySem.W.Frag} {mg : Str → Option Value} {base : Heap} {φ : Fds} (T : Txt P K mg φ) : FnOk P w K mg base CX0 3 (He.fAd K ("_law_near", none)) φ.l_near p_l_near sp_near := by
  obtain ⟨_, B0v, B0⟩ := b_l_take_2 T
  obtain ⟨_, B1v, B1⟩ := b_l_of_2 T
  refine T.f_l_near.ok sc_l_near (fun vs H Q E h => ?_) (fun cdv A outer s H vs Q E hr h => ?_)
  · obtain ⟨h, l, n, ms, rfl, hh, hn, hl, ne, l0, l1, hb, k⟩ := h; rfl
  · obtain ⟨h, l, n, ms, rfl, hh, hn, hl, ne, l0, l1, hb, k⟩ := h
    refine ⟨_, PSs.nox (pss_cons (ps_set (i := 2) sc_l_near.nd rfl (Or.inl rfl) (pe_call (ok_l_take T) (hr.mono (by decide)) rfl T.g_l_take T.f_l_take.kp B0 B0v pass0 (pa_cons (pv 0) (pa_cons (pe_callB (id := "len") (lenS (K := K)) (by rfl) T.z_len PySem.boot_len (pa_cons (pv 1) pa_nil)) pa_nil))))
      (pss_cons (ps_set (i := 3) sc_l_near.nd rfl (Or.inl rfl) (pe_ix (ixl (K := K)) (pv 1) (pe_callB (id := "max") (call_max2 rfl) (by rfl) T.z_max (by decide +kernel) (pa_cons pe_int (pa_cons (pe_op op_sub (pv 2) pe_int) pa_nil))) (fun _ _ => rfl)))
      (pss_cons (ps_set (i := 4) sc_l_near.nd rfl (Or.inl rfl) (pe_call (ok_l_of T) (hr.mono (by decide)) rfl T.g_l_of T.f_l_of.kp B1 B1v pass0 (pa_cons (pv 0) (pa_cons (pe_lst (pa_cons (pe_ix (ixl (K := K)) (pv 1) (pv 2) (fun _ _ => rfl)) (pa_cons (pe_op op_fd (pe_op op_add (pe_ix (ixl (K := K)) (pv 1) (pv 2) (fun _ _ => rfl)) (pv 3)) pe_int) (pa_cons (pe_ix (ixl (K := K)) (pv 1) pe_int (fun _ _ => rfl)) (pa_cons (pe_ix (ixl (K := K)) (pv 1) (pe_un un_neg pe_int) (fun _ _ => rfl)) pa_nil))))) pa_nil))))
      (pss_one (ps_ret (pe_op op_add (pv 4) (pe_call (ok_l_of T) (hr.mono (by decide)) rfl T.g_l_of T.f_l_of.kp B1 B1v pass0 (pa_cons (pv 0) (pa_cons (pe_lst (pa_cons pe_int (pa_cons pe_int (pa_cons pe_int (pa_cons pe_int (pa_cons (pe_un un_neg pe_int) (pa_cons pe_int (pa_cons (pe_un un_neg pe_int) (pa_cons pe_int pa_nil))))))))) pa_nil))))))))), ?_⟩
    have lm : (ms.map V.int).length = ms.length := List.length_map ..
    walk_at "w"
    intro d H1 d0 d1 hh1 k1
    obtain ⟨j, rfl⟩ := Int.eq_ofNat_of_zero_le d0
    have hl1 := k1 _ _ hl ne
    obtain ⟨a, ha⟩ := geI (zs := ms) (n := j) (by omega)
    obtain ⟨b, hb'⟩ := geI (zs := ms) (n := j - 1) (by omega)
    obtain ⟨c, hc⟩ := geI (zs := ms) (n := 0) (by omega)
    obtain ⟨e, he⟩ := geI (zs := ms) (n := ms.length - 1) (by omega)
    have ba := hb a (List.mem_of_getElem? ha)
    have bb := hb b (List.mem_of_getElem? hb')
    have bc := hb c (List.mem_of_getElem? hc)
    have be := hb e (List.mem_of_getElem? he)
    replace ha := mapI ha
    replace hb' := mapI hb'
    replace hc := mapI hc
    replace he := mapI he
    walk_at "w"
    refine ⟨atI_of (n := j - 1) (by split <;> omega) hb', ?_⟩
    walk_at "w"
    refine ⟨⟨by decide, by decide +kernel⟩, ?_⟩
    walk_at "w"
    refine ⟨atI_end (n := ms.length - 1) (by omega) he, ?_⟩
    walk_at "w"
    intro p np
    have hh2 := hh1.up (u := .lst [.int a, .int ((a + b).fdiv 2), .int c, .int e]) np
    refine ⟨h, p, n + 1, _, rfl, hh2, by omega, SqL.of upd_same, hh1.ne np, Nat.le_of_ble_eq_true rfl, Nat.le_of_ble_eq_true rfl, fun i x H2 hx hh3 k3 => ?_⟩
    have fd : (a + b).fdiv 2 = (a + b) / 2 := Int.fdiv_eq_ediv_of_nonneg _ (by decide)
    have hz : ∃ z : Int, x = .int z ∧ -4000000 ≤ z ∧ z ≤ 4000000 := by
      have hm := List.mem_of_getElem? hx
      simp at hm
      rcases hm with rfl | rfl | rfl | rfl
      · exact ⟨_, rfl, ba⟩
      · exact ⟨_, rfl, by rw [fd]; omega, by rw [fd]; omega⟩
      · exact ⟨_, rfl, bc⟩
      · exact ⟨_, rfl, be⟩
    obtain ⟨z, rfl, z0, z1⟩ := hz
    walk_at "w"
    intro p2 np2
    have hh4 := hh3.up (u := .lst [.int 0, .int 0, .int 0, .int 1, .int (-1), .int 2, .int (-3), .int 40]) np2
    refine ⟨h, p2, n + 1 + 1, _, rfl, hh4, by omega, SqL.of upd_same, hh3.ne np2, by decide, by decide, fun i x H3 hx hh5 k5 => ?_⟩
    have hy : ∃ y : Int, x = .int y ∧ -3 ≤ y ∧ y ≤ 40 := by
      have hm := List.mem_of_getElem? hx
      simp at hm
      rcases hm with rfl | rfl | rfl | rfl | rfl | rfl <;> exact ⟨_, rfl, by decide, by decide⟩
    obtain ⟨y, rfl, y0, y1⟩ := hy
    walk_at "w"
    exact k _ _ (by omega) (by omega) hh5 (((k1.up np).trans (k3.up np2)).trans k5)
theorem ok_l_measure {P : Program} {w : World} {K : PySem.W.Frag} {mg : Str → Option Value} {base : Heap} {φ : Fds} (T : Txt P K mg φ) : FnOk P w K mg base CX0 4 (He.fAd K ("_law_measure", none)) φ.l_measure p_l_measure (sp_lmeas (He.ga K "Measure")) := by
  obtain ⟨_, B0v, B0⟩ := b_Measure_init_3 T
  refine T.f_l_measure.ok sc_l_measure (fun vs H Q E h => ?_) (fun cdv A outer s H vs Q E hr h => ?_)
  · obtain ⟨part, z, rfl, h0, h1, sz, k⟩ := h; rfl
  · obtain ⟨part, z, rfl, h0, h1, sz, k⟩ := h
    refine ⟨_, PSs.nox (pss_one (ps_ret (pe_make T.mk_Measure (ok_Measure_init T) (hr.mono (by decide)) rfl T.g_Measure B0 B0v pass0 (pa_cons (pv 1) (pa_cons (pe_op op_mulA pe_int (pv 0)) pa_nil))))), ?_⟩
    walk_at "w"
    refine q_made (k := 40) (by omega) sz ?_ (by decide) (by decide) fun q H1 s1 R => k q H1 s1 R
    show (4 * part).natAbs < 2 ^ 40
    omega
theorem ok_l_end {P : Program} {w : World} {K : PySem.W.Frag} {mg : Str → Option Value} {base : Heap} {φ : Fds} (T : Txt P K mg φ) : FnOk P w K mg base CX0 4 (He.fAd K ("_law_end", none)) φ.l_end p_l_end (sp_lend (He.ga K "Measure")) := by
  obtain ⟨_, B0v, B0⟩ := b_Measure_init_3 T
  refine T.f_l_end.ok sc_l_end (fun vs H Q E h => ?_) (fun cdv A outer s H vs Q E hr h => ?_)
  · obtain ⟨part, o, rfl, h0, h1, sz, k⟩ := h; rfl
  · obtain ⟨part, o, rfl, h0, h1, sz, k⟩ := h
    refine ⟨_, PSs.nox (pss_cons (ps_if (pt_cmpR op_isN (pv 1) pe_non (nomark _))
      (pss_one (ps_ret pe_non))
      pss_nil)
      (pss_one (ps_ret (pe_make T.mk_Measure (ok_Measure_init T) (hr.mono (by decide)) rfl T.g_Measure B0 B0v pass0 (pa_cons (pv 1) (pa_cons (pe_op op_mulA pe_int (pv 0)) pa_nil)))))), ?_⟩
    cases o with
    | none =>
      walk_at "w"
      exact k _ _ (Same.refl _) rfl
    | some z =>
      refine ⟨_, rfl, rfl, _, rfl, iteF ?_⟩
      walk_at "w"
      refine q_made (k := 40) (by omega) (sz z rfl) ?_ (by decide) (by decide) fun q H1 s1 R => k _ H1 s1 ⟨q, rfl, R⟩
      show (4 * part).natAbs < 2 ^ 40
      omega
theorem ok_l_made {P : Program} {w : World} {K : PySem.W.Frag} {mg : Str → Option Value} {base : Heap} {φ : Fds} (T : Txt P K mg φ) : FnOk P w K mg base CX0 5 (He.fAd K ("_law_made", none)) φ.l_made p_l_made (sp_lmade K (He.ga K "Measure") (He.ga K "Ladder")) := by
  obtain ⟨_, B0v, B0⟩ := b_l_measure_2 T
  obtain ⟨_, B1v, B1⟩ := b_Ladder_init_5 T
  obtain ⟨_, B2v, B2⟩ := b_l_end_2 T
  refine T.f_l_made.ok sc_l_made (fun vs H Q E h => ?_) (fun cdv A outer s H vs Q E hr h => ?_)
  · obtain ⟨p, part, ms, r, lo, hi, rfl, hL, k⟩ := h; rfl
  · obtain ⟨p, part, ms, r, lo, hi, rfl, hL, k⟩ := h
    refine ⟨_, PSs.nox (pss_cons (ps_asg (pv 0) (pg_tup rfl (pgs_cons (pg_name (i := 1) sc_l_made.nd rfl (Or.inr rfl)) (pgs_cons (pg_name (i := 2) sc_l_made.nd rfl (Or.inl rfl)) (pgs_cons (pg_name (i := 3) sc_l_made.nd rfl (Or.inl rfl)) (pgs_cons (pg_name (i := 4) sc_l_made.nd rfl (Or.inl rfl)) (pgs_cons (pg_name (i := 5) sc_l_made.nd rfl (Or.inl rfl)) pgs_nil)))))))
      (pss_cons (ps_set (i := 6) sc_l_made.nd rfl (Or.inl rfl) (pe_callTy (T := "tuple") (tupleL (K := K)) (by rfl) T.z_tuple (by decide +kernel) (pa_cons (pe_lc (own := [("_law_mark", 7)]) (g := gName 7) rfl sc_l_made.nd (pi_tup (pv 2)) (blkOk_by (own := [("_law_mark", 7)]) (N := N_l_made) (sc := (defScope s_l_made)) (by decide +kernel)) (fun _ _ _ _ _ => (pg_name (i := 7) sc_l_made.nd rfl (Or.inl rfl))) (fun _ _ _ _ _ => pts_nil) (fun _ _ _ _ _ => (pe_call (ok_l_measure T) (hr.mono (by decide)) rfl T.g_l_measure T.f_l_measure.kp B0 B0v pass0 (pa_cons (pv 1) (pa_cons (pv 7) pa_nil))))) pa_nil)))
      (pss_one (ps_ret (pe_make T.mk_Ladder (ok_Ladder_init T) (hr.mono (by decide)) rfl T.g_Ladder B1 B1v pass0 (pa_cons (pv 6) (pa_cons (pv 3) (pa_cons (pe_call (ok_l_end T) (hr.mono (by decide)) rfl T.g_l_end T.f_l_end.kp B2 B2v pass0 (pa_cons (pv 1) (pa_cons (pv 4) pa_nil))) (pa_cons (pe_call (ok_l_end T) (hr.mono (by decide)) rfl T.g_l_end T.f_l_end.kp B2 B2v pass0 (pa_cons (pv 1) (pa_cons (pv 5) pa_nil))) pa_nil))))))))), ?_⟩
    have hL0 := hL
    obtain ⟨⟨T', hp, hT⟩, p0, p1, l0, l1, ri, fo, bn, bl, bh, ru, sp⟩ := hL
    walk_at "w"
    intro D nD
    have lm : (ms.map V.int).length = ms.length := List.length_map ..
    refine lcr (n := (ms.map V.int).length) walk_tup (fun _ _ g s => s.sqt g) (fun i H v => ∃ q m, v = .ref q ∧ ms[i]? = some m ∧ QAt (He.ga K "Measure") H q 40 (m, 4 * part)) (fun i H H' y ⟨q, m, e1, e2, e3⟩ n => ⟨q, m, e1, e2, e3.nl n⟩) (by rw [sizeLine_eq]; omega) (SqT.of hT) nD (fun i x H1 H2 N M hi s1 y hN => ?_) (fun H1 ys s1 hD ly hy => ?_)
    · obtain ⟨rfl, hx⟩ := y
      rw [List.getElem?_map] at hx
      obtain ⟨m, hm⟩ := geI (zs := ms) (n := i) (by omega)
      rw [hm] at hx
      cases hx
      have bm := bn m (List.mem_of_getElem? hm)
      refine ⟨rfl, yesT ?_⟩
      walk_at "w"
      exact fun q H3 s3 R => hN _ _ s3 ⟨q, m, rfl, hm, R⟩
    walk_at "w"
    intro T2 nT2
    walk_at "w"
    refine ⟨lo, rfl, p0, p1, fun z e => ?_, fun vl H3 s3 ql => ?_⟩
    · have := bl z e
      show z.natAbs < 2 ^ 40
      omega
    walk_at "w"
    refine ⟨hi, rfl, p0, p1, fun z e => ?_, fun vh H4 s4 qh => ?_⟩
    · have := bh z e
      show z.natAbs < 2 ^ 40
      omega
    have s2 : Same H1 H4 := ((same1 nT2 : Same H1 _).trans s3).trans s4
    have hT2 : H4 T2 = some (.tup ys) := (s3.trans s4) _ _ upd_same
    refine lad_made (k := 40) (SqT.of hT2) (zs := zq (4 * part) ms) ⟨by rw [zq_len]; omega, fun i v z h1 h2 => ?_⟩ (by decide) (by rw [zq_len]; exact l0) (by rw [zq_len]; exact l1) hL0.riseQ ru (ql.same s4) qh hL0.spanQ fun q H5 _ s5 L5 _ => k q H5 ((s1.trans s2).trans s5) L5
    obtain ⟨q, m, e1, e2, e3⟩ := hy i v h1
    obtain ⟨m', e4, rfl⟩ := zq_get h2
    rw [e2] at e4
    cases e4
    exact ⟨q, e1, e3.same s2⟩
theorem ok_l_ladder {P : Program} {w : World} {K : PySem.W.Frag} {mg : Str → Option Value} {base : Heap} {φ : Fds} (T : Txt P K mg φ) : FnOk P w K mg base CX0 4 (He.fAd K ("_law_ladder", none)) φ.l_ladder p_l_ladder sp_lad := by
  obtain ⟨_, B0v, B0⟩ := b_l_of_2 T
  obtain ⟨_, B1v, B1⟩ := b_l_take_2 T
  obtain ⟨_, B2v, B2⟩ := b_l_near_2 T
  refine T.f_l_ladder.ok sc_l_ladder (fun vs H Q E h => ?_) (fun cdv A outer s H vs Q E hr h => ?_)
  · obtain ⟨h, n, rfl, hh, hn, k⟩ := h; rfl
  · obtain ⟨h, n, rfl, hh, hn, k⟩ := h
    refine ⟨_, PSs.nox (pss_cons (ps_par3 (i := 1) (j := 2) (l := 3) rfl sc_l_ladder.nd rfl rfl rfl (by decide) (by decide) (by decide) rfl rfl rfl (pa_cons (pe_call (ok_l_of T) (hr.mono (by decide)) rfl T.g_l_of T.f_l_of.kp B0 B0v pass0 (pa_cons (pv 0) (pa_cons (pe_lst (pa_cons pe_str (pa_cons pe_str (pa_cons pe_str pa_nil)))) pa_nil))) (pa_cons (pe_call (ok_l_take T) (hr.mono (by decide)) rfl T.g_l_take T.f_l_take.kp B1 B1v pass0 (pa_cons (pv 0) (pa_cons pe_int pa_nil))) (pa_cons (pe_call (ok_l_of T) (hr.mono (by decide)) rfl T.g_l_of T.f_l_of.kp B0 B0v pass0 (pa_cons (pv 0) (pa_cons (pe_lst (pa_cons pe_int (pa_cons pe_int (pa_cons pe_int (pa_cons pe_int (pa_cons pe_int pa_nil)))))) pa_nil))) pa_nil))) (by rfl))
      (pss_cons (ps_set (i := 4) sc_l_ladder.nd rfl (Or.inl rfl) (pe_call (ok_l_of T) (hr.mono (by decide)) rfl T.g_l_of T.f_l_of.kp B0 B0v pass0 (pa_cons (pv 0) (pa_cons (pe_lst (pa_cons pe_int (pa_cons pe_int (pa_cons pe_int (pa_cons pe_int (pa_cons pe_int (pa_cons pe_int pa_nil))))))) pa_nil))))
      (pss_cons (ps_set (i := 5) sc_l_ladder.nd rfl (Or.inl rfl) (pe_call (ok_l_of T) (hr.mono (by decide)) rfl T.g_l_of T.f_l_of.kp B0 B0v pass0 (pa_cons (pv 0) (pa_cons (pe_lst (pa_cons pe_int (pa_cons pe_int (pa_cons pe_int (pa_cons (pe_op op_mulA pe_int (pv 3)) pa_nil))))) pa_nil))))
      (pss_cons (ps_par (i := 6) (j := 7) rfl sc_l_ladder.nd rfl rfl (by decide) rfl rfl (pa_cons (pe_op op_sub (pe_call (ok_l_take T) (hr.mono (by decide)) rfl T.g_l_take T.f_l_take.kp B1 B1v pass0 (pa_cons (pv 0) (pa_cons (pe_op op_add (pe_op op_mulA pe_int (pv 3)) pe_int) pa_nil))) (pe_op op_mulA pe_int (pv 3))) (pa_cons (pe_lst pa_nil) pa_nil)) (by rfl))
      (pss_cons (ps_for PassesOwn.never rfl (pi_range1 rfl T.z_range (pa_cons (pv 4) pa_nil)) (pg_name (i := 8) sc_l_ladder.nd rfl (Or.inl rfl))
      (pss_cons (ps_expr (pe_bm PySem.F.plainAttrs_list PySem.F.slot_list_append PySem.F.type_list_append mt_append (pv 7) (pa_cons (pe_op op_mulA pe_int (pv 6)) pa_nil)))
      (pss_one (ps_set (i := 6) sc_l_ladder.nd rfl (Or.inl rfl) (pe_op op_add (pe_op op_add (pv 6) pe_int) (pe_call (ok_l_take T) (hr.mono (by decide)) rfl T.g_l_take T.f_l_take.kp B1 B1v pass0 (pa_cons (pv 0) (pa_cons (pv 5) pa_nil))))))))
      (pss_cons (ps_par (i := 9) (j := 10) rfl sc_l_ladder.nd rfl rfl (by decide) rfl rfl (pa_cons (pe_call (ok_l_near T) (hr.mono (by decide)) rfl T.g_l_near T.f_l_near.kp B2 B2v pass0 (pa_cons (pv 0) (pa_cons (pv 7) pa_nil))) (pa_cons (pe_call (ok_l_near T) (hr.mono (by decide)) rfl T.g_l_near T.f_l_near.kp B2 B2v pass0 (pa_cons (pv 0) (pa_cons (pv 7) pa_nil))) pa_nil)) (by rfl))
      (pss_cons (ps_set (i := 11) sc_l_ladder.nd rfl (Or.inl rfl) (pe_ix (ixl (K := K)) (pe_lst (pa_cons pe_non (pa_cons pe_non (pa_cons (pe_callB (id := "min") (call_min2 rfl) (by rfl) T.z_min (by decide +kernel) (pa_cons (pv 9) (pa_cons (pv 10) pa_nil))) (pa_cons (pe_callB (id := "min") (call_min2 rfl) (by rfl) T.z_min (by decide +kernel) (pa_cons (pv 9) (pa_cons (pv 10) pa_nil))) (pa_cons (pv 9) pa_nil)))))) (pv 2) (fun _ _ => rfl)))
      (pss_cons (ps_set (i := 12) sc_l_ladder.nd rfl (Or.inl rfl) (pe_ix (ixl (K := K)) (pe_lst (pa_cons pe_non (pa_cons (pe_callB (id := "max") (call_max2 rfl) (by rfl) T.z_max (by decide +kernel) (pa_cons (pv 9) (pa_cons (pv 10) pa_nil))) (pa_cons pe_non (pa_cons (pe_callB (id := "max") (call_max2 rfl) (by rfl) T.z_max (by decide +kernel) (pa_cons (pv 9) (pa_cons (pv 10) pa_nil))) (pa_cons (pv 9) pa_nil)))))) (pv 2) (fun _ _ => rfl)))
      (pss_one (ps_ret (pe_tup (pa_cons (pv 3) (pa_cons (pe_callTy (T := "tuple") (tupleL (K := K)) (by rfl) T.z_tuple (by decide +kernel) (pa_cons (pv 7) pa_nil)) (pa_cons (pv 1) (pa_cons (pv 11) (pa_cons (pv 12) pa_nil)))))))))))))))), ?_⟩
    walk_at "w"
    intro p1 np1
    refine ⟨h, p1, n, _, rfl, hh.up np1, by omega, SqL.of upd_same, hh.ne np1, by decide, by decide, fun i1 vr H1 hr1 hh1 k1 => ?_⟩
    have hru : ∃ r : Str, vr = .str r ∧ IsRule r := by
      have hm := List.mem_of_getElem? hr1
      simp at hm
      rcases hm with rfl | rfl | rfl
      · exact ⟨_, rfl, .inl rfl⟩
      · exact ⟨_, rfl, .inr (.inl rfl)⟩
      · exact ⟨_, rfl, .inr (.inr rfl)⟩
    obtain ⟨r, rfl, hru⟩ := hru
    walk_at "w"
    intro en H2 en0 en1 hh2 k2
    walk_at "w"
    intro p2 np2
    refine ⟨h, p2, _, _, rfl, hh2.up np2, by omega, SqL.of upd_same, hh2.ne np2, by decide, by decide, fun i2 vp H3 hr2 hh3 k3 => ?_⟩
    have hpa : ∃ part : Int, vp = .int part ∧ 0 < part ∧ part ≤ 10007 := by
      have hm := List.mem_of_getElem? hr2
      simp at hm
      rcases hm with rfl | rfl | rfl | rfl | rfl <;> exact ⟨_, rfl, by decide, by decide⟩
    obtain ⟨part, rfl, pa0, pa1⟩ := hpa
    walk_at "w"
    intro p3 np3
    refine ⟨h, p3, _, _, rfl, hh3.up np3, by omega, SqL.of upd_same, hh3.ne np3, by decide, by decide, fun i3 vm H4 hr3 hh4 k4 => ?_⟩
    have hma : ∃ many : Nat, vm = .int many ∧ 0 < many ∧ many ≤ 24 := by
      have hm := List.mem_of_getElem? hr3
      simp at hm
      rcases hm with rfl | rfl | rfl | rfl | rfl | rfl
      · exact ⟨1, rfl, by decide, by decide⟩
      · exact ⟨2, rfl, by decide, by decide⟩
      · exact ⟨3, rfl, by decide, by decide⟩
      · exact ⟨5, rfl, by decide, by decide⟩
      · exact ⟨8, rfl, by decide, by decide⟩
      · exact ⟨24, rfl, by decide, by decide⟩
    obtain ⟨many, rfl, ma0, ma1⟩ := hma
    walk_at "w"
    intro p4 np4
    refine ⟨h, p4, _, _, rfl, hh4.up np4, by omega, SqL.of upd_same, hh4.ne np4, Nat.le_of_ble_eq_true rfl, Nat.le_of_ble_eq_true rfl, fun i4 vw H5 hr4 hh5 k5 => ?_⟩
    have hwi : ∃ wd : Int, vw = .int wd ∧ 0 < wd ∧ wd ≤ 3 * part + 7 := by
      have hm := List.mem_of_getElem? hr4
      simp at hm
      rcases hm with rfl | rfl | rfl | rfl
      · exact ⟨_, rfl, by omega, by omega⟩
      · exact ⟨_, rfl, by omega, by omega⟩
      · exact ⟨_, rfl, by omega, by omega⟩
      · exact ⟨_, rfl, by omega, by omega⟩
    obtain ⟨wd, rfl, wd0, wd1⟩ := hwi
    clear hr1 hr2 hr3 hr4
    walk_at "w"
    intro d H6 d0 d1 hh6 k6
    walk_at "w"
    intro l nl
    have kA : Kp h H (upd H6 l (.lst [])) := (((((((((Kp.refl h H).up np1).trans k1).trans (k2.up np2)).trans (k3.up np3)).trans (k4.up np4)).trans k5).trans k6)).up nl
    have hhA := hh6.up (u := .lst []) nl
    have nlh := hh6.ne nl
    have hlA : upd H6 l (.lst []) l = some (.lst []) := upd_same
    have nlH : H l = none := (((((((((Kp.refl h H).up np1).trans k1).trans (k2.up np2)).trans (k3.up np3)).trans (k4.up np4)).trans k5).trans k6)).fresh nl nlh
    generalize upd H6 l (.lst []) = HA at *
    clear hh hh1 hh2 hh3 hh4 hh5 hh6 k1 k2 k3 k4 k5 k6 np1 np2 np3 np4 nl
    walk_at "w"
    refine for_range (fun i σ H' => ∃ (mk : Int) (ms : List Int) (vk : Option V), σ = [some (.ref h), some (.str r), some (.int en), some (.int part), some (.int many), some (.int wd), some (.int mk), some (.ref l), vk, none, none, none, none] ∧ H' l = some (.lst (ms.map V.int)) ∧ ms.length = i ∧ HandAt H' h (n + 6 + i) ∧ Kp h H H' ∧
      -60042 ≤ mk ∧ mk ≤ 60042 + i * 30028 ∧ (∀ m ∈ ms, m % 4 = 0 ∧ -240168 ≤ m ∧ m < 4 * mk) ∧ ∀ (i : Nat) (a b : Int), ms[i]? = some a → ms[i + 1]? = some b → a < b) ?_ ?_ ?_
    · exact ⟨_, [], _, rfl, hlA, rfl, hhA, kA, by omega, by omega, fun m hm => by simp at hm, fun i a b hx => by simp at hx⟩
    · rintro i σ H7 hi ⟨mk, ms, vk, rfl, hl, lms, hh7, k7, b0, b1, hms, hri⟩
      have lm : (ms.map V.int).length = ms.length := List.length_map ..
      walk_at "w"
      refine ⟨hh7.put nlh, by omega, wd0, logS (by omega), fun t H9 t0 t1 hh9 k9 => ?_⟩
      have hl9 := k9 _ _ upd_same nlh
      rw [map_snoc] at hl9
      walk_at "w"
      refine ⟨ms ++ [4 * mk], _, rfl, hl9, by rw [List.length_append, lms]; rfl, hh9, (k7.putN nlH).trans k9, by omega, by omega, fun m hm => ?_, rise_snoc hri fun m hm => (hms m hm).2.2⟩
      rcases List.mem_append.mp hm with hm | hm
      · have := hms m hm
        omega
      · have : m = 4 * mk := by simpa using hm
        omega
    rintro σ H7 ⟨mk, ms, vk, rfl, hl, lms, hh7, k7, b0, b1, hms, hri⟩
    have lm : (ms.map V.int).length = ms.length := List.length_map ..
    have bnd : ∀ m ∈ ms, -4000000 ≤ m ∧ m ≤ 4000000 := fun m hm => by
      have := hms m hm
      omega
    walk_at "w"
    refine ⟨ms, rfl, hh7, by omega, hl, nlh, by omega, by omega, bnd, fun a H8 a0 a1 hh8 k8 => ?_⟩
    have hl8 := k8 _ _ hl nlh
    walk_at "w"
    refine ⟨ms, rfl, hh8, by omega, hl8, nlh, by omega, by omega, bnd, fun b H9 b0' b1' hh9 k9 => ?_⟩
    have hl9 := k9 _ _ hl8 nlh
    walk_at "w"
    intro p5 np5
    have hlo : ∃ lo hi : Option Int, atI [V.non, V.non, V.int (if b < a then b else a), V.int (if b < a then b else a), V.int a] en = some (optZ lo) ∧ atI [V.non, V.int (if b > a then b else a), V.non, V.int (if b > a then b else a), V.int a] en = some (optZ hi) ∧
        (∀ z, lo = some z → -4000040 ≤ z ∧ z ≤ 4000040) ∧ (∀ z, hi = some z → -4000040 ≤ z ∧ z ≤ 4000040) ∧ ∀ x y, lo = some x → hi = some y → x ≤ y := by
      obtain rfl | rfl | rfl | rfl | rfl : en = 0 ∨ en = 1 ∨ en = 2 ∨ en = 3 ∨ en = 4 := by omega
      · exact ⟨none, none, rfl, rfl, (fun z e => nomatch e), (fun z e => nomatch e), (fun x y e => nomatch e)⟩
      · exact ⟨none, some _, rfl, rfl, (fun z e => nomatch e), (fun z e => by cases e; split <;> omega), (fun x y e => nomatch e)⟩
      · exact ⟨some _, none, rfl, rfl, (fun z e => by cases e; split <;> omega), (fun z e => nomatch e), (fun x y _ e => nomatch e)⟩
      · exact ⟨some _, some _, rfl, rfl, (fun z e => by cases e; split <;> omega), (fun z e => by cases e; split <;> omega), fun x y e f => by cases e; cases f; split <;> split <;> omega⟩
      · exact ⟨some a, some a, rfl, rfl, (fun z e => by cases e; omega), (fun z e => by cases e; omega), fun x y e f => by cases e; cases f; omega⟩
    obtain ⟨lo, hi, e1, e2, bl, bh, sp⟩ := hlo
    refine ⟨_, rfl, p5, _, _, _, rfl, rfl, SqL.of upd_same, e1, ?_⟩
    walk_at "w"
    intro p6 np6
    refine ⟨_, rfl, p6, _, _, _, rfl, rfl, SqL.of upd_same, e2, ?_⟩
    have hl10 := up1 (u := .lst [V.non, V.int (if b > a then b else a), V.non, V.int (if b > a then b else a), V.int a]) np6 (up1 (u := .lst [V.non, V.non, V.int (if b < a then b else a), V.int (if b < a then b else a), V.int a]) np5 hl9)
    walk_at "w"
    intro T2 nT2
    walk_at "w"
    intro p7 np7
    refine k p7 part ms r lo hi _ ⟨⟨T2, upd_same, up1 np7 upd_same⟩, pa0, pa1, by omega, by omega, hri, fun m hm => (hms m hm).1, bnd, bl, bh, hru, sp⟩ ((((hh9.up np5).up np6).up nT2).up np7 |>.mono (by omega)) (((((k7.trans k8).trans k9).up np5).up np6).up nT2 |>.up np7)
theorem ok_l_ends {P : Program} {w : World} {K : PySem.W.Frag} {mg : Str → Option Value} {base : Heap} {φ : Fds} (T : Txt P K mg φ) : FnOk P w K mg base CX0 1 (He.fAd K ("_law_ends", none)) φ.l_ends p_l_ends sp_lends15 := by
  refine T.f_l_ends.ok sc_l_ends (fun vs H Q E h => ?_) (fun cdv A outer s H vs Q E hr h => ?_)
  · obtain ⟨p, part, ms, r, lo, hi, n, rfl, hL, hn, kk⟩ := h; rfl
  · obtain ⟨p, part, ms, r, lo, hi, n, rfl, hL, hn, kk⟩ := h
    refine ⟨_, PSs.nox (pss_cons (ps_asg (pv 0) (pg_tup rfl (pgs_cons (pg_name (i := 2) sc_l_ends.nd rfl (Or.inl rfl)) (pgs_cons (pg_name (i := 3) sc_l_ends.nd rfl (Or.inl rfl)) (pgs_cons (pg_name (i := 4) sc_l_ends.nd rfl (Or.inl rfl)) (pgs_cons (pg_name (i := 5) sc_l_ends.nd rfl (Or.inl rfl)) (pgs_cons (pg_name (i := 6) sc_l_ends.nd rfl (Or.inl rfl)) pgs_nil)))))))
      (pss_cons (ps_if (pt_cmpR op_eq (pv 4) pe_str (nomark _))
      (pss_cons (ps_set (i := 7) sc_l_ends.nd rfl (Or.inl rfl) (pe_ifExp (pt_cmpR op_eq (pv 1) pe_int (nomark _)) pe_non (pe_ix (ixt (K := K)) (pv 3) (pe_op op_sub (pv 1) pe_int) (fun _ _ => rfl))))
      (pss_one (ps_ret (pe_tup (pa_cons (pv 7) (pa_cons (pe_ix (ixt (K := K)) (pv 3) (pv 1) (fun _ _ => rfl)) (pa_cons pe_bl (pa_cons pe_bl pa_nil))))))))
      pss_nil)
      (pss_cons (ps_if (pt_cmpR op_eq (pv 4) pe_str (nomark _))
      (pss_cons (ps_set (i := 8) sc_l_ends.nd rfl (Or.inl rfl) (pe_ifExp (pt_cmpR op_eq (pv 1) (pe_op op_sub (pe_callB (id := "len") (lenS (K := K)) (by rfl) T.z_len PySem.boot_len (pa_cons (pv 3) pa_nil)) pe_int) (nomark _)) pe_non (pe_ix (ixt (K := K)) (pv 3) (pe_op op_add (pv 1) pe_int) (fun _ _ => rfl))))
      (pss_one (ps_ret (pe_tup (pa_cons (pe_ix (ixt (K := K)) (pv 3) (pv 1) (fun _ _ => rfl)) (pa_cons (pv 8) (pa_cons pe_bl (pa_cons pe_bl pa_nil))))))))
      pss_nil)
      (pss_cons (ps_cut (ps_set (i := 7) sc_l_ends.nd rfl (Or.inl rfl) (pe_ifExp (pt_cmpR op_eq (pv 1) pe_int (nomark _)) pe_non (pe_op op_fd (pe_op op_add (pe_ix (ixt (K := K)) (pv 3) (pe_op op_sub (pv 1) pe_int) (fun _ _ => rfl)) (pe_ix (ixt (K := K)) (pv 3) (pv 1) (fun _ _ => rfl))) pe_int))))
      (pss_cons (ps_cut (ps_set (i := 8) sc_l_ends.nd rfl (Or.inl rfl) (pe_ifExp (pt_cmpR op_eq (pv 1) (pe_op op_sub (pe_callB (id := "len") (lenS (K := K)) (by rfl) T.z_len PySem.boot_len (pa_cons (pv 3) pa_nil)) pe_int) (nomark _)) pe_non (pe_op op_fd (pe_op op_add (pe_ix (ixt (K := K)) (pv 3) (pv 1) (fun _ _ => rfl)) (pe_ix (ixt (K := K)) (pv 3) (pe_op op_add (pv 1) pe_int) (fun _ _ => rfl))) pe_int))))
      (pss_one (ps_ret (pe_tup (pa_cons (pv 7) (pa_cons (pv 8) (pa_cons (pe_cmpR op_notN (pv 7) pe_non (nomark _)) (pa_cons pe_bl pa_nil)))))))))))), ?_⟩
    obtain ⟨T', hp, hT⟩ := hL.ob
    have l0 := hL.len0
    have lm : (ms.map V.int).length = ms.length := List.length_map ..
    have hN := mapI (mZ_get hn)
    have fd : ∀ a b : Int, (a + b).fdiv 2 = (a + b) / 2 := fun a b => Int.fdiv_eq_ediv_of_nonneg _ (by decide)
    have hlo : n ≠ 0 → (ms.map V.int)[n - 1]? = some (V.int (mZ ms (n - 1))) := fun h => mapI (mZ_get (by omega))
    have hhi : n + 1 ≠ ms.length → (ms.map V.int)[n + 1]? = some (V.int (mZ ms (n + 1))) := fun h => mapI (mZ_get (by omega))
    have z0 : decide (V.int (n : Int) = V.int 0) = true → n = 0 := fun e => by
      have := V.int.inj (of_decide_eq_true e)
      omega
    have z0n : ¬ decide (V.int (n : Int) = V.int 0) = true → n ≠ 0 := fun e h => e (decide_eq_true (by rw [h]; rfl))
    have z1 : decide (V.int (n : Int) = V.int (((ms.map V.int).length : Int) - 1)) = true → n + 1 = ms.length := fun e => by
      have := V.int.inj (of_decide_eq_true e)
      omega
    have z1n : ¬ decide (V.int (n : Int) = V.int (((ms.map V.int).length : Int) - 1)) = true → n + 1 ≠ ms.length := fun e h => e (decide_eq_true (congrArg V.int (by omega)))
    unfold rulZ at kk
    walk_at "w"
    refine ite2 (fun e => ?_) (fun e => ?_)
    · have er : r = "up" := V.str.inj (of_decide_eq_true e)
      rw [if_pos er] at kk
      repeat (first | apply @Exists.intro V | apply @Exists.intro Int | apply @Exists.intro Addr | apply @Exists.intro Bool | apply @Exists.intro (List V) | apply @Exists.intro Str | apply @Exists.intro Nat | refine And.intro (by walk_at "c") ?_)
      refine ite2 (fun e0 => ?_) (fun e0 => ?_)
      · rw [if_pos (z0 e0)] at kk
        walk_at "w"
        exact fun q nq => kk q _ (same1 nq) upd_same
      · have h0 := z0n e0
        rw [if_neg h0] at kk
        walk_at "w"
        refine ⟨atI_of (n := n - 1) (by omega) (hlo h0), ?_⟩
        walk_at "w"
        exact fun q nq => kk q _ (same1 nq) upd_same
    have er : ¬ r = "up" := fun z => e (decide_eq_true (congrArg V.str z))
    rw [if_neg er] at kk
    walk_at "w"
    refine ite2 (fun e => ?_) (fun e => ?_)
    · have er2 : r = "down" := V.str.inj (of_decide_eq_true e)
      rw [if_pos er2] at kk
      repeat (first | apply @Exists.intro V | apply @Exists.intro Int | apply @Exists.intro Addr | apply @Exists.intro Bool | apply @Exists.intro (List V) | apply @Exists.intro Str | apply @Exists.intro Nat | refine And.intro (by walk_at "c") ?_)
      refine ite2 (fun e0 => ?_) (fun e0 => ?_)
      · rw [if_pos (z1 e0)] at kk
        walk_at "w"
        exact fun q nq => kk q _ (same1 nq) upd_same
      · have h0 := z1n e0
        rw [if_neg h0] at kk
        walk_at "w"
        refine ⟨atI_of (n := n + 1) (by omega) (hhi h0), ?_⟩
        walk_at "w"
        exact fun q nq => kk q _ (same1 nq) upd_same
    have er2 : ¬ r = "down" := fun z => e (decide_eq_true (congrArg V.str z))
    rw [if_neg er2] at kk
    refine ⟨fun σ' H' => σ' = [some (.ref p), some (.int (n : Int)), some (.int part), some (.ref T'), some (.str r), some (optZ lo), some (optZ hi), some (optZ (if n = 0 then none else some ((mZ ms (n - 1) + mZ ms n) / 2))), none] ∧ H' = H, ?_, ?_⟩
    · repeat (first | apply @Exists.intro V | apply @Exists.intro Int | apply @Exists.intro Addr | apply @Exists.intro Bool | apply @Exists.intro (List V) | apply @Exists.intro Str | apply @Exists.intro Nat | refine And.intro (by walk_at "c") ?_)
      refine ite2 (fun e0 => ?_) (fun e0 => ?_)
      · rw [if_pos (z0 e0)]
        exact ⟨rfl, rfl⟩
      · have h0 := z0n e0
        rw [if_neg h0]
        walk_at "w"
        refine ⟨atI_of (n := n - 1) (by omega) (hlo h0), ?_⟩
        walk_at "w"
        refine ⟨⟨by decide, by decide +kernel⟩, ?_⟩
        refine ⟨?_, rfl⟩
        rw [← fd (mZ ms (n - 1)) (mZ ms n)]
        rfl
    rintro σ' H' ⟨rfl, rfl⟩
    refine ⟨fun σ' H'' => σ' = [some (.ref p), some (.int (n : Int)), some (.int part), some (.ref T'), some (.str r), some (optZ lo), some (optZ hi), some (optZ (if n = 0 then none else some ((mZ ms (n - 1) + mZ ms n) / 2))), some (optZ (if n + 1 = ms.length then none else some ((mZ ms n + mZ ms (n + 1)) / 2)))] ∧ H'' = H', ?_, ?_⟩
    · repeat (first | apply @Exists.intro V | apply @Exists.intro Int | apply @Exists.intro Addr | apply @Exists.intro Bool | apply @Exists.intro (List V) | apply @Exists.intro Str | apply @Exists.intro Nat | refine And.intro (by walk_at "c") ?_)
      refine ite2 (fun e0 => ?_) (fun e0 => ?_)
      · rw [if_pos (z1 e0)]
        exact ⟨rfl, rfl⟩
      · have h0 := z1n e0
        rw [if_neg h0]
        walk_at "w"
        refine ⟨atI_of (n := n + 1) (by omega) (hhi h0), ?_⟩
        walk_at "w"
        refine ⟨⟨by decide, by decide +kernel⟩, ?_⟩
        refine ⟨?_, rfl⟩
        rw [← fd (mZ ms n) (mZ ms (n + 1))]
        rfl
    rintro σ' H'' ⟨rfl, rfl⟩
    have en : (!decide (optZ (if n = 0 then none else some ((mZ ms (n - 1) + mZ ms n) / 2)) = V.non)) = !decide (n = 0) := by
      by_cases h : n = 0
      · rw [if_pos h, decide_eq_true h]; rfl
      · rw [if_neg h, decide_eq_false h]; rfl
    walk_at "w"
    rw [en]
    walk_at "w"
    exact fun q nq => kk q _ (same1 nq) upd_same
theorem ok_l_cut {P : Program} {w : World} {K : PySem.W.Frag} {mg : Str → Option Value} {base : Heap} {φ : Fds} (T : Txt P K mg φ) : FnOk P w K mg base CX0 1 (He.fAd K ("_law_cut", none)) φ.l_cut p_l_cut sp_lcut15 := by
  refine T.f_l_cut.ok sc_l_cut (fun vs H Q E h => ?_) (fun cdv A outer s H vs Q E hr h => ?_)
  · obtain ⟨p, q, part, ms, r, lo, hi, x, y, rfl, hL, hE, kk⟩ := h; rfl
  · obtain ⟨p, q, part, ms, r, lo, hi, x, y, rfl, hL, hE, kk⟩ := h
    refine ⟨_, PSs.nox (pss_cons (ps_asg (pv 1) (pg_tup rfl (pgs_cons (pg_name (i := 2) sc_l_cut.nd rfl (Or.inl rfl)) (pgs_cons (pg_name (i := 3) sc_l_cut.nd rfl (Or.inl rfl)) (pgs_cons (pg_name (i := 4) sc_l_cut.nd rfl (Or.inl rfl)) (pgs_cons (pg_name (i := 5) sc_l_cut.nd rfl (Or.inl rfl)) pgs_nil))))))
      (pss_cons (ps_asg (pe_slice (slT (K := K)) (pv 0) (po_some pe_int) po_none) (pg_tup rfl (pgs_cons (pg_name (i := 6) sc_l_cut.nd rfl (Or.inl rfl)) (pgs_cons (pg_name (i := 7) sc_l_cut.nd rfl (Or.inl rfl)) pgs_nil))))
      (pss_cons (ps_cut (ps_if (PW.pt (pw_and (pt_cmpR op_notN (pv 6) pe_non (nomark _)) (pw_and1 (PW.pt (pw_or (pt_cmpR op_isN (pv 2) pe_non (nomark _)) (pw_or1 (pt_cmpR op_gt (pv 6) (pv 2) (nomark _))))))))
      (pss_one (ps_par (i := 2) (j := 4) rfl sc_l_cut.nd rfl rfl (by decide) rfl rfl (pa_cons (pv 6) (pa_cons pe_bl pa_nil)) (by rfl)))
      pss_nil))
      (pss_cons (ps_cut (ps_if (PW.pt (pw_and (pt_cmpR op_notN (pv 7) pe_non (nomark _)) (pw_and1 (PW.pt (pw_or (pt_cmpR op_isN (pv 3) pe_non (nomark _)) (pw_or1 (pt_cmpR op_lt (pv 7) (pv 3) (nomark _))))))))
      (pss_one (ps_par (i := 3) (j := 5) rfl sc_l_cut.nd rfl rfl (by decide) rfl rfl (pa_cons (pv 7) (pa_cons pe_bl pa_nil)) (by rfl)))
      pss_nil))
      (pss_cons (ps_if (PW.pt (pw_and (pt_cmpR op_notN (pv 2) pe_non (nomark _)) (pw_and (pt_cmpR op_notN (pv 3) pe_non (nomark _)) (pw_and1 (PW.pt (pw_or (pt_cmpR op_gt (pv 2) (pv 3) (nomark _)) (pw_or1 (PW.pt (pw_and (pt_cmpR op_eq (pv 2) (pv 3) (nomark _)) (pw_and1 (pt_not (PW.pt (pw_and (pt_val (pv 4)) (pw_and1 (pt_val (pv 5))))))))))))))))
      (pss_one (ps_ret pe_non))
      pss_nil)
      (pss_one (ps_ret (pe_tup (pa_cons (pv 2) (pa_cons (pv 3) (pa_cons (pv 4) (pa_cons (pv 5) pa_nil)))))))))))), ?_⟩
    obtain ⟨T', hp, hT⟩ := hL.ob
    have l0 := hL.len0
    have lm : (ms.map V.int).length = ms.length := List.length_map ..
    obtain ⟨x, i⟩ := x
    obtain ⟨y, j⟩ := y
    unfold ES at hE
    walk_at "w"
    refine ⟨by show ¬ (HT.sIx 5 0 (some 3) = 0 ∧ HT.sIx 5 5 none = 5); decide, fun p1 np1 => ?_⟩
    refine ⟨p1, _, rfl, SqT.of upd_same, rfl, ?_⟩
    have sA : Same H (upd H p1 (.tup [optZ lo, optZ hi])) := same1 np1
    walk_at "w"
    refine ⟨fun σ' H' => σ' = [some (.ref p), some (.ref q), some (optZ (cutZl (x, i) lo).1), some (optZ y), some (.bl (cutZl (x, i) lo).2), some (.bl j), some (optZ lo), some (optZ hi)] ∧ Same H H', ?_, ?_⟩
    · cases lo with
      | none =>
        walk_at "w"
        exact sA
      | some b =>
        walk_at "w"
        cases x with
        | none =>
          walk_at "w"
          exact sA
        | some a =>
          walk_at "w"
          refine ite2 (fun e => ?_) (fun e => ?_)
          · have e := of_decide_eq_true e
            walk_at "w"
            have ec : cutZl (some a, i) (some b) = (some b, true) := if_pos e
            rw [ec]
            exact ⟨rfl, sA⟩
          · have e : ¬ a < b := fun z => e (decide_eq_true z)
            have ec : cutZl (some a, i) (some b) = (some a, i) := if_neg e
            rw [ec]
            exact ⟨rfl, sA⟩
    rintro σ' H1 ⟨rfl, s1⟩
    generalize cutZl (x, i) lo = x1 at *
    obtain ⟨x1, i1⟩ := x1
    refine ⟨fun σ' H' => σ' = [some (.ref p), some (.ref q), some (optZ x1), some (optZ (cutZh (y, j) hi).1), some (.bl i1), some (.bl (cutZh (y, j) hi).2), some (optZ lo), some (optZ hi)] ∧ Same H H', ?_, ?_⟩
    · cases hi with
      | none =>
        walk_at "w"
        exact s1
      | some b =>
        walk_at "w"
        cases y with
        | none =>
          walk_at "w"
          exact s1
        | some a =>
          walk_at "w"
          refine ite2 (fun e => ?_) (fun e => ?_)
          · have e := of_decide_eq_true e
            walk_at "w"
            have ec : cutZh (some a, j) (some b) = (some b, true) := if_pos e
            rw [ec]
            exact ⟨rfl, s1⟩
          · have e : ¬ b < a := fun z => e (decide_eq_true z)
            have ec : cutZh (some a, j) (some b) = (some a, j) := if_neg e
            rw [ec]
            exact ⟨rfl, s1⟩
    rintro σ' H2 ⟨rfl, s2⟩
    generalize cutZh (y, j) hi = y1 at *
    obtain ⟨y1, j1⟩ := y1
    have yes : someZ (x1, i1) (y1, j1) = true → ∀ q, H2 q = none → Q (.ref q) (upd H2 q (.tup [optZ x1, optZ y1, .bl i1, .bl j1])) := fun e q nq => kk _ _ (s2.trans (same1 nq)) (.inl ⟨e, q, rfl, upd_same⟩)
    have no : someZ (x1, i1) (y1, j1) = false → Q .non H2 := fun e => kk _ _ s2 (.inr ⟨e, rfl⟩)
    cases x1 with
    | none =>
      walk_at "w"
      exact yes (by cases y1 <;> rfl)
    | some a =>
      cases y1 with
      | none =>
        walk_at "w"
        exact yes rfl
      | some b =>
        walk_at "w"
        refine ite2 (fun e => ?_) (fun e => ?_)
        · have e := of_decide_eq_true e
          walk_at "w"
          exact no (by show (decide (a < b) || (decide (a = b) && i1 && j1)) = false; rw [decide_eq_false (show ¬ a < b by omega), decide_eq_false (show ¬ a = b by omega)]; rfl)
        · have e : ¬ b < a := fun z => e (decide_eq_true z)
          walk_at "w"
          refine ite2 (fun e2 => ?_) (fun e2 => ?_)
          · have eab : a = b := V.int.inj (of_decide_eq_true e2)
            cases i1 with
            | false =>
              walk_at "w"
              exact no (by show (decide (a < b) || (decide (a = b) && false && j1)) = false; rw [decide_eq_false (show ¬ a < b by omega), Bool.and_false]; rfl)
            | true =>
              cases j1 with
              | false =>
                walk_at "w"
                exact no (by show (decide (a < b) || (decide (a = b) && true && false)) = false; rw [decide_eq_false (show ¬ a < b by omega), Bool.and_false]; rfl)
              | true =>
                walk_at "w"
                exact yes (by show (decide (a < b) || (decide (a = b) && true && true)) = true; rw [decide_eq_true eab, Bool.and_true, Bool.and_true, Bool.or_true])
          · have e2 : ¬ a = b := fun z => e2 (decide_eq_true (congrArg V.int z))
            walk_at "w"
            exact yes (by show (decide (a < b) || (decide (a = b) && i1 && j1)) = true; rw [decide_eq_true (show a < b by omega)]; rfl)
theorem ok_l_is_end {P : Program} {w : World} {K : PySem.W.Frag} {mg : Str → Option Value} {base : Heap} {φ : Fds} (T : Txt P K mg φ) : FnOk P w K mg base CX0 1 (He.fAd K ("_law_is_end", none)) φ.l_is_end p_l_is_end (sp_lisend (He.ga K "Measure")) := by
  refine T.f_l_is_end.ok sc_l_is_end (fun vs H Q E h => ?_) (fun cdv A outer s H vs Q E hr h => ?_)
  · obtain ⟨v, part, e, rfl, p0, p1, be, qv, kk⟩ := h; rfl
  · obtain ⟨v, part, e, rfl, p0, p1, be, qv, kk⟩ := h
    refine ⟨_, PSs.nox (pss_cons (ps_if (pt_cmpR op_isN (pv 2) pe_non (nomark _))
      (pss_one (ps_ret (pe_cmpR op_isN (pv 1) pe_non (nomark _))))
      pss_nil)
      (pss_one (ps_ret (pe_and (pe_cmpR op_notN (pv 1) pe_non (nomark _)) (pe_one (pe_cmpR op_eq (pe_op op_mulA (pe_op op_mulA (fldK (K := K) (pv 1) rfl) pe_int) (pv 0)) (pe_op op_mulA (pv 2) (fldK (K := K) (pv 1) rfl)) (nomark _))))))), ?_⟩
    have cl_Measure := T.cl_Measure
    have na_Measure_top := T.na_Measure_top
    have na_Measure_bottom := T.na_Measure_bottom
    
    
    cases e with
    | none =>
      cases qv
      walk_at "w"
      exact kk
    | some m =>
      obtain ⟨p, rfl, qz⟩ := qv
      obtain ⟨⟨t, u, ⟨dx, hp⟩, fr⟩, pos, s1, s2⟩ := qz
      have bm := be m rfl
      walk_at "w"
      have e : t * 4 * part = m * u := by
        rw [Int.mul_assoc]
        exact fr.eq
      show Q (.bl (decide (V.int (t * 4 * part) = V.int (m * u)))) H
      rw [decide_eq_true (congrArg V.int e)]
      exact kk
theorem ok_l_stretch_right {P : Program} {w : World} {K : PySem.W.Frag} {mg : Str → Option Value} {base : Heap} {φ : Fds} (T : Txt P K mg φ)   : FnG P w K mg base CX0 2 (He.fAd K ("_law_stretch_right", none)) φ.l_stretch_right p_l_stretch_right (sp_lsright (He.ga K "Measure") (He.ga K "Stretch")) := by
  obtain ⟨_, B0v, B0⟩ := b_l_is_end_3 T
  refine okG T.f_l_stretch_right sc_l_stretch_right (fun vs H Q E h => ?_) (fun cdv A outer s H vs Q E hr gd h => ?_)
  · obtain ⟨part, v, w, x, y, rfl, p0, p1, bx, by', hv, hw, kk⟩ := h; rfl
  · obtain ⟨part, v, w, x, y, rfl, p0, p1, bx, by', hv, hw, kk⟩ := h
    refine ⟨_, PSs.nox (pss_cons (ps_if (pt_cmpR op_isN (pv 2) pe_non (nomark _))
      (pss_one (ps_ret (pe_cmpR op_isN (pv 1) pe_non (nomark _))))
      pss_nil)
      (pss_cons (ps_if (PW.pt (pw_or (pt_cmpR op_isN (pv 1) pe_non (nomark _)) (pw_or (pt_not (pt_val (pe_call (ok_l_is_end (K := K) T) (hr.mono (by decide)) rfl T.g_l_is_end T.f_l_is_end.kp B0 B0v pass0 (pa_cons (pv 0) (pa_cons (fldK (K := K) (pv 1) rfl) (pa_cons (pe_ix (ixt (K := K)) (pv 2) pe_int (fun _ _ => rfl)) pa_nil)))))) (pw_or1 (pt_not (pt_val (pe_call (ok_l_is_end (K := K) T) (hr.mono (by decide)) rfl T.g_l_is_end T.f_l_is_end.kp B0 B0v pass0 (pa_cons (pv 0) (pa_cons (fldK (K := K) (pv 1) rfl) (pa_cons (pe_ix (ixt (K := K)) (pv 2) pe_int (fun _ _ => rfl)) pa_nil))))))))))
      (pss_one (ps_ret pe_bl))
      pss_nil)
      (pss_one (ps_ret (pe_cmpR op_eq (pe_callB (id := "repr") (call_reprD gd hr) (by rfl) T.z_repr (by decide +kernel) (pa_cons (pe_tup (pa_cons (fldK (K := K) (pv 1) rfl) (pa_cons (fldK (K := K) (pv 1) rfl) pa_nil))) pa_nil)) (pe_callB (id := "repr") (call_reprD gd hr) (by rfl) T.z_repr (by decide +kernel) (pa_cons (pe_slice (slT (K := K)) (pv 2) (po_some pe_int) po_none) pa_nil)) (nomark _)))))), ?_⟩
    have cl_Stretch := T.cl_Stretch
    have na_Stretch_low := T.na_Stretch_low
    have na_Stretch_high := T.na_Stretch_high
    have na_Stretch_low_in := T.na_Stretch_low_in
    have na_Stretch_high_in := T.na_Stretch_high_in
    
    rcases hw with ⟨so, q, rfl, hE⟩ | ⟨so, rfl⟩
    · rcases hv with ⟨_, p, rfl, dx, l, h, hp, ql, qh⟩ | ⟨z, _⟩
      · unfold ES at hE
        walk_at "w"
        refine ⟨x.1, rfl, p0, p1, bx, ql, ?_⟩
        walk_at "w"
        refine ⟨y.1, rfl, p0, p1, by', qh, ?_⟩
        walk_at "w"
        intro p1 np1
        have ok1 := boolsD_ok x.2 y.2
        refine ⟨_, _, rfl, dpB (SqT.of upd_same), ok1.1, ok1.2.1, ok1.2.2.1, ok1.2.2.2, ?_⟩
        have hE1 := up1 (u := .tup [V.bl x.2, V.bl y.2]) np1 hE
        have sA : Same H (upd H p1 (.tup [V.bl x.2, V.bl y.2])) := same1 np1
        generalize upd H p1 (.tup [V.bl x.2, V.bl y.2]) = HA at *
        walk_at "w"
        refine ⟨by show ¬ (HT.sIx 4 0 (some 2) = 0 ∧ HT.sIx 4 4 none = 4); decide, fun p2 np2 => ?_⟩
        refine ⟨_, _, rfl, dpB (SqT.of upd_same), ok1.1, ok1.2.1, ok1.2.2.1, ok1.2.2.2, ?_⟩
        walk_at "w"
        have e : decide (V.str (PyData.tuple [.bool x.2, .bool y.2]).shown = V.str (PyData.tuple [.bool x.2, .bool y.2]).shown) = true := decide_eq_true rfl
        rw [e]
        exact kk _ (sA.trans (same1 np2))
      · rw [so] at z; cases z
    · rcases hv with ⟨z, _⟩ | ⟨_, rfl⟩
      · rw [so] at z; cases z
      · walk_at "w"
        exact kk _ (Same.refl _)
theorem ok_NoSize_init {P : Program} {w : World} {K : PySem.W.Frag} {mg : Str → Option Value} {base : Heap} {φ : Fds} (T : Txt P K mg φ) : FnOk P w K mg base CX0 1 (He.fAd K ("NoSize", some "__init__")) φ.NoSize_init p_NoSize_init (sp_err1 (He.ga K "NoSize") "number") := by
  refine fn_sup baseLE T.su_NoSize_init T.sc_NoSize rfl T.pfile T.ptop T.z_super scS_NoSize_init rfl rfl rfl (fun vs H Q E h => ?_) (fun _ => rfl) (fun _ => rfl) (fun _ => rfl) (fun _ _ _ _ => rfl) (fun A outer s H vs Q E h => ?_)
  · obtain ⟨a, y, rfl, _⟩ := h; rfl
  · obtain ⟨a, y, rfl, ha, h⟩ := h
    refine ⟨a, [y], rfl, ha, _, _, pa_cons pe_str pa_nil, (pss_cons (ps_ostG baseLE (pe_var (i := 0) rfl (.inl rfl)) (pe_var (i := 1) rfl (.inl rfl))) pss_nil), ?_⟩
    exact ⟨Nat.le_of_ble_eq_true rfl, ha, _, rfl, _, rfl, a, _, rfl, T.sc_NoSize.ox, T.xn_NoSize_number.no, .inl ⟨ha, h⟩⟩
theorem okX_is_whole {P : Program} {w : World} {K : PySem.W.Frag} {mg : Str → Option Value} {base : Heap} {φ : Fds} (T : Txt P K mg φ) : FnOk P w K mg base CX0 1 (He.fAd K ("is_whole", none)) φ.is_whole p_is_whole sp_iswX := by
  refine T.f_is_whole.ok sc_is_whole (fun vs H Q E h => ?_) (fun cdv A outer s H vs Q E hr h => ?_)
  · obtain ⟨v, kn, rfl, hk, kk⟩ := h; rfl
  · obtain ⟨v, kn, rfl, hk, kk⟩ := h
    refine ⟨_, PSs.nox (pss_one (ps_ret (pe_and (pe_callB (id := "isinstance") (isi (K := K)) (by rfl) T.z_isinstance (by decide +kernel) (pa_cons (pv 0) (pa_cons (pe_bltn (v := .ty "int") rfl T.z_int (by decide +kernel) rfl) pa_nil))) (pe_one (pe_not (pe_callB (id := "isinstance") (isi (K := K)) (by rfl) T.z_isinstance (by decide +kernel) (pa_cons (pv 0) (pa_cons (pe_bltn (v := .ty "bool") rfl T.z_bool (by decide +kernel) rfl) pa_nil)))))))), ?_⟩
    have ki := kind_is (K := K) (c := "int") hk (.inl rfl)
    have kb := kind_is (K := K) (c := "bool") hk (.inr (.inl rfl))
    refine ⟨_, rfl, _, _, _, _, _, rfl, .ty _, hk.ty, ki, _, rfl, ?_⟩
    rcases hk.names with rfl | rfl | rfl | rfl | rfl | rfl | rfl
    · exact iteF kk
    · refine iteT ⟨_, rfl, _, _, _, _, _, rfl, .ty _, hk.ty, kb, _, rfl, ?_⟩
      exact kk
    · refine iteT ⟨_, rfl, _, _, _, _, _, rfl, .ty _, hk.ty, kb, _, rfl, ?_⟩
      exact kk
    · exact iteF kk
    · exact iteF kk
    · exact iteF kk
    · exact iteF kk
theorem okX_has_size {P : Program} {w : World} {K : PySem.W.Frag} {mg : Str → Option Value} {base : Heap} {φ : Fds} (T : Txt P K mg φ) : FnOk P w K mg base CX0 2 (He.fAd K ("has_size", none)) φ.has_size p_has_size (sp_hasX K (He.ga K "Measure") (He.ga K "Ladder")) := by
  obtain ⟨_, B0v, B0⟩ := b_is_whole_1 T
  refine T.f_has_size.ok sc_has_size (fun vs H Q E h => ?_) (fun cdv A outer s H vs Q E hr h => ?_)
  · obtain ⟨p, k, zs, r, lo, hi, v, rfl, hL, ⟨hz, kn, hk, ho⟩, kk⟩ := h; rfl
  · obtain ⟨p, k, zs, r, lo, hi, v, rfl, hL, ⟨hz, kn, hk, ho⟩, kk⟩ := h
    refine ⟨_, PSs.nox (pss_one (ps_ret (pe_and (pe_call (okX_is_whole (K := K) T) (hr.mono (by decide)) rfl T.g_is_whole T.f_is_whole.kp B0 B0v pass0 (pa_cons (pv 1) pa_nil)) (pe_one (pe_chain op_le op_lt pe_int (pv 1) (pe_callB (id := "len") (lenS (K := K)) (by rfl) T.z_len PySem.boot_len (pa_cons (fldK (K := K) (pv 0) rfl) pa_nil))))))), ?_⟩
    have cl_Ladder := T.cl_Ladder
    have na_Ladder_marks := T.na_Ladder_marks
    have na_Ladder_rule := T.na_Ladder_rule
    have na_Ladder_least := T.na_Ladder_least
    have na_Ladder_most := T.na_Ladder_most
    
    obtain ⟨⟨dx, T', ps, l, h, hp, hT, hm, ql, qh⟩, l0, l1, hri, hru, hsp⟩ := hL
    have el : ps.length = zs.length := hm.len
    refine ⟨_, rfl, v, kn, rfl, hk, _, rfl, ?_⟩
    by_cases e : kn = "int"
    · obtain ⟨i, rfl, hi'⟩ := ho e
      rw [decide_eq_true e]
      refine iteT ?_
      repeat (first | apply @Exists.intro V | apply @Exists.intro Int | apply @Exists.intro Addr | apply @Exists.intro Bool | apply @Exists.intro (List V) | apply @Exists.intro Str | apply @Exists.intro Nat | refine And.intro (by walk_at "c") ?_)
      refine ite2 (fun e0 => ?_) (fun e0 => ?_)
      · have e0 : 0 ≤ i := of_decide_eq_true e0
        walk_at "w"
        show Q (.bl (decide (i < (ps.length : Int)))) H
        rw [decide_eq_false (by omega)]
        exact kk
      · exact kk
    · rw [decide_eq_false e]
      exact iteF kk
theorem okX_Ladder_stretch {P : Program} {w : World} {K : PySem.W.Frag} {mg : Str → Option Value} {base : Heap} {φ : Fds} (T : Txt P K mg φ) : FnOk P w K mg base (L2.CX P w) 7 (He.fAd K ("Ladder", some "stretch")) φ.Ladder_stretch p_Ladder_stretch (sp_strX K (He.ga K "Measure") (He.ga K "Ladder") (He.ga K "NoSize")) := by
  obtain ⟨_, B0v, B0⟩ := b_has_size_2 T
  obtain ⟨_, B1v, B1⟩ := b_Stretch_init_5 T
  obtain ⟨_, B2v, B2⟩ := b_Stretch_cut_2 T
  obtain ⟨_, B3v, B3⟩ := b_stretch_by_rule_3 T
  refine T.f_Ladder_stretch.ok sc_Ladder_stretch (fun vs H Q E h => ?_) (fun cdv A outer s H vs Q E hr h => ?_)
  · obtain ⟨p, k, zs, r, lo, hi, v, rfl, hL, ho, kE⟩ := h; rfl
  · obtain ⟨p, k, zs, r, lo, hi, v, rfl, hL, ho, kE⟩ := h
    refine ⟨_, (pss_cons (ps_if (pt_not (pt_val (pe_call (okX_has_size (K := K) T) (hr.mono (by decide)) rfl T.g_has_size T.f_has_size.kp B0 B0v pass0 (pa_cons (pv 0) (pa_cons (pv 1) pa_nil)))))
      (pss_one (ps_raise rfl (takes_of rfl rfl rfl rfl) (pmk_err1 baseLE T.sc_NoSize.ox T.si_NoSize.it T.si_NoSize.ty (ok_NoSize_init T) (hr.mono (by decide)) (bs_NoSize_init T) rfl T.g_NoSize (pa_cons (pv 1) pa_nil))))
      pss_nil)
      (pss_cons (ps_set (i := 2) sc_Ladder_stretch.nd rfl (Or.inl rfl) (pe_make T.mk_Stretch (ok_Stretch_init (K := K) T) (hr.mono (by decide)) rfl T.g_Stretch B1 B1v pass0 (pa_cons (fldK (K := K) (pv 0) rfl) (pa_cons (fldK (K := K) (pv 0) rfl) (pa_cons pe_bl (pa_cons pe_bl pa_nil))))))
      (pss_one (ps_ret (pe_meth (pe_call (ok_stretch_by_rule (K := K) T) (hr.mono (by decide)) rfl T.g_stretch_by_rule T.f_stretch_by_rule.kp B3 B3v pass0 (pa_cons (fldK (K := K) (pv 0) rfl) (pa_cons (fldK (K := K) (pv 0) rfl) (pa_cons (pv 1) pa_nil)))) T.cl_Stretch T.me_Stretch_cut (ok_Stretch_cut (K := K) T) (hr.mono (by decide)) B2 B2v pass0 (pa_cons (pv 2) pa_nil)))))), ?_⟩
    refine ⟨_, rfl, _, rfl, p, k, zs, r, lo, hi, v, rfl, hL, ho, _, rfl, iteT ?_⟩
    exact ⟨_, rfl, _, rfl, fun d nd => kE d nd⟩
theorem ok_l_refused {P : Program} {w : World} {K : PySem.W.Frag} {mg : Str → Option Value} {base : Heap} {φ : Fds} (T : Txt P K mg φ)   : FnG P w K mg base CX0 8 (He.fAd K ("_law_refused", none)) φ.l_refused p_l_refused (sp_lref K (He.ga K "Measure") (He.ga K "Ladder")) := by
  obtain ⟨_, B0v, B0⟩ := b_Ladder_stretch_2 T
  refine okG T.f_l_refused sc_l_refused (fun vs H Q E h => ?_) (fun cdv A outer s H vs Q E hr gd h => ?_)
  · obtain ⟨p, k, zs, r, lo, hi, v, rfl, hL, ho, kk⟩ := h; rfl
  · obtain ⟨p, k, zs, r, lo, hi, v, rfl, hL, ho, kk⟩ := h
    refine ⟨_, PSs.nox (pss_cons (ps_set (i := 2) sc_l_refused.nd rfl (Or.inl rfl) pe_non)
      (pss_cons (ps_tryK (i := 3) rfl rfl sc_l_refused.nd rfl rfl rfl (fun W pn xe tk _ => (pss_one (ps_expr (pe_methS (pv 0) T.cl_Ladder T.me_Ladder_stretch (okX_Ladder_stretch (K := K) T) (hr.mono (by decide)) B0 B0v (fun σ => passAt tk σ) (pa_cons (pv 1) pa_nil))))) (KClauses.named ⟨rfl, by decide, .inl T.g_LandError⟩ (fun a oe cls d pn hz hf => (pss_one (ps_set (i := 2) sc_l_refused.nd rfl (Or.inl rfl) (pv 3)))) (KClauses.bare ⟨rfl, by decide, .inl T.g_LadderError⟩ (fun a oe cls d pn hz hf => (pss_one (ps_ret pe_bl))) KClauses.none)))
      (pss_cons (ps_if (PW.pt (pw_or (pt_not (pt_val (pe_callB (id := "isinstance") (callR_or (isi (K := K)) (isK (K := K))) (by rfl) T.z_isinstance (by decide +kernel) (pa_cons (pv 2) (pa_cons (pe_glob (v := .ref (He.ga K "NoSize")) rfl T.g_NoSize rfl) pa_nil))))) (pw_or (pt_val (pe_callB (id := "isinstance") (callR_or (isiT (K := K)) (isKT (K := K))) (by rfl) T.z_isinstance (by decide +kernel) (pa_cons (pv 2) (pa_cons (pe_tup (pa_cons (pe_glob (v := .ref (He.ga K "NoLand")) rfl T.g_NoLand rfl) (pa_cons (pe_glob (v := .ref (He.ga K "LandTwice")) rfl T.g_LandTwice rfl) pa_nil))) pa_nil)))) (pw_or1 (pt_not (pt_val (pe_callB (id := "isinstance") (callR_or (isi (K := K)) (isK (K := K))) (by rfl) T.z_isinstance (by decide +kernel) (pa_cons (pv 2) (pa_cons (pe_bltn (v := .ty "LookupError") rfl T.z_LookupError (by decide +kernel) rfl) pa_nil)))))))))
      (pss_one (ps_ret pe_bl))
      pss_nil)
      (pss_one (ps_ret (pe_cmpR op_eq (pe_callB (id := "repr") (call_reprX gd hr) (by rfl) T.z_repr (by decide +kernel) (pa_cons (pe_errf (pv 2) rfl) pa_nil)) (pe_callB (id := "repr") (call_reprX gd hr) (by rfl) T.z_repr (by decide +kernel) (pa_cons (pv 1) pa_nil)) (nomark _))))))), ?_⟩
    have cl_Ladder := T.cl_Ladder
    have na_Ladder_marks := T.na_Ladder_marks
    have na_Ladder_rule := T.na_Ladder_rule
    have na_Ladder_least := T.na_Ladder_least
    have na_Ladder_most := T.na_Ladder_most
    
    obtain ⟨dx, T', ps, l, h, hp, hT, hm, ql, qh⟩ := hL.ob
    walk_at "w"
    refine ⟨zs, r, lo, hi, v, rfl, hL, ho, fun d nd => ?_⟩
    refine ⟨true, T.xm_NoSize_LandError, fun _ q nq => ?_, fun z => nomatch z⟩
    refine ⟨_, rfl, fun nq => ?_⟩
    have nqd : q ≠ d := fun z => by
      rw [z, upd_same] at nq; cases nq
    have s1 : Same H (upd (upd H d (.xd [("number", v)])) q (errO (.ref (He.ga K "NoSize")) (some d) q)) := (same1 nd).up nq
    have eA : ErrAt K (upd (upd H d (.xd [("number", v)])) q (errO (.ref (He.ga K "NoSize")) (some d) q)) q (He.ga K "NoSize") := ⟨T.xc_NoSize, .inr ⟨d, _, upd_same, (upd_ne nqd.symm).trans upd_same⟩⟩
    have eq1 : upd (upd H d (.xd [("number", v)])) q (errO (.ref (He.ga K "NoSize")) (some d) q) q = some (errO (.ref (He.ga K "NoSize")) (some d) q) := upd_same
    have ed1 : upd (upd H d (.xd [("number", v)])) q (errO (.ref (He.ga K "NoSize")) (some d) q) d = some (.xd [("number", v)]) := (upd_ne nqd.symm).trans upd_same
    replace ho := ho.same s1
    generalize upd (upd H d (.xd [("number", v)])) q (errO (.ref (He.ga K "NoSize")) (some d) q) = H1 at *
    refine ⟨_, rfl, ?_⟩
    refine .inr ⟨q, _, _, _, true, rfl, eA, fun u h => h, T.k_NoSize_NoSize, ?_⟩
    refine ⟨_, rfl, iteF ?_⟩
    refine ⟨_, rfl, by show 2 ≤ sizeLine; decide, fun tp ntp => ?_⟩
    refine .inr ⟨q, _, tp, _, _, false, rfl, ⟨eA.1, eA.2.elim (fun z => .inl (up1 ntp z)) fun ⟨dd, fs, z1, z2⟩ => .inr ⟨dd, fs, up1 ntp z1, up1 ntp z2⟩⟩, upd_same, .cons (.own _) (.cons (.own _) .nil), kitAny_cons T.k_NoSize_NoLand (fun _ => kitAny_cons T.k_NoSize_LandTwice (fun _ => kitAny_nil) (fun z => nomatch z)) (fun z => nomatch z), ?_⟩
    have s2 := s1.up (u := .tup [V.ref (He.ga K "NoLand"), V.ref (He.ga K "LandTwice")]) ntp
    replace eq1 := up1 (u := .tup [V.ref (He.ga K "NoLand"), V.ref (He.ga K "LandTwice")]) ntp eq1
    replace ed1 := up1 (u := .tup [V.ref (He.ga K "NoLand"), V.ref (He.ga K "LandTwice")]) ntp ed1
    replace ho := ho.same (same1 (u := .tup [V.ref (He.ga K "NoLand"), V.ref (He.ga K "LandTwice")]) ntp)
    generalize upd H1 tp (.tup [V.ref (He.ga K "NoLand"), V.ref (He.ga K "LandTwice")]) = H2 at *
    refine ⟨_, rfl, iteF ?_⟩
    refine ⟨_, rfl, ?_⟩
    refine .inr ⟨q, _, _, _, true, rfl, ⟨eA.1, .inr ⟨d, _, eq1, ed1⟩⟩, fun u h => h, T.k_NoSize_LookupError, ?_⟩
    refine ⟨_, rfl, iteF ?_⟩
    obtain ⟨⟨z, hz⟩, _⟩ := ho
    refine ⟨_, rfl, q, _, d, _, v, rfl, eq1, T.xn_NoSize_number, ed1, rfl, v, z, rfl, hz, ?_⟩
    refine ⟨_, rfl, v, z, rfl, hz, ?_⟩
    have e : decide (V.str z = V.str z) = true := decide_eq_true rfl
    walk_at "w"
    rw [e]
    exact kk _ s2
theorem ok_l_right {P : Program} {w : World} {K : PySem.W.Frag} {mg : Str → Option Value} {base : Heap} {φ : Fds} (T : Txt P K mg φ)   : FnG P w K mg base CX0 9 (He.fAd K ("_law_right", none)) φ.l_right p_l_right sp_right15 := by
  obtain ⟨_, B0v, B0⟩ := b_l_made_1 T
  obtain ⟨_, B1v, B1⟩ := b_l_cut_2 T
  obtain ⟨_, B2v, B2⟩ := b_l_ends_2 T
  obtain ⟨_, B3v, B3⟩ := b_l_stretch_right_3 T
  obtain ⟨_, B4v, B4⟩ := b_Ladder_stretch_2 T
  obtain ⟨_, B5⟩ := b_Ladder_stretch_1_number T
  obtain ⟨_, B6v, B6⟩ := b_l_refused_2 T
  refine okG T.f_l_right sc_l_right (fun vs H Q E h => ?_) (fun cdv A outer s H vs Q E hr gd h => ?_)
  · obtain ⟨p, part, ms, r, lo, hi, rfl, hL, kk⟩ := h; rfl
  · obtain ⟨p, part, ms, r, lo, hi, rfl, hL, kk⟩ := h
    refine ⟨_, PSs.nox (pss_cons (ps_asg (pe_tup (pa_cons (pe_call (ok_l_made (K := K) T) (hr.mono (by decide)) rfl T.g_l_made T.f_l_made.kp B0 B0v pass0 (pa_cons (pv 0) pa_nil)) (pa_cons (pe_callB (id := "len") (lenS (K := K)) (by rfl) T.z_len PySem.boot_len (pa_cons (pe_ix (ixt (K := K)) (pv 0) pe_int (fun _ _ => rfl)) pa_nil)) pa_nil))) (pg_tup rfl (pgs_cons (pg_name (i := 1) sc_l_right.nd rfl (Or.inr rfl)) (pgs_cons (pg_name (i := 2) sc_l_right.nd rfl (Or.inl rfl)) pgs_nil))))
      (pss_cons (ps_for PassesOwn.never rfl (pi_range1 rfl T.z_range (pa_cons (pv 2) pa_nil)) (pg_name (i := 3) sc_l_right.nd rfl (Or.inl rfl))
      (pss_cons (ps_set (i := 4) sc_l_right.nd rfl (Or.inl rfl) (pe_call (ok_l_cut (K := K) T) (hr.mono (by decide)) rfl T.g_l_cut T.f_l_cut.kp B1 B1v pass0 (pa_cons (pv 0) (pa_cons (pe_call (ok_l_ends (K := K) T) (hr.mono (by decide)) rfl T.g_l_ends T.f_l_ends.kp B2 B2v pass0 (pa_cons (pv 0) (pa_cons (pv 3) pa_nil))) pa_nil))))
      (pss_cons (ps_if (pt_not (pt_val (pe_callG (ok_l_stretch_right (K := K) T) gd (hr.mono (by decide)) rfl T.g_l_stretch_right T.f_l_stretch_right.kp B3 B3v pass0 (pa_cons (pe_ix (ixt (K := K)) (pv 0) pe_int (fun _ _ => rfl)) (pa_cons (pe_meth (pv 1) T.cl_Ladder T.me_Ladder_stretch (ok_Ladder_stretch (K := K) T) (hr.mono (by decide)) B4 B4v pass0 (pa_cons (pv 3) pa_nil)) (pa_cons (pv 4) pa_nil))))))
      (pss_one (ps_ret pe_bl))
      pss_nil)
      (pss_one (ps_if (pt_not (pt_val (pe_callG (ok_l_stretch_right (K := K) T) gd (hr.mono (by decide)) rfl T.g_l_stretch_right T.f_l_stretch_right.kp B3 B3v pass0 (pa_cons (pe_ix (ixt (K := K)) (pv 0) pe_int (fun _ _ => rfl)) (pa_cons (pe_methK0 (pv 1) T.cl_Ladder T.me_Ladder_stretch (ok_Ladder_stretch (K := K) T) (hr.mono (by decide)) B5 pass0 (pk_cons (pv 3) pk_nil)) (pa_cons (pv 4) pa_nil))))))
      (pss_one (ps_ret pe_bl))
      pss_nil)))))
      (pss_cons (ps_set (i := 5) sc_l_right.nd rfl (Or.inl rfl) (pe_lst (pa_cons (pv 2) (pa_cons (pe_un un_neg pe_int) (pa_cons (pe_op op_add (pv 2) pe_int) (pa_cons (pe_un un_neg (pv 2)) (pa_cons (pe_op op_pow pe_int pe_int) (pa_cons pe_bl (pa_cons pe_bl (pa_cons pe_non (pa_cons pe_str (pa_cons pe_str (pa_cons (pe_tup (pa_cons pe_int pa_nil)) (pa_cons (pe_lst (pa_cons pe_int pa_nil)) (pa_cons pe_dnewK (pa_cons (pe_disp (pps_cons pe_int pe_int pps_nil) (by rfl) (by rfl) (fun z => by cases z) (by decide)) (pa_cons (pe_tup (pa_cons (pe_tup pa_nil) pa_nil)) (pa_cons (pe_lst (pa_cons pe_non pa_nil)) pa_nil))))))))))))))))))
      (pss_one (ps_ret (pe_callB (id := "all") (allK (K := K)) (by rfl) T.z_all (by decide +kernel) (pa_cons (pe_lc (own := [("_law_thing", 6)]) (g := gName 6) rfl sc_l_right.nd (pi_list (pv 5)) (blkOk_by (own := [("_law_thing", 6)]) (N := N_l_right) (sc := (defScope s_l_right)) (by decide +kernel)) (fun _ _ _ _ _ => (pg_name (i := 6) sc_l_right.nd rfl (Or.inl rfl))) (fun _ _ _ _ _ => pts_nil) (fun _ _ _ _ _ => (pe_callG (ok_l_refused (K := K) T) gd (hr.mono (by decide)) rfl T.g_l_refused T.f_l_refused.kp B6 B6v pass0 (pa_cons (pv 1) (pa_cons (pv 6) pa_nil))))) pa_nil))))))), ?_⟩
    have cl_Ladder := T.cl_Ladder
    have na_Ladder_marks := T.na_Ladder_marks
    have na_Ladder_rule := T.na_Ladder_rule
    have na_Ladder_least := T.na_Ladder_least
    have na_Ladder_most := T.na_Ladder_most
    
    obtain ⟨T', hp, hT⟩ := hL.ob
    have hp0 := hL.p0
    have hp1 := hL.p1
    have l0 := hL.len0
    have l1 := hL.len1
    have lm : (ms.map V.int).length = ms.length := List.length_map ..
    refine ⟨_, rfl, p, part, ms, r, lo, hi, rfl, hL, fun M H1 s1 hM => ?_⟩
    replace hL := hL.same s1
    replace hp := s1 _ _ hp
    replace hT := s1 _ _ hT
    have hM0 := hM
    obtain ⟨dx, T2, ps, l, h, hpM, hTM, hm, ql, qh⟩ := hM.ob
    walk_at "w"
    intro p1 np1
    have sA : Same H1 (upd H1 p1 (.tup [V.ref M, V.int ((ms.map V.int).length : Int)])) := same1 np1
    refine ⟨p1, _, rfl, SqT.of upd_same, rfl, ?_⟩
    replace s1 := s1.trans sA
    replace hL := hL.same sA
    replace hp := sA _ _ hp
    replace hT := sA _ _ hT
    replace hM0 := hM0.same sA
    replace hpM := sA _ _ hpM
    generalize upd H1 p1 (.tup [V.ref M, V.int ((ms.map V.int).length : Int)]) = H2 at *
    walk_at "w"
    refine for_range (fun i σ H' => (∃ v1 v2 v3 v4, σ = [some (.ref p), some (.ref M), some (.int ((ms.map V.int).length : Int)), v1, v2, v3, v4]) ∧ Same H2 H') ?_ ?_ ?_
    · exact ⟨⟨_, _, _, _, rfl⟩, Same.refl _⟩
    · rintro i σ H3 hii ⟨⟨v1, v2, v3, v4, rfl⟩, s2⟩
      have hi2 : i < ms.length := by omega
      replace hL := hL.same s2
      replace hp := s2 _ _ hp
      replace hT := s2 _ _ hT
      replace hM0 := hM0.same s2
      replace hpM := s2 _ _ hpM
      walk_at "w"
      refine ⟨ms, r, lo, hi, i, by show [V.ref p, V.int (0 + (i : Int))] = _; rw [Int.zero_add], hL, hi2, fun q H4 s4 e4 => ?_⟩
      refine ⟨p, q, part, ms, r, lo, hi, _, _, rfl, hL.same s4, e4, fun v H5 s5 dv => ?_⟩
      have s35 := s4.trans s5
      replace hL := hL.same s35
      replace hp := s35 _ _ hp
      replace hT := s35 _ _ hT
      replace hM0 := hM0.same s35
      replace hpM := s35 _ _ hpM
      clear s4 s5 e4
      have tu : ∀ {v1 : V} {H6 : Hp}, CutQ (He.ga K "Measure") (He.ga K "Stretch") H6 v1 (sizE (zq (4 * part) ms) r (oq (4 * part) lo) (oq (4 * part) hi) i).1 (sizE (zq (4 * part) ms) r (oq (4 * part) lo) (oq (4 * part) hi) i).2 → RunU (He.ga K "Measure") (He.ga K "Stretch") H6 (4 * part) v1 (sizZ ms r lo hi i).1 (sizZ ms r lo hi i).2 :=
        fun c => told_units (by omega) (by omega) hL.four hL.bnd hL.blo hL.bhi hi2 c
      obtain ⟨g1, g2⟩ := rulZ_good (r := r) hL.bnd hi2
      have b1 : bnZ (sizZ ms r lo hi i).1 := (cutZl_good g1 hL.blo).2
      have b2 : bnZ (sizZ ms r lo hi i).2 := (cutZh_good g2 hL.bhi).2
      walk_at "w"
      refine ⟨_, r, _, _, i, by show [V.ref M, V.int (0 + (i : Int))] = _; rw [Int.zero_add], hM0, by decide, by decide, by rw [zq_len]; exact hi2, fun w1 H6 s6 c6 => ?_⟩
      have dv6 : DueZ H6 v (sizZ ms r lo hi i).1 (sizZ ms r lo hi i).2 := dv.same s6
      have hp6 := s6 _ _ hp
      have hM6 := hM0.same s6
      have hpM6 := s6 _ _ hpM
      walk_at "w"
      refine ⟨_, _, rfl, hp0, hp1, b1, b2, tu c6, dv6, fun H7 s7 => ?_⟩
      have dv7 : DueZ H7 v (sizZ ms r lo hi i).1 (sizZ ms r lo hi i).2 := dv6.same s7
      have hp7 := s7 _ _ hp6
      have hM7 := hM6.same s7
      have hpM7 := s7 _ _ hpM6
      clear dv6 hp6 hM6 hpM6 dv hp hM0 hpM
      walk_at "w"
      refine ⟨_, r, _, _, i, by show [V.ref M, V.int (0 + (i : Int))] = _; rw [Int.zero_add], hM7, by decide, by decide, by rw [zq_len]; exact hi2, fun w2 H8 s8 c8 => ?_⟩
      have dv8 : DueZ H8 v (sizZ ms r lo hi i).1 (sizZ ms r lo hi i).2 := dv7.same s8
      walk_at "w"
      refine ⟨_, _, rfl, hp0, hp1, b1, b2, tu c8, dv8, fun H9 s9 => ?_⟩
      walk_at "w"
      exact ⟨⟨_, _, _, _, rfl⟩, s2.trans (s35.trans (s6.trans (s7.trans (s8.trans s9))))⟩
    rintro σ H3 ⟨⟨v1, v2, v3, v4, rfl⟩, s2⟩
    replace hM0 := hM0.same s2
    replace s1 := s1.trans s2
    walk_at "w"
    refine ⟨⟨by decide, by decide +kernel⟩, ?_⟩
    walk_at "w"
    intro a1 n1
    have f1 : upd H3 a1 (.tup [V.int 0]) a1 = some (.tup [V.int 0]) := upd_same
    replace s1 := s1.up (u := .tup [V.int 0]) n1
    replace hM0 := hM0.same (same1 (u := .tup [V.int 0]) n1)
    generalize upd H3 a1 (.tup [V.int 0]) = G1 at *
    walk_at "w"
    intro a2 n2
    have f2 : upd G1 a2 (.lst [V.int 0]) a2 = some (.lst [V.int 0]) := upd_same
    replace f1 := up1 (u := .lst [V.int 0]) n2 f1
    replace s1 := s1.up (u := .lst [V.int 0]) n2
    replace hM0 := hM0.same (same1 (u := .lst [V.int 0]) n2)
    generalize upd G1 a2 (.lst [V.int 0]) = G2 at *
    walk_at "w"
    intro a3 n3
    have f3 : upd G2 a3 (.dK []) a3 = some (.dK []) := upd_same
    replace f1 := up1 (u := .dK []) n3 f1
    replace f2 := up1 (u := .dK []) n3 f2
    replace s1 := s1.up (u := .dK []) n3
    replace hM0 := hM0.same (same1 (u := .dK []) n3)
    generalize upd G2 a3 (.dK []) = G3 at *
    walk_at "w"
    intro a4 n4
    refine ⟨upd_same, [(Sum.inl 0, .int 1)], rfl, by decide, ?_⟩
    have e4 : upd (upd G3 a4 (.dK [])) a4 (.dK (mergeK [] [(Sum.inl 0, V.int 1)])) = upd G3 a4 (.dK [(Sum.inl 0, V.int 1)]) := by
      funext b
      by_cases hb : b = a4
      · rw [hb, upd_same, upd_same]; rfl
      · rw [upd_ne hb, upd_ne hb, upd_ne hb]
    rw [e4]
    have f4 : upd G3 a4 (.dK [(Sum.inl 0, V.int 1)]) a4 = some (.dK [(Sum.inl 0, V.int 1)]) := upd_same
    replace f1 := up1 (u := .dK [(Sum.inl 0, V.int 1)]) n4 f1
    replace f2 := up1 (u := .dK [(Sum.inl 0, V.int 1)]) n4 f2
    replace f3 := up1 (u := .dK [(Sum.inl 0, V.int 1)]) n4 f3
    replace s1 := s1.up (u := .dK [(Sum.inl 0, V.int 1)]) n4
    replace hM0 := hM0.same (same1 (u := .dK [(Sum.inl 0, V.int 1)]) n4)
    generalize upd G3 a4 (.dK [(Sum.inl 0, V.int 1)]) = G4 at *
    walk_at "w"
    intro a5 n5
    have f5 : upd G4 a5 (.tup []) a5 = some (.tup []) := upd_same
    replace f1 := up1 (u := .tup []) n5 f1
    replace f2 := up1 (u := .tup []) n5 f2
    replace f3 := up1 (u := .tup []) n5 f3
    replace f4 := up1 (u := .tup []) n5 f4
    replace s1 := s1.up (u := .tup []) n5
    replace hM0 := hM0.same (same1 (u := .tup []) n5)
    generalize upd G4 a5 (.tup []) = G5 at *
    walk_at "w"
    intro a6 n6
    have f6 : upd G5 a6 (.tup [V.ref a5]) a6 = some (.tup [V.ref a5]) := upd_same
    replace f1 := up1 (u := .tup [V.ref a5]) n6 f1
    replace f2 := up1 (u := .tup [V.ref a5]) n6 f2
    replace f3 := up1 (u := .tup [V.ref a5]) n6 f3
    replace f4 := up1 (u := .tup [V.ref a5]) n6 f4
    replace f5 := up1 (u := .tup [V.ref a5]) n6 f5
    replace s1 := s1.up (u := .tup [V.ref a5]) n6
    replace hM0 := hM0.same (same1 (u := .tup [V.ref a5]) n6)
    generalize upd G5 a6 (.tup [V.ref a5]) = G6 at *
    walk_at "w"
    intro a7 n7
    have f7 : upd G6 a7 (.lst [V.non]) a7 = some (.lst [V.non]) := upd_same
    replace f1 := up1 (u := .lst [V.non]) n7 f1
    replace f2 := up1 (u := .lst [V.non]) n7 f2
    replace f3 := up1 (u := .lst [V.non]) n7 f3
    replace f4 := up1 (u := .lst [V.non]) n7 f4
    replace f5 := up1 (u := .lst [V.non]) n7 f5
    replace f6 := up1 (u := .lst [V.non]) n7 f6
    replace s1 := s1.up (u := .lst [V.non]) n7
    replace hM0 := hM0.same (same1 (u := .lst [V.non]) n7)
    generalize upd G6 a7 (.lst [V.non]) = G7 at *
    walk_at "w"
    have oddL : ∀ v ∈ ([V.int ((ms.map V.int).length : Int), .int (-1), .int (((ms.map V.int).length : Int) + 1), .int (-((ms.map V.int).length : Int)), .int (10 ^ Int.toNat 40), .bl true, .bl false, .non, .str "0", .str "", .ref a1, .ref a2, .ref a3, .ref a4, .ref a6, .ref a7] : List V), Odd15 K G7 (zq (4 * part) ms).length v := fun v hv => by
      have lz : (zq (4 * part) ms).length = ms.length := zq_len _ _
      simp only [List.mem_cons, List.not_mem_nil, or_false] at hv
      rcases hv with rfl | rfl | rfl | rfl | rfl | rfl | rfl | rfl | rfl | rfl | rfl | rfl | rfl | rfl | rfl | rfl
      · refine oddInt (by omega) ?_
        exact Nat.lt_of_le_of_lt (Nat.log2_le_self _) (by omega)
      · exact oddInt (by omega) (by decide +kernel)
      · refine oddInt (by omega) ?_
        exact Nat.lt_of_le_of_lt (Nat.log2_le_self _) (by omega)
      · refine oddInt (by omega) ?_
        exact Nat.lt_of_le_of_lt (Nat.log2_le_self _) (by omega)
      · refine oddInt (fun z => ?_) (by decide +kernel)
        have z2 : (10 : Int) ^ Int.toNat 40 < 24 + 1 := by omega
        exact absurd z2 (by decide +kernel)
      · exact oddData (.bl _) (by decide +kernel) (.inr (.inl ⟨_, rfl, rfl⟩)) (fun z => nomatch z)
      · exact oddData (.bl _) (by decide +kernel) (.inr (.inl ⟨_, rfl, rfl⟩)) (fun z => nomatch z)
      · exact oddData .non (by decide +kernel) (.inl ⟨rfl, rfl⟩) (fun z => nomatch z)
      · exact oddData (.str _) (by decide +kernel) (.inr (.inr (.inr (.inl ⟨_, rfl, rfl⟩)))) (fun z => nomatch z)
      · exact oddData (.str _) (by decide +kernel) (.inr (.inr (.inr (.inl ⟨_, rfl, rfl⟩)))) (fun z => nomatch z)
      · exact oddData (.tup (SqT.of f1) (.cons (.int 0) .nil)) (by decide +kernel) (.inr (.inr (.inr (.inr (.inr (.inl ⟨_, _, rfl, f1, rfl⟩)))))) (fun z => nomatch z)
      · exact oddData (.lst (SqL.of f2) (.cons (.int 0) .nil)) (by decide +kernel) (.inr (.inr (.inr (.inr (.inl ⟨_, _, rfl, f2, rfl⟩))))) (fun z => nomatch z)
      · exact oddDict f3 .nil (by decide +kernel)
      · exact oddDict f4 (.cons (.int 1) .nil) (by decide +kernel)
      · exact oddData (.tup (SqT.of f6) (.cons (.tup (SqT.of f5) .nil) .nil)) (by decide +kernel) (.inr (.inr (.inr (.inr (.inr (.inl ⟨_, _, rfl, f6, rfl⟩)))))) (fun z => nomatch z)
      · exact oddData (.lst (SqL.of f7) (.cons .non .nil)) (by decide +kernel) (.inr (.inr (.inr (.inr (.inl ⟨_, _, rfl, f7, rfl⟩))))) (fun z => nomatch z)
    intro D8 n8
    have f8 := upd_same (H := G7) (a := D8) (o := .lst [V.int ((ms.map V.int).length : Int), .int (-1), .int (((ms.map V.int).length : Int) + 1), .int (-((ms.map V.int).length : Int)), .int (10 ^ Int.toNat 40), .bl true, .bl false, .non, .str "0", .str "", .ref a1, .ref a2, .ref a3, .ref a4, .ref a6, .ref a7])
    replace oddL := fun v hv => (oddL v hv).same (same1 (u := .lst [V.int ((ms.map V.int).length : Int), .int (-1), .int (((ms.map V.int).length : Int) + 1), .int (-((ms.map V.int).length : Int)), .int (10 ^ Int.toNat 40), .bl true, .bl false, .non, .str "0", .str "", .ref a1, .ref a2, .ref a3, .ref a4, .ref a6, .ref a7]) n8)
    replace s1 := s1.up (u := .lst [V.int ((ms.map V.int).length : Int), .int (-1), .int (((ms.map V.int).length : Int) + 1), .int (-((ms.map V.int).length : Int)), .int (10 ^ Int.toNat 40), .bl true, .bl false, .non, .str "0", .str "", .ref a1, .ref a2, .ref a3, .ref a4, .ref a6, .ref a7]) n8
    replace hM0 := hM0.same (same1 (u := .lst [V.int ((ms.map V.int).length : Int), .int (-1), .int (((ms.map V.int).length : Int) + 1), .int (-((ms.map V.int).length : Int)), .int (10 ^ Int.toNat 40), .bl true, .bl false, .non, .str "0", .str "", .ref a1, .ref a2, .ref a3, .ref a4, .ref a6, .ref a7]) n8)
    change _ = some (HO.lst _) at f8
    have fl : ([V.int ((ms.map V.int).length : Int), .int (-1), .int (((ms.map V.int).length : Int) + 1), .int (-((ms.map V.int).length : Int)), .int (10 ^ Int.toNat 40), .bl true, .bl false, .non, .str "0", .str "", .ref a1, .ref a2, .ref a3, .ref a4, .ref a6, .ref a7] : List V).length ≤ 16 := Nat.le_of_ble_eq_true rfl
    revert f8 oddL s1 hM0 fl
    generalize ([V.int ((ms.map V.int).length : Int), .int (-1), .int (((ms.map V.int).length : Int) + 1), .int (-((ms.map V.int).length : Int)), .int (10 ^ Int.toNat 40), .bl true, .bl false, .non, .str "0", .str "", .ref a1, .ref a2, .ref a3, .ref a4, .ref a6, .ref a7] : List V) = LL
    intro oddL s1 hM0 f8 fl
    generalize upd G7 D8 (.lst LL) = G8 at *
    walk_at "w"
    intro D nD
    refine lcz (n := LL.length) walk_list (fun _ _ g s => s.seq g) (List.replicate LL.length (some (V.bl true))) List.length_replicate (szs (by omega)) (SqL.of f8) nD (fun i x H4 H5 o N M2 hi' ho s4 y hN hM2 => ?_) (fun H4 s4 hD => ?_)
    · obtain ⟨rfl, hx⟩ := y
      rw [List.getElem?_replicate, if_pos hi'] at ho
      cases ho
      refine ⟨rfl, yesT ?_⟩
      refine ⟨_, rfl, _, rfl, M, _, _, r, _, _, x, rfl, hM0.same s4, (oddL x (List.mem_of_getElem? hx)).same s4, fun H6 s6 => hN _ _ rfl s6⟩
    rw [rep_fm] at hD
    refine ⟨D, _, rfl, SqL.of hD, ?_⟩
    rw [rep_all]
    exact kk _ (s1.trans s4)
theorem ok_law {P : Program} {w : World} {K : PySem.W.Frag} {mg : Str → Option Value} {base : Heap} {φ : Fds} (T : Txt P K mg φ)   : FnG P w K mg base CX0 10 (He.fAd K ("law", none)) φ.law p_law (sp_law K) := by
  obtain ⟨_, B0v, B0⟩ := b_l_right_1 T
  obtain ⟨_, B1v, B1⟩ := b_l_ladder_1 T
  obtain ⟨_, B2v, B2⟩ := b_l_hand_2 T
  refine okG T.f_law sc_law (fun vs H Q E h => ?_) (fun cdv A outer s H vs Q E hr gd h => ?_)
  · obtain ⟨a, ns, rfl, hS, hlen, kk⟩ := h; rfl
  · obtain ⟨a, ns, rfl, hS, hlen, kk⟩ := h
    refine ⟨_, PSs.nox (pss_one (ps_ret (pe_callB (id := "all") (allK (K := K)) (by rfl) T.z_all (by decide +kernel) (pa_cons (pe_lc (own := [("_law_k", 1)]) (g := gName 1) rfl sc_law.nd (pi_range1 rfl T.z_range (pa_cons (pe_callB (id := "max") (call_max2 rfl) (by rfl) T.z_max (by decide +kernel) (pa_cons pe_int (pa_cons (pe_callB (id := "min") (call_min2 rfl) (by rfl) T.z_min (by decide +kernel) (pa_cons pe_int (pa_cons (pe_callB (id := "len") (lenS (K := K)) (by rfl) T.z_len PySem.boot_len (pa_cons (pv 0) pa_nil)) pa_nil))) pa_nil))) pa_nil)) (blkOk_by (own := [("_law_k", 1)]) (N := N_law) (sc := (defScope s_law)) (by decide +kernel)) (fun _ _ _ _ _ => (pg_name (i := 1) sc_law.nd rfl (Or.inl rfl))) (fun _ _ _ _ _ => pts_nil) (fun _ _ _ _ _ => (pe_callG (ok_l_right (K := K) T) gd (hr.mono (by decide)) rfl T.g_l_right T.f_l_right.kp B0 B0v pass0 (pa_cons (pe_call (ok_l_ladder (K := K) T) (hr.mono (by decide)) rfl T.g_l_ladder T.f_l_ladder.kp B1 B1v pass0 (pa_cons (pe_call (ok_l_hand (K := K) T) (hr.mono (by decide)) rfl T.g_l_hand T.f_l_hand.kp B2 B2v pass0 (pa_cons (pv 0) (pa_cons (pv 1) pa_nil))) pa_nil)) pa_nil)))) pa_nil)))), ?_⟩
    walk_at "w"
    intro D nD
    have hn : ∀ n : Nat, n = (if (if ((ns.map V.int).length : Int) < 3 then ((ns.map V.int).length : Int) else 3) > 1 then (if ((ns.map V.int).length : Int) < 3 then ((ns.map V.int).length : Int) else 3) else 1).toNat → n ≤ 3 := fun n e => by
      rw [e]
      split <;> split <;> omega
    refine lcz walk_range (fun _ _ _ _ => trivial) (List.replicate _ (some (V.bl true))) List.length_replicate (szs (Nat.lt_of_le_of_lt (hn _ rfl) (by decide))) trivial nD (fun i x H1 H2 o N M hi ho s1 y hN hM => ?_) (fun H1 s1 hD => ?_)
    · obtain ⟨rfl, rfl⟩ := y
      have hi3 := hn _ rfl
      rw [List.getElem?_replicate, if_pos hi] at ho
      cases ho
      refine ⟨rfl, yesT ⟨_, rfl, _, rfl, a, ns, i, by show [V.ref a, V.int (0 + (i : Int))] = _; rw [Int.zero_add], s1.seq hS, by omega, fun h H3 nh s3 hh => ?_⟩⟩
      refine ⟨h, 0, rfl, hh, by decide, fun p part ms r lo hi H4 hL hh4 k4 => ?_⟩
      exact ⟨p, part, ms, r, lo, hi, rfl, hL, fun H5 s5 => hN _ _ rfl ((s3.ofKp nh k4).trans s5)⟩
    rw [rep_fm] at hD
    refine ⟨D, _, rfl, SqL.of hD, ?_⟩
    rw [rep_all]
    exact kk _
end K15

open PySem PySem.W PySem.Calls PyProof.Rows
set_option maxRecDepth 100000 in
set_option maxHeartbeats 0 in
theorem PySem.Challenge.cw_sizeladders_k15_stretches_of_sizes_holds : PySem.Challenge.rw_sizeladders_k15_stretches_of_sizes.Holds := by
  exact K15.pre fun T => K15.ok_law T
