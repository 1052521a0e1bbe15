import PyProof.Rows.All
import Wide.All
import OpenK.AllK
import Wide.FinOn
import KE.KStateDown
import HandS.ForMost
import HandS.More
import HandS.WordsExc
import HandS.Defaults
import HandS.MakeKw
import HandS.MakeKwOnly
import HandS.Wide
import HandS.IsInst
import HandS.Flow
import HandS.Style
import HandS.OwnEq
import HandS.Head0
import HandS.Head1
import HandS.Head2
import HandS.HeadEnd
import HandS.HeadHook1
import HandS.HeadHook2
import HandS.ExcIs
import HandS.ExcOwn
import HandS.TryOnly
import HandS.ExcBuiltin
import PySem.Challenge.RW_sizeladders_k01_lowest_terms
set_option Elab.async false
set_option linter.all false
set_option maxRecDepth 100000
set_option maxHeartbeats 4000000
namespace My
open PySem PySem.Spec PyProof.Rows L2
/-! ### operators of great numbers -/
section
variable {X : Cx}
theorem op_fd : OpR X (binaryOp .FloorDiv) (rI (fun _ j => j ≠ 0 ∧ j.natAbs.log2 < 9000) fun i j => .int (i.fdiv j)) :=
  opI fun _ _ _ _ _ _ _ hc q => floordiv_int hc.1 q (.inl (PyProof.noPylong_of_log2 hc.2))
theorem op_mulA : OpR X (binaryOp .Mult) (rI (fun i j => CMul i j ∨ CMulW i j) fun i j => .int (i * j)) :=
  opI fun _ _ _ _ _ _ _ hc q => mul_int q (hc.elim (fun h => h.ok) (fun h => h.ok))
/-! ### cuts: what is wanted behind a piece, said by a word of one's own -/
def tCutS (t : TS) : TS := fun D σ H => ∃ J : L2.St → Hp → Prop, t { D with nx := J } σ H ∧ ∀ σ' H', J σ' H' → D.nx σ' H'
theorem ps_cut {st : Stmt} {t : TS} (h : PS X st t) : PS X st (tCutS t) := by
  refine ⟨fun pins s σ H D I hw => ?_⟩
  obtain ⟨J, h1, h2⟩ := hw
  refine thn (h.run pins s σ H _ I h1) fun f s' q => ?_
  cases f with
  | next => obtain ⟨σ', H', I', q'⟩ := q; exact ⟨σ', H', I', h2 _ _ q'⟩
  | brk => exact q
  | cont => exact q
  | ret u => exact q
def tCutE (t : TE) : TE := fun σ H Q => ∃ J : V → Hp → Prop, t σ H J ∧ ∀ v H', J v H' → Q v H'
theorem pe_cut {e : Expr} {t : TE} (h : PE X e t) : PE X e (tCutE t) := by
  refine ⟨fun pins s σ H Q I hw => ?_⟩
  obtain ⟨J, h1, h2⟩ := hw
  exact thn (h.run pins s σ H _ I h1) fun u s' ⟨v, H', I', r, q'⟩ => ⟨v, H', I', r, h2 _ _ q'⟩
def tCutT (t : TT) : TT := fun σ H Q => ∃ J : Bool → Hp → Prop, t σ H J ∧ ∀ v H', J v H' → Q v H'
theorem pt_cut {e : Expr} {t : TT} (h : PT X e t) : PT X e (tCutT t) := by
  refine ⟨fun pins s σ H Q I hw => ?_⟩
  obtain ⟨J, h1, h2⟩ := hw
  exact thn (h.run pins s σ H _ I h1) fun u s' ⟨H', I', q'⟩ => ⟨H', I', h2 _ _ q'⟩
/-! ### calls by keywords -/
variable {CX : CXT} {k n : Nat} {f C : Addr} {fd : FuncData} {ps ks : List Str} {sp : Sp} {E : XK} {x m : Str} {p pos apos : Pos} {o e : Expr} {es : List Expr} {kws : List Keyword} {ta : TE} {t tk : TA} {g : List Value → List Value → List Value} {gV : List V → List V → List V}
/-- f(k = v, ..) -/
theorem pe_callK0 (F : FnOk X.prog X.w X.K X.mg X.base CX k f fd ps sp) (hr : Room k X.A) (hg : Gl X x) (hm : X.mg x = some (.ref f)) (hk : PySem.W.keepIn X.K (.ref f) = true) (hb : KBn X.K fd ps 0 ks g gV) (hx : Passes CX X E)
    (hkw : PK X kws tk) (hall : (backToKw pos (keywordEach kws X.env)).all (·.1.isSome) = true := by rfl) (hks : (backToKw pos (keywordEach kws X.env)).filterMap (·.1) = ks := by rfl)
    (hdb : (x == ("__debug__" : Str)) = false := by decide) (hpl : ((backTo pos (starEach [] X.env)).any (·.1) || (backToKw pos (keywordEach kws X.env)).any (·.1.isNone)) = false := by rfl) :
    PE X (.Call (.Name x p) [] kws pos) (tCallN 0 ks.length sp gV E tNil tk) := by
  refine ⟨fun pins s σ H Q I h => ?_⟩
  refine wpAny_Call_Name_kw (ld_glob I hg hm ?_ hdb)
  refine PySem.W.callWith_KW0 (h₀ := X.base) I.ok.mod.kin hk hall ?_ hpl
  refine thn (hkw.run pos pins s σ H _ I h) fun ws s2 ⟨zs, H2, I2, rz, l1, l2, q2⟩ => ⟨I2.kIn, ?_⟩
  rw [hks]
  exact run_fnN (us := []) (vs := []) F hr hb hx I2 .nil rz rfl l2 q2
/-- o.m(e, .., k = v, ..) -/
def tMethN (C : Addr) (m : Str) (n l : Nat) (sp : Sp) (gV : List V → List V → List V) (E : XK) (ta : TE) (t tk : TA) : TE := fun σ H Q => ta σ H fun x H1 => ∃ a dx fs, x = .ref a ∧ H1 a = some (.ins C dx fs) ∧ fs.lookup m = none ∧
  t σ H1 fun vs H2 => tk σ H2 fun zs H3 => vs.length = n ∧ zs.length = l ∧ sp (gV (.ref a :: vs) zs) H3 Q E
theorem pe_methK {pl : Sem Bool} (he : PE X o ta) (c : Cls X.K C) (hm : Meth X.K C m f) (F : FnOk X.prog X.w X.K X.mg X.base CX k f fd ps sp) (hr : Room k X.A) (hb : KBn X.K fd ps (n + 1) ks g gV) (hx : Passes CX X E) (ha : PA X (e :: es) t) (hkw : PK X kws tk)
    (hall : (backToKw pos (keywordEach kws X.env)).all (·.1.isSome) = true := by rfl) (hks : (backToKw pos (keywordEach kws X.env)).filterMap (·.1) = ks := by rfl)
    (hst : starEach (e :: es) X.env = (false, eval e X.env) :: starEach es X.env := by rfl)
    (hpl : ((backTo pos (starEach (e :: es) X.env)).any (·.1) || (backToKw pos (keywordEach kws X.env)).any (·.1.isNone)) = false := by rfl)
    (ht : eval (.Call (.Attribute o m apos) (e :: es) kws pos) X.env = (do
      let ov ← eval o X.env
      standAt apos.atName
      let (f, first) ← holding [ov] (getMethod ov m pl)
      callWith pos f first (backTo pos (starEach (e :: es) X.env)) (backToKw pos (keywordEach kws X.env))) := by rfl) :
    PE X (.Call (.Attribute o m apos) (e :: es) kws pos) (tMethN C m n ks.length sp gV E ta t tk) := by
  refine ⟨fun pins s σ H Q I h => ?_⟩
  refine PySem.W.methodCall_KW (pl := pl) (thn (he.run pins s σ H _ I h) fun u s1 ⟨x, H1, I1, rx, a, dx, fs, ex, ea, l, q⟩ => ?_) ht
  subst ex
  obtain rfl : u = Value.ref a := rx
  refine getmeth_ok I1 ea c hm l ?_
  refine PySem.W.callWith_KW (first := [.ref a]) (h₀ := X.base) I.ok.mod.kin hm.kp hall (thn (ha.run pos pins s1 σ H1 _ I1 q) fun us s2 ⟨vs, H2, I2, r, q2⟩ => ?_) hpl hst
  refine thn (hkw.run pos pins s2 σ H2 _ I2 q2) fun ws s3 ⟨zs, H3, I3, rz, l1, l2, q3⟩ => ⟨I3.kIn, ?_⟩
  rw [hks]
  exact run_fnN (us := .ref a :: us) (vs := .ref a :: vs) F hr hb hx I3 (.cons rfl r) rz (congrArg Nat.succ l1) l2 q3
theorem pe_methK0 {pl : Sem Bool} (he : PE X o ta) (c : Cls X.K C) (hm : Meth X.K C m f) (F : FnOk X.prog X.w X.K X.mg X.base CX k f fd ps sp) (hr : Room k X.A) (hb : KBn X.K fd ps 1 ks g gV) (hx : Passes CX X E) (hkw : PK X kws tk)
    (hall : (backToKw pos (keywordEach kws X.env)).all (·.1.isSome) = true := by rfl) (hks : (backToKw pos (keywordEach kws X.env)).filterMap (·.1) = ks := by rfl)
    (hpl : ((backTo pos (starEach [] X.env)).any (·.1) || (backToKw pos (keywordEach kws X.env)).any (·.1.isNone)) = false := by rfl)
    (ht : eval (.Call (.Attribute o m apos) [] kws pos) X.env = (do
      let ov ← eval o X.env
      standAt apos.atName
      let (f, first) ← holding [ov] (getMethod ov m pl)
      callWith pos f first (backTo pos (starEach [] X.env)) (backToKw pos (keywordEach kws X.env))) := by rfl) :
    PE X (.Call (.Attribute o m apos) [] kws pos) (tMethN C m 0 ks.length sp gV E ta tNil tk) := by
  refine ⟨fun pins s σ H Q I h => ?_⟩
  refine PySem.W.methodCall_KW (pl := pl) (thn (he.run pins s σ H _ I h) fun u s1 ⟨x, H1, I1, rx, a, dx, fs, ex, ea, l, q⟩ => ?_) ht
  subst ex
  obtain rfl : u = Value.ref a := rx
  refine getmeth_ok I1 ea c hm l ?_
  refine PySem.W.callWith_KW0 (first := [.ref a]) (h₀ := X.base) I.ok.mod.kin hm.kp hall ?_ hpl
  refine thn (hkw.run pos pins s1 σ H1 _ I1 q) fun ws s3 ⟨zs, H3, I3, rz, l1, l2, q3⟩ => ⟨I3.kIn, ?_⟩
  rw [hks]
  exact run_fnN (us := [.ref a]) (vs := [.ref a]) F hr hb hx I3 (.cons rfl .nil) rz rfl l2 q3
end
theorem kb_none {K : PySem.W.Frag} {x qual : Str} {params : Arguments} {body : List Stmt} {scope : Scope} {kws : List (Str × V)} {f : Addr} {fd : FuncData} {ps : List Str} {n : Nat} {ks : List Str}
    (F : FunD K x qual params body scope [] kws f fd) (g : {α : Type} → List α → List α → List α)
    (hrel : ∀ {vs zs : List V} {us ws : List Value}, Vals vs us → Vals zs ws → Vals (g vs zs) (g us ws))
    (h : ∀ (kV doc pm : Value) (an : Option Addr) (cdv ct : Value) (us ws : List Value), us.length = n → ws.length = ks.length → bindArgs (PySem.W.fnOf x qual params body scope .none kV doc pm an cdv ct) ⟨us, ks.zip ws⟩ = pure (ps.zip (g us ws))) :
    KBn K fd ps n ks (fun us ws => g us ws) (fun vs zs => g vs zs) := by
  obtain ⟨oc, od, dV, kV, doc, pm, an, cdv, ct, osl, rfl, lk, hcd, hD, hK⟩ := F.ex
  rcases hD with ⟨_, rfl⟩ | ⟨e, _⟩
  · exact ⟨fun s us ws X l1 l2 => .of_eq (h kV doc pm an cdv ct us ws l1 l2), fun r1 r2 => hrel r1 r2⟩
  · exact absurd rfl e
/-! ### heaps -/
theorem up1 {H : Hp} {p x : Addr} {o u : HO} (hp : H p = none) (hx : H x = some o) : upd H p u x = some o := by
  rw [upd_ne (ne_of_none hx hp)]; exact hx
theorem same1 {H : Hp} {p : Addr} {u : HO} (hp : H p = none) : Same H (upd H p u) := fun _ _ e => up1 hp e
theorem _root_.L2.Same.sqt {K : PySem.W.Frag} {H H' : Hp} {a : Addr} {xs : List V} (e : Same H H') (h : SqT K H a xs) : SqT K H' a xs := by
  rcases h with (h | ⟨o, h⟩) | h
  · exact .inl (.inl (e _ _ h))
  · exact .inl (.inr ⟨o, e _ _ h⟩)
  · exact .inr h
/-- all stays but what stands at h -/
def Kp (h : Addr) (H H' : Hp) : Prop := ∀ b o, H b = some o → b ≠ h → H' b = some o
theorem Kp.refl (h : Addr) (H : Hp) : Kp h H H := fun _ _ e _ => e
theorem Kp.trans {h : Addr} {H H1 H2 : Hp} (a : Kp h H H1) (b : Kp h H1 H2) : Kp h H H2 := fun c o e n => b c o (a c o e n) n
theorem Kp.same {h : Addr} {H H1 : Hp} (a : Same H H1) : Kp h H H1 := fun c o e _ => a c o e
theorem Kp.up {h p : Addr} {H H1 : Hp} {u : HO} (a : Kp h H H1) (hp : H1 p = none) : Kp h H (upd H1 p u) := fun c o e n => up1 hp (a c o e n)
theorem Kp.set {h : Addr} {H H1 : Hp} {u : HO} (a : Kp h H H1) : Kp h H (upd H1 h u) := fun c o e n => by
  rw [upd_ne n]; exact a c o e n
/-- a list other than that at h, the script among them -/
theorem Kp.seq {K : PySem.W.Frag} {h a : Addr} {H H1 : Hp} {xs : List V} (k : Kp h H H1) (n : a ≠ h) (s : SqL K H a xs) : SqL K H1 a xs := by
  rcases s with (s | ⟨o, s⟩) | s
  · exact .inl (.inl (k _ _ s n))
  · exact .inl (.inr ⟨o, k _ _ s n⟩)
  · exact .inr s
/-! ### the hand: a list of three ints, drawn from -/
def HandAt (H : Hp) (h : Addr) (n : Nat) : Prop := ∃ a b c : Int, H h = some (.lst [.int a, .int b, .int c]) ∧ 0 ≤ a ∧ 0 ≤ b ∧ b < 4611686018427387904 ∧ 0 ≤ c ∧ c ≤ n
theorem HandAt.mono {H : Hp} {h : Addr} {n m : Nat} (a : HandAt H h n) (l : n ≤ m) : HandAt H h m := by
  obtain ⟨x, y, z, h1, h2, h3, h4, h5, h6⟩ := a
  exact ⟨x, y, z, h1, h2, h3, h4, h5, by omega⟩
theorem HandAt.same {H H' : Hp} {h : Addr} {n : Nat} (a : HandAt H h n) (s : Same H H') : HandAt H' h n := by
  obtain ⟨x, y, z, h1, h2⟩ := a
  exact ⟨x, y, z, s _ _ h1, h2⟩
theorem HandAt.up {H : Hp} {h p : Addr} {u : HO} {n : Nat} (a : HandAt H h n) (hp : H p = none) : HandAt (upd H p u) h n := a.same (same1 hp)
theorem HandAt.ne {H : Hp} {h p : Addr} {n : Nat} (a : HandAt H h n) (hp : H p = none) : p ≠ h := by
  obtain ⟨x, y, z, h1, _⟩ := a
  exact (ne_of_none h1 hp).symm
def notHand : HO → Bool
  | .lst _ => false
  | _ => true
theorem HandAt.apart {H : Hp} {h p : Addr} {o : HO} {n : Nat} (a : HandAt H h n) (hp : H p = some o) (ho : notHand o = true) : p ≠ h := by
  obtain ⟨x, y, z, h1, _⟩ := a
  exact ne_of hp h1 (by intro e; rw [e] at ho; cases ho)
def sp_take : Sp := fun vs H Q _ => ∃ (h : Addr) (n : Nat) (m : Int), vs = [.ref h, .int m] ∧ HandAt H h n ∧ n < 1000000 ∧ 0 < m ∧ m.natAbs.log2 < 9000 ∧
  ∀ (d : Int) (H' : Hp), 0 ≤ d → d < m → HandAt H' h (n + 1) → Kp h H H' → Q (.int d) H'
def sp_hand (K : PySem.W.Frag) : Sp := fun vs H Q _ => ∃ (a : Addr) (ns : List Int) (k : Nat), vs = [.ref a, .int k] ∧ SqL K H a (ns.map V.int) ∧ k ≤ 1000 ∧
  ∀ (p : Addr) (H' : Hp), H p = none → Same H H' → HandAt H' p 0 → Q (.ref p) H'
/-! ### numbers -/
abbrev Sz (k : Nat) (z : Int) : Prop := z.natAbs < 2 ^ k
theorem Sz.mono {a b : Nat} {z : Int} (h : Sz a z) (l : a ≤ b) : Sz b z := Nat.lt_of_lt_of_le h (Nat.pow_le_pow_right (by decide) l)
theorem Sz.mul {a b : Nat} {x y : Int} (h : Sz a x) (g : Sz b y) : Sz (a + b) (x * y) := wide_lt h g
theorem Sz.neg {a : Nat} {x : Int} (h : Sz a x) : Sz a (-x) := by
  show (-x).natAbs < 2 ^ a
  rw [Int.natAbs_neg]; exact h
theorem Sz.add {a : Nat} {x y : Int} (h : Sz a x) (g : Sz a y) : Sz (a + 1) (x + y) := by
  show (x + y).natAbs < 2 ^ (a + 1)
  have h1 : x.natAbs < 2 ^ a := h
  have h2 : y.natAbs < 2 ^ a := g
  rw [Nat.pow_succ]; omega
theorem Sz.sub {a : Nat} {x y : Int} (h : Sz a x) (g : Sz a y) : Sz (a + 1) (x - y) := by
  show (x - y).natAbs < 2 ^ (a + 1)
  have h1 : x.natAbs < 2 ^ a := h
  have h2 : y.natAbs < 2 ^ a := g
  rw [Nat.pow_succ]; omega
theorem Sz.le {a : Nat} {x y : Int} (h : Sz a x) (l : y.natAbs ≤ x.natAbs) : Sz a y := Nat.lt_of_le_of_lt l h
theorem Sz.cmul {a b : Nat} {x y : Int} (h : Sz a x) (g : Sz b y) (h0 : 0 < a) (h1 : 0 < b) (l : a + b ≤ 1000000) : CMul x y ∨ CMulW x y := .inr (wide_mul h g h0 h1 l)
theorem Sz.log {a : Nat} {x : Int} (h : Sz a x) (h0 : 0 < a) (l : a ≤ 9000) : x.natAbs.log2 < 9000 := Nat.lt_of_lt_of_le (PySem.Flt.log2_lt_of h0 h) l
theorem dI {i j : Int} : decide (V.int i = V.int j) = decide (i = j) := by
  rw [dec_int, Bool.beq_eq_decide_eq]
/-- t / u is a / b in lowest terms -/
structure Fr (t u a b : Int) : Prop where
  pos : 0 < u
  eq : t * b = a * u
  co : Int.gcd t u = 1
  lt : t.natAbs ≤ a.natAbs
  lu : u.natAbs ≤ b.natAbs
def sgn (b : Int) : Int := if 0 < b then 1 else -1
theorem gcd_step {g s : Int} (hs : 0 < s) (hg : 0 ≤ g) : Int.gcd s (g % s) = Int.gcd g s := by
  obtain ⟨m, rfl⟩ := Int.eq_ofNat_of_zero_le hg
  obtain ⟨n, rfl⟩ := Int.eq_ofNat_of_zero_le (Int.le_of_lt hs)
  show Nat.gcd n (m % n) = Nat.gcd m n
  rw [Nat.gcd_comm m n, Nat.gcd_comm n (m % n), ← Nat.gcd_rec]
theorem fr_mk {a b c : Int} (hb : b ≠ 0) (hc : c = sgn b * (Int.gcd a b : Int)) : c ≠ 0 ∧ c.natAbs ≤ b.natAbs ∧ Fr (a.fdiv c) (b.fdiv c) a b := by
  have g0 : 0 < Int.gcd a b := Int.gcd_pos_of_ne_zero_right a hb
  have gd : (Int.gcd a b : Int) ∣ a := Int.gcd_dvd_left ..
  have gb : (Int.gcd a b : Int) ∣ b := Int.gcd_dvd_right ..
  have hs : sgn b = 1 ∨ sgn b = -1 := by unfold sgn; split <;> simp
  have cd : c ∣ a := by
    rcases hs with e | e <;> rw [hc, e]
    · rw [Int.one_mul]; exact gd
    · rw [Int.neg_one_mul]; exact (Int.neg_dvd).mpr gd
  have cb : c ∣ b := by
    rcases hs with e | e <;> rw [hc, e]
    · rw [Int.one_mul]; exact gb
    · rw [Int.neg_one_mul]; exact (Int.neg_dvd).mpr gb
  have cn : c.natAbs = Int.gcd a b := by
    rcases hs with e | e <;> rw [hc, e]
    · rw [Int.one_mul, Int.natAbs_natCast]
    · rw [Int.neg_one_mul, Int.natAbs_neg, Int.natAbs_natCast]
  have c0 : c ≠ 0 := by
    intro e; rw [e] at cn; simp at cn; omega
  have ta : a.fdiv c * c = a := Int.fdiv_mul_cancel cd
  have tb : b.fdiv c * c = b := Int.fdiv_mul_cancel cb
  have c1 : 1 ≤ c.natAbs := by omega
  have na : a.natAbs = (a.fdiv c).natAbs * c.natAbs := by rw [← Int.natAbs_mul, ta]
  have nb : b.natAbs = (b.fdiv c).natAbs * c.natAbs := by rw [← Int.natAbs_mul, tb]
  refine ⟨c0, ?_, ?_, ?_, ?_, ?_, ?_⟩
  · rw [cn]
    exact Nat.le_of_dvd (by omega) (Int.gcd_dvd_natAbs_right a b)
  · rcases Int.lt_trichotomy b 0 with h | h | h
    · have e : sgn b = -1 := by unfold sgn; rw [if_neg (by omega)]
      have cneg : c < 0 := by rw [hc, e]; omega
      rcases Int.lt_or_le 0 (b.fdiv c) with z | z
      · exact z
      · have : 0 ≤ b.fdiv c * c := Int.mul_nonneg_of_nonpos_of_nonpos z (by omega)
        omega
    · exact absurd h hb
    · have e : sgn b = 1 := by unfold sgn; rw [if_pos h]
      have cpos : 0 < c := by rw [hc, e]; omega
      rcases Int.lt_or_le 0 (b.fdiv c) with z | z
      · exact z
      · have : b.fdiv c * c ≤ 0 := Int.mul_nonpos_of_nonpos_of_nonneg z (by omega)
        omega
  · have : a.fdiv c * (b.fdiv c * c) = a.fdiv c * c * b.fdiv c := by
      rw [Int.mul_assoc, Int.mul_comm c]
    rw [tb, ta] at this
    exact this
  · have e : Int.gcd a b = Int.gcd (a.fdiv c) (b.fdiv c) * c.natAbs := by
      have := Int.gcd_mul_right (a.fdiv c) c (b.fdiv c)
      rw [ta, tb] at this
      exact this
    rw [← cn] at e
    have e2 : 1 * c.natAbs = Int.gcd (a.fdiv c) (b.fdiv c) * c.natAbs := by rw [Nat.one_mul]; exact e
    exact (Nat.eq_of_mul_eq_mul_right (by omega) e2).symm
  · rw [na]; exact Nat.le_mul_of_pos_right _ (by omega)
  · rw [nb]; exact Nat.le_mul_of_pos_right _ (by omega)
/-! ### a Measure -/
def mf (t u : Int) : List (Str × V) := [("top", .int t), ("bottom", .int u)]
theorem ne_tb : ¬ (("top" : Str) = "bottom") := by decide +kernel
theorem mf_put (t u : Int) : putF "bottom" (.int u) (putF "top" (.int t) []) = mf t u := by
  show (if ("top" : Str) = "bottom" then [(("top" : Str), V.int u)] else (("top" : Str), V.int t) :: putF "bottom" (V.int u) []) = mf t u
  rw [if_neg ne_tb] <;> rfl
theorem mf_top (t u : Int) : (mf t u).lookup ("top" : Str) = some (.int t) := by
  rw [← mf_put, lookup_putF, if_neg ne_tb, lookup_putF, if_pos rfl]
theorem mf_bottom (t u : Int) : (mf t u).lookup ("bottom" : Str) = some (.int u) := by
  rw [← mf_put, lookup_putF, if_pos rfl]
theorem mf_no (t u : Int) {m : Str} (h1 : ¬ m = "top") (h2 : ¬ m = "bottom") : (mf t u).lookup m = none := by
  rw [← mf_put, lookup_putF, if_neg h2, lookup_putF, if_neg h1] <;> rfl
def MAt (C : Addr) (H : Hp) (p : Addr) (t u : Int) : Prop := ∃ dx, H p = some (.ins C dx (mf t u))
theorem MAt.same {C p : Addr} {H H' : Hp} {t u : Int} (m : MAt C H p t u) (s : Same H H') : MAt C H' p t u := by
  obtain ⟨dx, h⟩ := m; exact ⟨dx, s _ _ h⟩
theorem MAt.kp {C p h : Addr} {H H' : Hp} {t u : Int} {n : Nat} (m : MAt C H p t u) (hh : HandAt H h n) (s : Kp h H H') : MAt C H' p t u := by
  obtain ⟨dx, e⟩ := m; exact ⟨dx, s _ _ e (hh.apart e rfl)⟩
def sp_minit (C : Addr) : Sp := fun vs H Q _ => ∃ (p dx : Addr) (a b : Int), vs = [.ref p, .int a, .int b] ∧ H p = some (.ins C dx []) ∧ b ≠ 0 ∧ b.natAbs.log2 < 9000 ∧
  ∀ (t u : Int) (H' : Hp), Fr t u a b → H' p = some (.ins C dx (mf t u)) → (∀ c o, H c = some o → c ≠ p → H' c = some o) → Q .non H'
theorem made {C : Addr} {H : Hp} {Q : VK} {E : XK} {a b : Int} (hb : b ≠ 0) (hl : b.natAbs.log2 < 9000) (k : ∀ (p : Addr) (t u : Int) (H' : Hp), H p = none → Same H H' → MAt C H' p t u → Fr t u a b → Q (.ref p) H') :
    ∀ x dx, H x = none → H dx = none → dx ≠ x → sp_minit C [.ref x, .int a, .int b] (upd (upd H dx (.own x)) x (.ins C dx [])) (fun v H2 => v = .non ∧ Q (.ref x) H2) E := by
  intro x dx nx nd ne
  refine ⟨x, dx, a, b, rfl, upd_same, hb, hl, fun t u H' fr hx kp => ⟨rfl, ?_⟩⟩
  refine k x t u H' nx (fun c o e => ?_) ⟨dx, hx⟩ fr
  have n1 : c ≠ x := ne_of_none e nx
  refine kp c o ?_ n1
  rw [upd_ne n1]
  exact up1 nd e
def sp_whole : Sp := fun vs H Q _ => ∃ n : Int, vs = [.int n] ∧ Q (.bl true) H
def sp_common : Sp := fun vs H Q _ => ∃ a b : Int, vs = [.int a, .int b] ∧ Q (.int (Int.gcd a b : Int)) H
def lessA (t u t' u' : Int) (al : Bool) : Bool := decide (t * u' < t' * u) || (al && decide (t * u' = t' * u))
def sp_below (C : Addr) : Sp := fun vs H Q _ => ∃ (p q : Addr) (t u t' u' : Int) (al : Bool), vs = [.ref p, .ref q, .bl al] ∧ MAt C H p t u ∧ MAt C H q t' u' ∧ Sz 9000 t ∧ Sz 9000 u ∧ Sz 9000 t' ∧ Sz 9000 u' ∧ Q (.bl (lessA t u t' u' al)) H
/-- a comprehension over a list whose elements are reckoned without a change of what stands -/
theorem lcs {K : PySem.W.Frag} {a : Addr} {xs : List V} {g : TG} {tt : TT} {te : TE} {vs : List Nat} {σ : L2.St} {H1 : Hp} {D : Addr} {Qd : Hp → Prop} (ys : List V) (hlen : ys.length = xs.length) (hz : ys.length < sizeLine) (hS : SqL K H1 a xs) (hD : H1 D = none)
    (hs : ∀ (i : Nat) (x y : V) (H : Hp) (N : VK) (M : Hp → Prop), xs[i]? = some x → ys[i]? = some y → Same H1 H → (∀ H4, Same H H4 → N y H4) → g x (wipe σ vs) H fun σ2 H2 => wipe σ2 vs = wipe σ vs ∧ tt σ2 H2 fun b H3 => if b = true then te σ2 H3 N else M H3)
    (hd : ∀ H, Same H1 H → H D = some (.lst ys) → Qd H) :
    ∃ W : Nat → Nat → Hp → Prop, (∃ m, W 0 m (upd H1 D (.lst []))) ∧ ∀ i m H, W i m H →
      ((Itl K a).stop i H ∧ Qd H) ∨ ((Itl K a).go i H ∧ ∃ Nx : Hp → Prop, (∀ H', Nx H' → ∃ m', m' < m ∧ W (i + 1) m' H') ∧ ∀ x H', (Itl K a).yld i H x H' → g x (wipe σ vs) H' fun σ2 H2 => wipe σ2 vs = wipe σ vs ∧ tt σ2 H2 fun b H3 =>
        if b = true then te σ2 H3 fun y H4 => ∃ acc, H4 D = some (.lst acc) ∧ acc.length < sizeLine ∧ Nx (upd H4 D (.lst (acc ++ [y]))) else Nx H3) := by
  refine lc_list (fun i H => Same H1 H ∧ H D = some (.lst (ys.take i))) ⟨same1 hD, upd_same⟩ (fun i H _ p => p.1.seq hS) (fun i x H hx p => ?_) (fun H p => hd H p.1 ?_)
  · have hi : i < ys.length := by rw [hlen]; exact (List.getElem?_eq_some_iff.mp hx).1
    refine hs i x ys[i] H _ _ hx (List.getElem?_eq_getElem hi) p.1 fun H4 s4 => ⟨_, s4 _ _ p.2, ?_, ?_, ?_⟩
    · rw [List.length_take]; omega
    · intro c o e
      rw [upd_ne (ne_of_none e hD)]
      exact s4 _ _ (p.1 _ _ e)
    · rw [upd_same, List.take_add_one, List.getElem?_eq_getElem hi]
      rfl
  · have e := p.2
    rw [← hlen, List.take_length] at e
    exact e
theorem Kp.get {h q : Addr} {H H' : Hp} {o : HO} {n : Nat} (k : Kp h H H') (hh : HandAt H h n) (e : H q = some o) (no : notHand o = true) : H' q = some o := k _ _ e (hh.apart e no)
theorem _root_.L2.Same.get {q : Addr} {H H' : Hp} {o : HO} (k : Same H H') (e : H q = some o) : H' q = some o := k _ _ e
theorem _root_.L2.Same.ofKp {h : Addr} {H H1 H2 : Hp} (s : Same H H1) (nh : H h = none) (k : Kp h H1 H2) : Same H H2 := fun c o e => k c o (s c o e) (ne_of_none e nh)
theorem _root_.L2.Same.up {p : Addr} {H H1 : Hp} {u : HO} (s : Same H H1) (hp : H1 p = none) : Same H (upd H1 p u) := s.trans (same1 hp)
theorem dp_bls {K : PySem.W.Frag} {H : Hp} : ∀ bs : List Bool, DpAll K H (bs.map V.bl) (bs.map PyData.bool)
  | [] => .nil
  | b :: r => .cons (.bl b) (dp_bls r)
theorem isTrueN {b : Bool} (h : ¬ b = true) : b = false := by cases b <;> simp_all
theorem sgn_cases (b : Int) : sgn b = 1 ∨ sgn b = -1 := by unfold sgn; split <;> simp
/-- the order of two fractions by their own numbers and by any others -/
theorem below_iff {t u a b t' u' c d : Int} (f : Fr t u a b) (g : Fr t' u' c d) (hb : b ≠ 0) (hd : d ≠ 0) : (a * d * (sgn b * sgn d) < c * b * (sgn b * sgn d)) ↔ t * u' < t' * u := by
  have hu := f.pos
  have hu' := g.pos
  have e1 := f.eq
  have e2 := g.eq
  have sb : 0 < b * sgn b := by
    unfold sgn; split
    · omega
    · rename_i h; rw [Int.mul_neg_one]; omega
  have sd : 0 < d * sgn d := by
    unfold sgn; split
    · omega
    · rename_i h; rw [Int.mul_neg_one]; omega
  have p1 : a * d * (sgn b * sgn d) * (u * u') = (t * u') * ((b * sgn b) * (d * sgn d)) := by
    have : a * d * (sgn b * sgn d) * (u * u') = (a * u) * u' * (d * sgn d) * sgn b := by
      simp only [Int.mul_assoc, Int.mul_comm, Int.mul_left_comm]
    rw [this, ← e1]
    simp only [Int.mul_assoc, Int.mul_comm, Int.mul_left_comm]
  have p2 : c * b * (sgn b * sgn d) * (u * u') = (t' * u) * ((b * sgn b) * (d * sgn d)) := by
    have : c * b * (sgn b * sgn d) * (u * u') = (c * u') * u * (b * sgn b) * sgn d := by
      simp only [Int.mul_assoc, Int.mul_comm, Int.mul_left_comm]
    rw [this, ← e2]
    simp only [Int.mul_assoc, Int.mul_comm, Int.mul_left_comm]
  have q : 0 < u * u' := Int.mul_pos hu hu'
  have r : 0 < (b * sgn b) * (d * sgn d) := Int.mul_pos sb sd
  constructor
  · intro h
    have := Int.mul_lt_mul_of_pos_right h q
    rw [p1, p2] at this
    exact Int.lt_of_mul_lt_mul_right this (Int.le_of_lt r)
  · intro h
    have := Int.mul_lt_mul_of_pos_right h r
    rw [← p1, ← p2] at this
    exact Int.lt_of_mul_lt_mul_right this (Int.le_of_lt q)
/-! ### rules with the written part by its name (for the blocks of comprehensions) -/
section
variable {X : Cx} {K : PySem.W.Frag}
theorem ixl (hK : X.K = K := by rfl) : IxR X (rIxL K) := by subst hK; exact ix_list
theorem ixt (hK : X.K = K := by rfl) : IxR X (rIxT K) := by subst hK; exact ix_tup
theorem isi (hK : X.K = K := by rfl) : CallR X (.builtin "isinstance") (rIsi K) := by subst hK; exact call_isi
theorem isiT (hK : X.K = K := by rfl) : CallR X (.builtin "isinstance") (rIsiT K) := by subst hK; exact call_isiT
def rLenS (K : PySem.W.Frag) : List V → Hp → VK → Prop := fun xs H Q => ∃ p ys, xs = [.ref p] ∧ (SqL K H p ys ∨ SqT K H p ys) ∧ Q (.int (ys.length : Int)) H
theorem lenS (hK : X.K = K := by rfl) : CallR X (.builtin "len") (rLenS K) := by subst hK; exact call_len_seq
theorem allK (hK : X.K = K := by rfl) (hc : X.calm = true := by rfl) : CallR X (.builtin "all") (rAll K) := by subst hK; exact cr_all hc
theorem anyK (hK : X.K = K := by rfl) (hc : X.calm = true := by rfl) : CallR X (.builtin "any") (rAny K) := by subst hK; exact cr_any hc
theorem eqDK (hu : X.A.units + 64 < cLine) (hK : X.K = K := by rfl) : OpR X (compareOp .Eq) (rEqD K) := by subst hK; exact op_eqD hu
theorem neDK (hu : X.A.units + 64 < cLine) (hK : X.K = K := by rfl) : OpR X (compareOp .NotEq) (rNeD K) := by subst hK; exact op_neD hu
theorem inK (hK : X.K = K := by rfl) : OpR X (compareOp .In) (rIn K false) := by subst hK; exact op_in_seq
theorem notInK (hK : X.K = K := by rfl) : OpR X (compareOp .NotIn) (rIn K true) := by subst hK; exact op_notIn_seq
theorem slL (hK : X.K = K := by rfl) : SlR X (rSlL K) := by subst hK; exact sl_list
theorem slT (hK : X.K = K := by rfl) : SlR X (rSlT K) := by subst hK; exact sl_tup
theorem catT (hK : X.K = K := by rfl) : OpR X (binaryOp .Add) (rCatT K) := by subst hK; exact op_catT
theorem fldK {e : Expr} {f : Str} {pos : Pos} {ta : TE} (he : PE X e ta) (hb : attributeBase e f X.env (eval e X.env) = eval e X.env) (hK : X.K = K := by rfl) : PE X (.Attribute e f pos) (tFld K ta f) := by subst hK; exact pe_fld he hb
end
theorem yesT {te : TE} {σ : L2.St} {H : Hp} {N : VK} {M : Hp → Prop} (h : te σ H N) : tYes σ H (fun b H3 => if b = true then te σ H3 N else M H3) := by
  show (if true = true then te σ H N else M H)
  rw [if_pos rfl]; exact h
theorem made_same {H H' : Hp} {x dx C : Addr} (nx : H x = none) (nd : H dx = none) (kp : ∀ c o, (upd (upd H dx (.own x)) x (.ins C dx [])) c = some o → c ≠ x → H' c = some o) : Same H H' := fun c o e => by
  have n1 : c ≠ x := ne_of_none e nx
  refine kp c o ?_ n1
  rw [upd_ne n1]
  exact up1 nd e
/-! ### the head's facts, and more of them -/
def obsM (n : Nat) (fa : List He.Fa) (fn : List He.DefD) (ex : List (PySem.W.Frag → Bool)) (g : Addr → Option Obj) : He.AlD × Bool := (He.obsDG n fa fn g, ex.all fun f => f (He.frG g (He.asD g n)))
def hookM (n : Nat) (fa : List He.Fa) (fn : List He.DefD) (ex : List (PySem.W.Frag → Bool)) : PySem.W.Hook where
  α := He.AlD × Bool
  obs := fun s => obsM n fa fn ex s.heap.get?
  val := fun _ => (He.valD fn, true)
  says := fun _ h => ∃ K : PySem.W.Frag, K.In h ∧ He.SaysD fa fn K ∧ (ex.all fun f => f K) = true
  of := fun _ _ e => ⟨_, He.frG_in, congrArg (fun z : He.AlD × Bool => z.1) e, congrArg (fun z : He.AlD × Bool => z.2) e⟩
  keeps := fun _ _ _ ⟨K, hK, c⟩ k => ⟨K, PySem.W.Frag.In.keeps hK k, c⟩
theorem obsM_eq {n : Nat} {fa : List He.Fa} {fn : List He.DefD} {ex : List (PySem.W.Frag → Bool)} {g : Addr → Option Obj} {s : Shared} (h : ∀ a, g a = s.heap.get? a) : obsM n fa fn ex g = (hookM n fa fn ex).obs s := by
  have e : g = s.heap.get? := funext h
  rw [e] <;> rfl
theorem ex_at {ex : List (PySem.W.Frag → Bool)} {K : PySem.W.Frag} (c : (ex.all fun f => f K) = true) (i : Nat) {f : PySem.W.Frag → Bool} (h : ex[i]? = some f) : f K = true := List.all_eq_true.mp c f (List.mem_of_getElem? h)
/-- what isinstance asks of an own class -/
structure IsC (K : PySem.W.Frag) (C : Addr) : Prop where
  ha : PySem.W.findIn K (.ref C) "__class__" = some (some (.builtin "object.__class__"))
  hn : PySem.W.specialIn K (.builtin "object.__class__") "__get__" = some (some (.builtin "getset_descriptor.__get__"))
  htk : PySem.W.takesIn K (.builtin "object.__class__") = some true
  hm : PySem.W.mroIn K C (.type "object") = some true
def isCB (x : Str) : PySem.W.Frag → Bool := fun K => He.eqO (PySem.W.findIn K (.ref (He.ga K x)) "__class__") (some (some (.builtin "object.__class__"))) && (He.eqO (PySem.W.specialIn K (.builtin "object.__class__") "__get__") (some (some (.builtin "getset_descriptor.__get__"))) &&
  (decide (PySem.W.takesIn K (.builtin "object.__class__") = some true) && decide (PySem.W.mroIn K (He.ga K x) (.type "object") = some true)))
theorem isC_ok {x : Str} {K : PySem.W.Frag} (c : isCB x K = true) : IsC K (He.ga K x) := by
  obtain ⟨c1, c⟩ := He.ba c
  obtain ⟨c2, c⟩ := He.ba c
  obtain ⟨c3, c4⟩ := He.ba c
  exact ⟨He.eqO_ok c1, He.eqO_ok c2, of_decide_eq_true c3, of_decide_eq_true c4⟩
/-- a class by name: an own one, a built-in one -/
def cv (K : PySem.W.Frag) : Str ⊕ String → Value
  | .inl x => .ref (He.ga K x)
  | .inr n => .type n
def kitF (a b : Str ⊕ String) (r : Bool) : PySem.W.Frag → Bool := fun K => decide (PySem.W.kitOne K (cv K a) (cv K b) = some r)
theorem kitF_ok {a b : Str ⊕ String} {r : Bool} {K : PySem.W.Frag} (c : kitF a b r K = true) : PySem.W.kitOne K (cv K a) (cv K b) = some r := of_decide_eq_true c
theorem tyM {K : PySem.W.Frag} {H : Hp} {a C dx : Addr} {fs : List (Str × V)} (e : H a = some (.ins C dx fs)) (cl : Cls K C) (i : IsC K C) : TyX K H (.ref a) (.ref C) := .base (.ins e cl i.ha i.hn i.htk i.hm)
/-! ### sums and parts of Measures -/
def sp_bin (C : Addr) (f g : Int → Int → Int → Int → Int) : Sp := fun vs H Q _ => ∃ (p q : Addr) (t u t' u' : Int), vs = [.ref p, .ref q] ∧ MAt C H p t u ∧ MAt C H q t' u' ∧ 0 < u ∧ 0 < u' ∧ Sz 100000 t ∧ Sz 4400 u ∧ Sz 100000 t' ∧ Sz 4400 u' ∧
  ∀ (r : Addr) (t2 u2 : Int) (H' : Hp), H r = none → Same H H' → MAt C H' r t2 u2 → Fr t2 u2 (f t u t' u') (g t u t' u') → Q (.ref r) H'
def sp_part (C : Addr) : Sp := fun vs H Q _ => ∃ (p : Addr) (t u m : Int), vs = [.ref p, .int m] ∧ MAt C H p t u ∧ 0 < u ∧ m ≠ 0 ∧ Sz 100000 t ∧ Sz 4400 u ∧ Sz 4400 m ∧
  ∀ (r : Addr) (t2 u2 : Int) (H' : Hp), H r = none → Same H H' → MAt C H' r t2 u2 → Fr t2 u2 t (u * m) → Q (.ref r) H'
/-- the same fraction once more -/
theorem Fr.of {t u a b c d : Int} (f : Fr t u a b) (hb : b ≠ 0) (e : a * d = c * b) : t * d = c * u := by
  have h1 := f.eq
  have h2 : (t * d) * b = (c * u) * b := by
    calc (t * d) * b = (t * b) * d := by simp only [Int.mul_assoc, Int.mul_comm, Int.mul_left_comm]
      _ = (a * u) * d := by rw [h1]
      _ = (a * d) * u := by simp only [Int.mul_assoc, Int.mul_comm, Int.mul_left_comm]
      _ = (c * b) * u := by rw [e]
      _ = (c * u) * b := by simp only [Int.mul_assoc, Int.mul_comm, Int.mul_left_comm]
  exact Int.eq_of_mul_eq_mul_right hb h2
/-- what stood at the start stands (by another name than the steps') -/
structure Old (H H' : Hp) : Prop where
  s : Same H H'
theorem Old.refl (H : Hp) : Old H H := ⟨Same.refl _⟩
theorem Old.up {p : Addr} {H H1 : Hp} {u : HO} (a : Old H H1) (hp : H1 p = none) : Old H (upd H1 p u) := ⟨a.s.up hp⟩
theorem Old.then {H H1 H2 : Hp} (a : Old H H1) (b : Same H1 H2) : Old H H2 := ⟨a.s.trans b⟩
theorem Old.kp {h : Addr} {H H1 H2 : Hp} (a : Old H H1) (nh : H h = none) (k : Kp h H1 H2) : Old H H2 := ⟨a.s.ofKp nh k⟩
theorem Old.put {h : Addr} {H H1 : Hp} {u : HO} (a : Old H H1) (nh : H h = none) : Old H (upd H1 h u) := ⟨fun c o e => by rw [upd_ne (ne_of_none e nh)]; exact a.s _ _ e⟩
/-- a list is changed, what is no list stays -/
theorem up2 {H : Hp} {l x : Addr} {xs : List V} {o u : HO} (hl : H l = some (.lst xs)) (hx : H x = some o) (no : notHand o = true) : upd H l u x = some o := by
  rw [upd_ne (ne_of hx hl (by intro e; rw [e] at no; cases no))]; exact hx
/-- what _law_is asks of a Measure -/
structure Good (t u a b : Int) : Prop where
  pos : 0 < u
  co : Int.gcd t u = 1
  eq : t * b = a * u
  st : Sz 100000 t
  su : Sz 100000 u
  sa : Sz 100000 a
  sb : Sz 100000 b
def sp_is (C : Addr) : Sp := fun vs H Q _ => ∃ (r : Addr) (t u a b : Int), vs = [.ref r, .int a, .int b] ∧ MAt C H r t u ∧ Good t u a b ∧ Q (.bl true) H
def sp_gcd : Sp := fun vs H Q _ => ∃ a b : Int, vs = [.int a, .int b] ∧ 0 ≤ a ∧ 0 ≤ b ∧ Q (.int (Int.gcd a b : Int)) H
end My
namespace My
open PySem PySem.Spec PyProof.Rows L2
/-! ### errors -/
section
variable {P : Program} {w : World} {K : PySem.W.Frag} {mg : Str → Option Value} {base : Heap} {k : Nat} {f : Addr} {fd : FuncData} {ps : List Str}
/-- a def that lets nothing out keeps its promise where more may be let out -/
theorem lift {CX : CXT} {sp : Sp} (F : FnOk P w K mg base CX0 k f fd ps sp) : FnOk P w K mg base CX k f fd ps sp :=
  ⟨F.len, fun A outer s H args us vs Q E hr he hb hv hs => codeAny_mono (F.run A outer s H args us vs Q E hr he hb hv hs) fun r s' hq => by
    cases r with
    | error e => exact False.elim hq
    | ok fl => cases fl <;> exact hq⟩
theorem either {CX : CXT} {sp sp' : Sp} (F : FnOk P w K mg base CX k f fd ps sp) (G : FnOk P w K mg base CX k f fd ps sp') : FnOk P w K mg base CX k f fd ps (fun vs H Q E => sp vs H Q E ∨ sp' vs H Q E) :=
  ⟨fun vs H Q E h => h.elim (F.len vs H Q E) (G.len vs H Q E), fun A outer s H args us vs Q E hr he hb hv hs => hs.elim (F.run A outer s H args us vs Q E hr he hb hv) (G.run A outer s H args us vs Q E hr he hb hv)⟩
end
section
variable {X : Cx} {CX : CXT} {k : Nat} {f C : Addr} {fd : FuncData} {ps : List Str} {sp : Sp} {dvs : List V} {ds : List Value} {x : Str} {p pos : Pos} {e : Expr} {es : List Expr} {t : TA} {E : L2.St → XK}
/-- C(e, ..) in a body from which an error may come -/
def tMakeS (C : Addr) (sp : Sp) (dvs : List V) (E : L2.St → XK) (t : TA) : TE := fun σ H Q => t σ H fun vs H1 => ∀ x dx, H1 x = none → H1 dx = none → dx ≠ x →
  sp (.ref x :: (vs ++ dvs)) (upd (upd H1 dx (.own x)) x (.ins C dx [])) (fun v H2 => v = .non ∧ Q (.ref x) H2) (E σ)
theorem pe_makeS (M : Mk X.K C f) (F : FnOk X.prog X.w X.K X.mg X.base CX k f fd ps sp) (hr : Room (k + 1) X.A) (hg : Gl X x) (hm : X.mg x = some (.ref C)) (hb : Binds X.K fd ps ds) (hd : Vals dvs ds) (hx : ∀ σ, PassesAt CX X σ (E σ))
    (ha : PA X (e :: es) t) (hdb : (x == ("__debug__" : Str)) = false := by decide) (he : starEach (e :: es) X.env = (false, eval e X.env) :: starEach es X.env := by rfl) (hpl : (backTo pos (starEach es X.env)).any (·.1) = false := by rfl) :
    PE X (.Call (.Name x p) (e :: es) [] pos) (tMakeS C sp dvs E t) := by
  refine ⟨fun pins s0 σ H0 Q I0 h => ?_⟩
  refine wpAny_Call_Name_kw (ld_glob I0 hg hm ?_ hdb)
  refine PySem.W.callWith_K (h₀ := X.base) I0.ok.mod.kin M.kp (thn (ha.run pos pins s0 σ H0 _ I0 h) fun us s ⟨vs, H, I, r, q⟩ => ⟨I.kIn, ?_⟩) he hpl
  have hq := q (s.heap.objs.size + 1) s.heap.objs.size (I.hok.fresh (Nat.le_succ _)) (I.hok.fresh (Nat.le_refl _)) (Nat.ne_of_lt (Nat.lt_succ_self _))
  have I2 := Inv.made (C := C) I
  have r2 : Vals (V.ref (s.heap.objs.size + 1) :: (vs ++ dvs)) (Value.ref (s.heap.objs.size + 1) :: (us ++ ds)) := .cons rfl (r.append hd)
  have hl : (Value.ref (s.heap.objs.size + 1) :: us ++ ds).length = ps.length := by
    have z := r2.length
    rw [F.len _ _ _ _ hq] at z
    exact z.symm
  refine wpAny_call (make_map (f := f) I.kIn M.makes M.init (beq_iff_eq.mp M.fn) (codeAny_mono (F.run _ X.stack _ _ ⟨Value.ref (s.heap.objs.size + 1) :: us, []⟩ (Value.ref (s.heap.objs.size + 1) :: (us ++ ds)) _ _ (E σ) (hr.make C us [])
    (I2.env0.make C us []) (hb _ (Value.ref (s.heap.objs.size + 1) :: us) I2.kIn hl) r2 hq) fun r s' hq' => ?_))
  cases r with
  | error e => exact hx σ pins _ _ e s' I2 hq'
  | ok fl =>
    cases fl with
    | ret u =>
      obtain ⟨v, H', I3, rv, ev, q3⟩ := I2.after hq'
      subst ev
      exact ⟨rv, ⟨V.ref (s.heap.objs.size + 1), H', I3, rfl, q3⟩⟩
    | next => exact False.elim hq'
    | brk => exact False.elim hq'
    | cont => exact False.elim hq'
end
/-- isinstance(e, c) of the error that a suite holds, whatever it is -/
def rIsX (K : PySem.W.Frag) (cls : Value) (d : Option Addr) (a : Addr) : List V → Hp → VK → Prop := fun xs H Q => ∃ D, cls = .ref D ∧ d = none ∧ ExcC K D ∧ rIsE K D a xs H Q
theorem isX {X : Cx} {K : PySem.W.Frag} {a : Addr} {cls : Value} {d : Option Addr} {oe : Obj} {pn : List (Addr × Obj)} (hz : Zc cls d oe) (hf : ∃ vs, oe.data = .fields vs) (hK : X.K = K := by rfl) : CallR (X.suite a ((a, oe) :: pn)) (.builtin "isinstance") (rIsX K cls d a) := by
  subst hK
  intro pins s σ H xs us Q I r h
  obtain ⟨D, rfl, rfl, c, h⟩ := h
  exact call_isE c hz hf pins s σ H xs us Q I r h
def rIsXT (K : PySem.W.Frag) (cls : Value) (d : Option Addr) (a : Addr) : List V → Hp → VK → Prop := fun xs H Q => ∃ (D tp : Addr) (cs : List V) (us : List Value) (b : Bool), cls = .ref D ∧ d = none ∧ ExcC K D ∧ xs = [.ref a, .ref tp] ∧ H tp = some (.tup cs) ∧ Paired ClsV cs us ∧ PySem.W.kitAny K (.ref D) us = some b ∧ Q (.bl b) H
theorem isXT {X : Cx} {K : PySem.W.Frag} {a : Addr} {cls : Value} {d : Option Addr} {oe : Obj} {pn : List (Addr × Obj)} (hz : Zc cls d oe) (hf : ∃ vs, oe.data = .fields vs) (hK : X.K = K := by rfl) : CallR (X.suite a ((a, oe) :: pn)) (.builtin "isinstance") (rIsXT K cls d a) := by
  subst hK
  intro pins s σ H xs us Q I r h
  obtain ⟨D, tp, cs, ws, b, rfl, rfl, c, rfl, hT, kk, e, q⟩ := h
  obtain ⟨u1, u2, rfl, r1, r2⟩ := vals2 r
  cases (show u1 = Value.ref a from r1)
  cases (show u2 = Value.ref tp from r2)
  obtain ⟨hget, _⟩ := I.pin (a, oe) (List.mem_append.mpr (.inl List.mem_cons_self))
  obtain ⟨vs, hv⟩ := hf
  have J : PySem.W.InstAt s.heap a oe D none := by
    obtain ⟨oc, od, oda, osl⟩ := oe
    obtain ⟨h1, h2⟩ := hz
    dsimp only at h1 h2 hv
    subst h1 h2 hv
    exact ⟨hget, rfl, rfl, trivial⟩
  obtain ⟨_, its, rv, o, h1, h2, n, h3⟩ := (show ObjOk X.prog X.w H s.heap tp (.tup cs) from I.hok tp _ hT)
  have e3 := ClsV.all kk rv
  subst e3
  obtain ⟨oc, od, dt, sl⟩ := o
  simp only at h2 h3
  subst h2 h3
  exact PySem.W.kia_tup (PySem.W.handS_kitx_exc c.hg c.hk c.hs c.hd c.ha c.hn c.ht c.hm) I.kIn J h1 e (fun z => nomatch z) fun tk => ⟨.bl b, H, I.kept (t' := tk) fun _ _ z => z, rfl, q⟩
/-! ### several clauses, each with the error by the same name; nothing leaves -/
/-- behind a suite the name is gone -/
def endsAs (i : Nat) (D : Ends) : Ends where
  nx := fun τ G => D.nx (τ.set i none) G
  rt := D.rt
  bk := fun τ G => D.bk (τ.set i none) G
  ct := fun τ G => D.ct (τ.set i none) G
def wAll (K : PySem.W.Frag) (i : Nat) (D : Ends) : List (Value × (Addr → Value → Option Addr → TS)) → WX
  | [] => fun _ _ _ _ => False
  | (c, ts) :: r => fun cls d τ G => ∃ b, PySem.W.exmOne K cls c = some b ∧ (b = true → ∀ q, G q = none → ts q cls d (endsAs i D) (τ.set i (some (.ref q))) G) ∧ (b = false → wAll K i D r cls d τ G)
inductive Clauses (X : Cx) (n : Str) : List ExceptHandler → List (Value × (Addr → Value → Option Addr → TS)) → Prop
  | none : Clauses X n [] []
  | more {x : Str} {c : Value} {ts : Addr → Value → Option Addr → TS} {b : Stmt} {bs : List Stmt} {px ph : Pos} {hs : List ExceptHandler} {l : List (Value × (Addr → Value → Option Addr → TS))} (nm : Names X x c)
      (su : ∀ (q : Addr) (oq : Obj) (cls : Value) (d : Option Addr) (pn : List (Addr × Obj)), Zc cls d oq → (∃ vs, oq.data = .fields vs) → PSs (X.suite q ((q, oq) :: pn)) (b :: bs) (ts q cls d)) (r : Clauses X n hs l) :
      Clauses X n (.ExceptHandler (some (.Name x px)) (some n) (b :: bs) ph :: hs) ((c, ts) :: l)
theorem ps_tryAll {X : Cx} {n : Str} {i : Nat} {body : List Stmt} {h0 : ExceptHandler} {hs : List ExceptHandler} {l : List (Value × (Addr → Value → Option Addr → TS))} {pos : Pos} {tb : WX → TS}
    (stk : X.stack = X.env :: X.outer) (frm : X.env.frame = some X.env.locals) (nd : X.N.Nodup) (at_ : X.N[i]? = some n) (loc : X.env.kindOf n = some .local)
    (bd : ∀ (W : WX) (pn : List (Addr × Obj)) (xe : Value → Shared → Prop), Takes (X.tr pn xe) W → PassesOwn (model X.prog X.w) X.A X.env xe → PSs (X.tr pn xe) body (tb W)) (cl : Clauses X n (h0 :: hs) l) :
    PS X (.Try body (h0 :: hs) [] [] pos) (fun D σ H => tb (wAll X.K i D l) D σ H) := by
  refine ⟨fun pz s σ H D I hw => ?_⟩
  have okX := I.ok
  have frs_ : X.A.frames = some (X.env :: X.outer) := by rw [okX.frames, stk]
  have lc : Loc X.env.scope n := .inl loc
  refine wpAny_Try_except (wpAny_mono ((bd (wAll X.K i D l) (X.pn ++ pz) (fun e z => wpAny (model X.prog X.w) X.A (noteFrame e X.env) (fun _ z2 => wpAny (model X.prog X.w) X.A (setFlight e none)
    (fun _ z3 => wpAny (model X.prog X.w) X.A (handleBy e X.env (h0 :: hs)) (SP X pz D) X.xe z3) X.xe z2) X.xe z) (fun u z xx => ?_) PassesOwn.looking).run [] s σ H D (I.toTry _) hw) (fun fl z q => ?_) fun _ _ z => z)
  · obtain ⟨q, G0, sJ, pz', τ, G, cls, d, rfl, J', nb, up, sky, nq, os, ag, w⟩ := xx
    have J : Inv X pz τ G sJ := J'.ofTry okX
    have sk2 : Sky G0 (X.env :: X.outer) q (Zc cls d) X.env.locals z.heap := stk ▸ sky
    refine Sky.land Zc.steady frs_ frm sk2 fun g3 f3 u3 => ?_
    have J3 : Inv X pz τ G { z with heap := g3 } := J.landed nb f3.1 (up.trans u3) os ag
    obtain ⟨o3, v3, e3, z3, d3⟩ := f3.there
    have out : q ∉ frs (X.env :: X.outer) := fun hm => by
      obtain ⟨_, o', e', no⟩ := f3.2.2.1.mem hm
      rw [e3] at e'; cases e'; exact no _ d3
    have nL : q ≠ X.env.locals := fun e => out (List.mem_filterMap.mpr ⟨X.env, List.mem_cons_self, by rw [frm, e]⟩)
    have nF : q ∉ X.fs := fun hm => by
      obtain ⟨e, he, e2⟩ := List.mem_filterMap.mp hm; exact out (List.mem_filterMap.mpr ⟨e, List.mem_cons_of_mem _ he, e2⟩)
    have S3 := J3.suite e3 d3 nq nL nF
    have LT : PySem.W.Looks (model X.prog X.w) g3 (typeOf (.ref q)) cls := fun _ _ _ _ k r => wpAny_typeOf_ref (k _ _ e3) (by rw [z3.1]; exact r)
    have go : ∀ {hs2 : List ExceptHandler} {l2 : List (Value × (Addr → Value → Option Addr → TS))}, Clauses X n hs2 l2 → wAll X.K i D l2 cls d τ G → wpAny (model X.prog X.w) X.A (handleBy (.ref q) X.env hs2) (SP X pz D) X.xe { z with heap := g3 } := by
      intro hs2 l2 ck
      induction ck with
      | none => exact fun w => w.elim
      | @more x c ts b bs px ph hs3 l3 nm su r ih =>
        rintro ⟨ans, ea, yes, no⟩
        refine wpAny_handleBy_cons (codeAny_handlers_test ?_) (fun k => nomatch k)
        have LM := PySem.W.exm_one (M := model X.prog X.w) J3.kIn LT ea
        have nameIs : ∀ {R F : Value → Shared → Prop}, R c { z with heap := g3 } → wpAny (model X.prog X.w) (X.A.mark (some (.ref q))) (eval (.Name x px) X.env) R F { z with heap := g3 } := fun {R F} k => by
          obtain ⟨gl, db, m1 | ⟨m1, m2, m3⟩⟩ := nm
          · exact ld_glob (X := X.suite q ((q, o3) :: (X.pn ++ pz))) S3 gl m1 k db
          · exact ld_blt (X := X.suite q ((q, o3) :: (X.pn ++ pz))) S3 gl m1 m2 k m3 db
        refine nameIs (LM.here ?_)
        cases ans with
        | false => exact ih (no rfl)
        | true =>
          refine codeAny_handlers_suite_as (HandSPX.lands_againZ f3 fun g4 f4 u4 => ?_)
          have J4 : Inv X pz τ G { z with heap := g4 } := J.landed nb f4.1 ((up.trans u3).trans u4) os ag
          obtain ⟨o4, v4, e4, z4, d4⟩ := f4.there
          refine store_ok (X := X.suite q ((q, o4) :: (X.pn ++ pz))) (v := .ref q) (J4.suite e4 d4 nq nL nF) nd at_ lc rfl (fun s5 S5 => ?_) (.inr loc)
          refine wpAny_mono ((su q o4 cls d (X.pn ++ pz) z4 ⟨_, d4⟩).run [] s5 _ G _ S5 (yes rfl q nq)) (fun fl s6 k => ?_) fun _ _ k => k.elim
          have bye : ∀ {τ6 : L2.St} {G6 : Hp} {R : Shared → Prop}, Inv (X.suite q ((q, o4) :: (X.pn ++ pz))) [] τ6 G6 s6 → (∀ s7, Inv X pz (τ6.set i none) G6 s7 → R s7) →
              wpAny (model X.prog X.w) X.A (do bindName X.env n .none; unbindBehindTheSuite X.env n ph) (fun _ s7 => R s7) X.xe s6 := fun S6 k => gone_ok (S6.unsuite okX) nd at_ loc k
          cases fl with
          | next => obtain ⟨_, _, S6, k⟩ := k; exact bye S6 fun s7 J7 => ⟨_, _, J7, k⟩
          | brk => obtain ⟨_, _, S6, k⟩ := k; exact bye S6 fun s7 J7 => ⟨_, _, J7, k⟩
          | cont => obtain ⟨_, _, S6, k⟩ := k; exact bye S6 fun s7 J7 => ⟨_, _, J7, k⟩
          | ret u => obtain ⟨_, _, _, S6, r6, k⟩ := k; exact bye S6 fun s7 J7 => ⟨_, _, _, J7, r6, k⟩
    exact go cl w
  · cases fl with
    | next => obtain ⟨_, _, J', k⟩ := q; exact wpAny_execs_nil ⟨_, _, J'.ofTry okX, k⟩
    | brk => obtain ⟨_, _, J', k⟩ := q; exact ⟨_, _, J'.ofTry okX, k⟩
    | cont => obtain ⟨_, _, J', k⟩ := q; exact ⟨_, _, J'.ofTry okX, k⟩
    | ret u => obtain ⟨_, _, _, J', r, k⟩ := q; exact ⟨_, _, _, J'.ofTry okX, r, k⟩
/-! ### facts of error classes -/
def excCB (x : Str) : PySem.W.Frag → Bool := fun K => He.eqO (PySem.W.findIn K (.ref (He.ga K x)) "__getattribute__") (some (some (.builtin "BaseException.__getattribute__"))) && (He.eqO (PySem.W.findIn K (.ref (He.ga K x)) "__getattr__") (some none) &&
  (decide (PySem.W.subIn K (.ref (He.ga K x)) (.type "BaseException") = some true) && (PySem.W.hasDictIn K (He.ga K x) && isCB x K)))
theorem excC_ok {x : Str} {K : PySem.W.Frag} (c : excCB x K = true) : ExcC K (He.ga K x) := by
  obtain ⟨c1, c⟩ := He.ba c
  obtain ⟨c2, c⟩ := He.ba c
  obtain ⟨c3, c⟩ := He.ba c
  obtain ⟨c4, c5⟩ := He.ba c
  have z := isC_ok c5
  exact ⟨He.eqO_ok c1, He.eqO_ok c2, of_decide_eq_true c3, c4, z.ha, z.hn, z.htk, z.hm⟩
/-- an error class without an __init__ of its own, made and raised -/
structure ExcF (K : PySem.W.Frag) (C : Addr) (bm : List Value) (nw : String) : Prop where
  e : PySem.W.excIn K C bm nw = true
  k : PySem.W.keepIn K (.ref C) = true
  b : PySem.W.subIn K (.ref C) (.type "BaseException") = some true
  t : PySem.W.typeIn K (.ref C) = some (.type "type")
def excFB (x : Str) (bm : List Value) (nw : String) : PySem.W.Frag → Bool := fun K => PySem.W.excIn K (He.ga K x) bm nw && (PySem.W.keepIn K (.ref (He.ga K x)) && (decide (PySem.W.subIn K (.ref (He.ga K x)) (.type "BaseException") = some true) && decide (PySem.W.typeIn K (.ref (He.ga K x)) = some (.type "type"))))
theorem excF_ok {x : Str} {bm : List Value} {nw : String} {K : PySem.W.Frag} (c : excFB x bm nw K = true) : ExcF K (He.ga K x) bm nw := by
  obtain ⟨c1, c⟩ := He.ba c
  obtain ⟨c2, c⟩ := He.ba c
  obtain ⟨c3, c4⟩ := He.ba c
  exact ⟨c1, c2, of_decide_eq_true c3, of_decide_eq_true c4⟩
def exmB (x y : Str) (r : Bool) : PySem.W.Frag → Bool := fun K => decide (PySem.W.exmOne K (.ref (He.ga K x)) (.ref (He.ga K y)) = some r)
theorem exm_ok {x y : Str} {r : Bool} {K : PySem.W.Frag} (c : exmB x y r K = true) : PySem.W.exmOne K (.ref (He.ga K x)) (.ref (He.ga K y)) = some r := of_decide_eq_true c
/-! ### things of any kind -/
/-- a thing that is no Measure and no Stretch; h: not the hand -/
def Thing (h : Addr) (H : Hp) (v : V) : Prop := v = .non ∨ (∃ b, v = .bl b) ∨ (∃ i, v = .int i) ∨ (∃ z, v = .str z) ∨ (∃ a xs, v = .ref a ∧ a ≠ h ∧ H a = some (.lst xs)) ∨ (∃ a xs, v = .ref a ∧ H a = some (.tup xs)) ∨ (∃ a kvs, v = .ref a ∧ H a = some (.dK kvs))
theorem Thing.same {h : Addr} {H H' : Hp} {v : V} (t : Thing h H v) (s : Same H H') : Thing h H' v := by
  rcases t with t | t | t | t | ⟨a, xs, e, n, t⟩ | ⟨a, xs, e, t⟩ | ⟨a, xs, e, t⟩
  · exact .inl t
  · exact .inr (.inl t)
  · exact .inr (.inr (.inl t))
  · exact .inr (.inr (.inr (.inl t)))
  · exact .inr (.inr (.inr (.inr (.inl ⟨a, xs, e, n, s _ _ t⟩))))
  · exact .inr (.inr (.inr (.inr (.inr (.inl ⟨a, xs, e, s _ _ t⟩)))))
  · exact .inr (.inr (.inr (.inr (.inr (.inr ⟨a, xs, e, s _ _ t⟩)))))
theorem Thing.kp {h : Addr} {n : Nat} {H H' : Hp} {v : V} (t : Thing h H v) (hh : HandAt H h n) (s : Kp h H H') : Thing h H' v := by
  rcases t with t | t | t | t | ⟨a, xs, e, n, t⟩ | ⟨a, xs, e, t⟩ | ⟨a, xs, e, t⟩
  · exact .inl t
  · exact .inr (.inl t)
  · exact .inr (.inr (.inl t))
  · exact .inr (.inr (.inr (.inl t)))
  · exact .inr (.inr (.inr (.inr (.inl ⟨a, xs, e, n, s _ _ t n⟩))))
  · exact .inr (.inr (.inr (.inr (.inr (.inl ⟨a, xs, e, s.get hh t rfl⟩)))))
  · exact .inr (.inr (.inr (.inr (.inr (.inr ⟨a, xs, e, s.get hh t rfl⟩)))))
/-- its class, as isinstance asks it -/
theorem Thing.ty {K : PySem.W.Frag} {h : Addr} {H : Hp} {v : V} (t : Thing h H v) : ∃ n : String, TyX K H v (.type n) ∧ (n = "NoneType" ∨ n = "bool" ∨ n = "int" ∨ n = "str" ∨ n = "list" ∨ n = "tuple" ∨ n = "dict") := by
  rcases t with rfl | ⟨b, rfl⟩ | ⟨i, rfl⟩ | ⟨z, rfl⟩ | ⟨a, xs, rfl, n, t⟩ | ⟨a, xs, rfl, t⟩ | ⟨a, xs, rfl, t⟩
  · exact ⟨_, .base .non, .inl rfl⟩
  · exact ⟨_, .base (.bl b), .inr (.inl rfl)⟩
  · exact ⟨_, .base (.int i), .inr (.inr (.inl rfl))⟩
  · exact ⟨_, .base (.str z), .inr (.inr (.inr (.inl rfl)))⟩
  · exact ⟨_, .base (.lst t), .inr (.inr (.inr (.inr (.inl rfl))))⟩
  · exact ⟨_, .base (.tup t), .inr (.inr (.inr (.inr (.inr (.inl rfl)))))⟩
  · exact ⟨_, .base (.dK t), .inr (.inr (.inr (.inr (.inr (.inr rfl)))))⟩
theorem Thing.of_lst {h a : Addr} {H : Hp} {xs : List V} (n : a ≠ h) (e : H a = some (.lst xs)) : Thing h H (.ref a) := .inr (.inr (.inr (.inr (.inl ⟨a, xs, rfl, n, e⟩))))
theorem Thing.of_tup {h a : Addr} {H : Hp} {xs : List V} (e : H a = some (.tup xs)) : Thing h H (.ref a) := .inr (.inr (.inr (.inr (.inr (.inl ⟨a, xs, rfl, e⟩)))))
theorem Thing.of_dct {h a : Addr} {H : Hp} {xs : List (Key × V)} (e : H a = some (.dK xs)) : Thing h H (.ref a) := .inr (.inr (.inr (.inr (.inr (.inr ⟨a, xs, rfl, e⟩)))))
/-- nested: a list or a tuple, new -/
def sp_nest : Sp := fun vs H Q _ => ∃ n : Int, vs = [.int n] ∧ 1 ≤ n ∧ n ≤ 1000 ∧ ∀ (a : Addr) (xs : List V) (H' : Hp), Same H H' → H a = none → (H' a = some (.lst xs) ∨ H' a = some (.tup xs)) → Q (.ref a) H'
def sp_thing : Sp := fun vs H Q _ => ∃ (h : Addr) (n : Nat), vs = [.ref h] ∧ HandAt H h n ∧ n < 10000 ∧ ∀ (v : V) (H' : Hp), Thing h H' v → (∀ i, v ≠ .int i) → HandAt H' h (n + 2) → Kp h H H' → Q v H'
end My
namespace K01
open PySem PySem.Spec PyProof.Rows L2 My
local macro_rules | `(tactic| walk_at "c") => `(tactic| first | exact Eq.refl _ | ((with_reducible show (_ : Int) ≤ _); omega) | ((with_reducible show (_ : Int) < _); omega) | ((with_reducible show (_ : Nat) ≤ _); omega) | ((with_reducible show (_ : Nat) < _); omega) | assumption | with_reducible exact lf_marks _ _ _ _ | with_reducible exact lf_rule _ _ _ _ | with_reducible exact lf_least _ _ _ _ | with_reducible exact lf_most _ _ _ _ | with_reducible exact mf_top _ _ | with_reducible exact mf_bottom _ _ | with_reducible exact sf_low _ _ _ _ | with_reducible exact sf_high _ _ _ _ | with_reducible exact sf_low_in _ _ _ _ | with_reducible exact sf_high_in _ _ _ _ | exact SqL.of (by assumption) | exact SqT.of (by assumption) | exact Or.inl (SqL.of (by assumption)) | exact Or.inr (SqT.of (by assumption)) | exact Or.inr (by assumption) | exact Or.inl (by assumption) | omega | exact atI_nat (by assumption) | exact atI_of (n := 0) rfl (by assumption) | exact logS (by omega) | exact Or.inl (Or.inl ⟨by omega, by omega⟩) | exact Or.inl (Or.inr ⟨by omega, by omega⟩) | exact szb rfl | exact szs (by omega) | exact szl (by omega) | exact Or.inl ⟨Eq.refl _, _, SqL.of (by assumption)⟩ | exact ⟨_, SqT.of (by assumption)⟩ | exact ⟨_, SqL.of (by assumption)⟩ | exact ⟨by omega, by omega, by omega, by omega⟩)
local macro_rules | `(tactic| walk_at "e") => `(tactic| first | rfl | exact ⟨rfl, rfl⟩ | exact ⟨rfl, rfl, rfl⟩ | assumption | exact trivial)
local macro_rules | `(tactic| walk_at "w1") => `(tactic| first
  | refine q_belowT (by assumption) (by assumption) (by omega) (by omega) ?_ | refine q_belowA (by assumption) (by assumption) (by omega) (by omega) ?_ | refine q_subT (by assumption) (by assumption) (by omega) (by omega) (by omega) ?_
  | refine meth_q (by assumption) (by decide +kernel) (by decide +kernel) ?_ | refine meth_l (by assumption) (by decide +kernel) (by decide +kernel) (by decide +kernel) (by decide +kernel) ?_ | refine meth_s (by assumption) (by decide +kernel) (by decide +kernel) (by decide +kernel) (by decide +kernel) ?_
  | apply @Exists.intro V | apply @Exists.intro Int | apply @Exists.intro Addr | apply @Exists.intro Bool | apply @Exists.intro (List V) | apply @Exists.intro Str | apply @Exists.intro Nat | apply @Exists.intro (List (Str × V))
  | refine And.intro (by walk_at "c") ?_ | refine iteT ?_ | refine iteF ?_ | refine iteDT (by omega) ?_ | refine iteDF (by omega) ?_ | refine iteNS (by omega) ?_ | refine iteNT (by omega) ?_)
local macro_rules | `(tactic| walk_at "w") => `(tactic| repeat (walk_at "w1"))
local macro_rules | `(tactic| walk_at "hand") => `(tactic| first | assumption | exact HandAt.up (by walk_at "hand") (by assumption))
local macro_rules | `(tactic| walk_at "hp") => `(tactic| first | assumption | exact upd_same | exact up1 (by assumption) (by walk_at "hp") | exact Kp.get (by assumption) (by walk_at "hand") (by walk_at "hp") (by rfl) | exact L2.Same.get (by assumption) (by walk_at "hp") | exact up2 (by assumption) (by walk_at "hp") (by rfl))

/-! ### the text by places -/
def topS (i : Nat) : Stmt := PySem.Challenge.pw_sizeladders_k01_lowest_terms.main.body.getD i (.Pass ⟨0, 0, 0, 0⟩)
abbrev s_is_whole : Stmt := (topS 11)
abbrev s_common_part : Stmt := (topS 13)
abbrev s_Measure_init : Stmt := (inClass (topS 15) 0)
abbrev s_l_hand_of : Stmt := (topS 17)
abbrev s_l_take : Stmt := (topS 18)
abbrev s_l_whole_of : Stmt := (topS 19)
abbrev s_l_bottom_of : Stmt := (topS 20)
abbrev s_l_common : Stmt := (topS 21)
abbrev s_l_is : Stmt := (topS 22)
abbrev s_l_nest : Stmt := (topS 23)
abbrev s_l_any_thing : Stmt := (topS 24)
abbrev s_l_word : Stmt := (topS 25)
abbrev s_law : Stmt := (topS 26)
abbrev N_is_whole : List Str := ["thing"]
abbrev p_is_whole : List Str := ["thing"]
theorem sc_is_whole : FnScope N_is_whole p_is_whole (defScope s_is_whole) := ⟨rfl, rfl, rfl, by decide +kernel, rfl, by decide +kernel, by decide +kernel⟩
abbrev N_common_part : List Str := ["one", "other", "great", "small"]
abbrev p_common_part : List Str := ["one", "other"]
theorem sc_common_part : FnScope N_common_part p_common_part (defScope s_common_part) := ⟨rfl, rfl, rfl, by decide +kernel, rfl, by decide +kernel, by decide +kernel⟩
abbrev N_Measure_init : List Str := ["self", "top", "bottom", "common"]
abbrev p_Measure_init : List Str := ["self", "top", "bottom"]
theorem sc_Measure_init : FnScope N_Measure_init p_Measure_init (defScope s_Measure_init) := ⟨rfl, rfl, rfl, by decide +kernel, rfl, by decide +kernel, by decide +kernel⟩
abbrev N_l_hand_of : List Str := ["_law_script", "_law_k", "_law_cell", "_law_seed"]
abbrev p_l_hand_of : List Str := ["_law_script", "_law_k"]
theorem sc_l_hand_of : FnScope N_l_hand_of p_l_hand_of (defScope s_l_hand_of) := ⟨rfl, rfl, rfl, by decide +kernel, rfl, by decide +kernel, by decide +kernel⟩
abbrev N_l_take : List Str := ["_law_hand", "_law_many", "_law_digit", "_law_stirred"]
abbrev p_l_take : List Str := ["_law_hand", "_law_many"]
theorem sc_l_take : FnScope N_l_take p_l_take (defScope s_l_take) := ⟨rfl, rfl, rfl, by decide +kernel, rfl, by decide +kernel, by decide +kernel⟩
abbrev N_l_whole_of : List Str := ["_law_hand", "_law_kind", "_law_sign", "_law_great"]
abbrev p_l_whole_of : List Str := ["_law_hand"]
theorem sc_l_whole_of : FnScope N_l_whole_of p_l_whole_of (defScope s_l_whole_of) := ⟨rfl, rfl, rfl, by decide +kernel, rfl, by decide +kernel, by decide +kernel⟩
abbrev N_l_bottom_of : List Str := ["_law_hand", "_law_some"]
abbrev p_l_bottom_of : List Str := ["_law_hand"]
theorem sc_l_bottom_of : FnScope N_l_bottom_of p_l_bottom_of (defScope s_l_bottom_of) := ⟨rfl, rfl, rfl, by decide +kernel, rfl, by decide +kernel, by decide +kernel⟩
abbrev N_l_common : List Str := ["_law_big", "_law_low"]
abbrev p_l_common : List Str := ["_law_big", "_law_low"]
theorem sc_l_common : FnScope N_l_common p_l_common (defScope s_l_common) := ⟨rfl, rfl, rfl, by decide +kernel, rfl, by decide +kernel, by decide +kernel⟩
abbrev N_l_is : List Str := ["_law_found", "_law_over", "_law_under"]
abbrev p_l_is : List Str := ["_law_found", "_law_over", "_law_under"]
theorem sc_l_is : FnScope N_l_is p_l_is (defScope s_l_is) := ⟨rfl, rfl, rfl, by decide +kernel, rfl, by decide +kernel, by decide +kernel⟩
abbrev N_l_nest : List Str := ["_law_deep", "_law_thing", "_law_turn"]
abbrev p_l_nest : List Str := ["_law_deep"]
theorem sc_l_nest : FnScope N_l_nest p_l_nest (defScope s_l_nest) := ⟨rfl, rfl, rfl, by decide +kernel, rfl, by decide +kernel, by decide +kernel⟩
abbrev N_l_any_thing : List Str := ["_law_hand", "_law_some"]
abbrev p_l_any_thing : List Str := ["_law_hand"]
theorem sc_l_any_thing : FnScope N_l_any_thing p_l_any_thing (defScope s_l_any_thing) := ⟨rfl, rfl, rfl, by decide +kernel, rfl, by decide +kernel, by decide +kernel⟩
abbrev N_l_word : List Str := ["_law_over", "_law_under", "_law_word_here", "e", "_law_others"]
abbrev p_l_word : List Str := ["_law_over", "_law_under"]
theorem sc_l_word : FnScope N_l_word p_l_word (defScope s_l_word) := ⟨rfl, rfl, rfl, by decide +kernel, rfl, by decide +kernel, by decide +kernel⟩
abbrev N_law : List Str := ["_law_script", "_law_k", "_law_hand", "_law_spoilt", "_law_over", "_law_under", "_law_made", "_law_words", "_law_found"]
abbrev p_law : List Str := ["_law_script"]
theorem sc_law : FnScope N_law p_law (defScope s_law) := ⟨rfl, rfl, rfl, by decide +kernel, rfl, by decide +kernel, by decide +kernel⟩
/-! ### what the top has written -/
structure Fds where
  is_whole : FuncData
  common_part : FuncData
  Measure_init : FuncData
  l_hand_of : FuncData
  l_take : FuncData
  l_whole_of : FuncData
  l_bottom_of : FuncData
  l_common : FuncData
  l_is : FuncData
  l_nest : FuncData
  l_any_thing : FuncData
  l_word : FuncData
  law : FuncData
structure Txt (K : PySem.W.Frag) (mg : Str → Option Value) (φ : Fds) : Prop where
  g_is_whole : mg "is_whole" = some (.ref (He.ga K "is_whole"))
  g_common_part : mg "common_part" = some (.ref (He.ga K "common_part"))
  g_l_hand_of : mg "_law_hand_of" = some (.ref (He.ga K "_law_hand_of"))
  g_l_take : mg "_law_take" = some (.ref (He.ga K "_law_take"))
  g_l_whole_of : mg "_law_whole_of" = some (.ref (He.ga K "_law_whole_of"))
  g_l_bottom_of : mg "_law_bottom_of" = some (.ref (He.ga K "_law_bottom_of"))
  g_l_common : mg "_law_common" = some (.ref (He.ga K "_law_common"))
  g_l_is : mg "_law_is" = some (.ref (He.ga K "_law_is"))
  g_l_nest : mg "_law_nest" = some (.ref (He.ga K "_law_nest"))
  g_l_any_thing : mg "_law_any_thing" = some (.ref (He.ga K "_law_any_thing"))
  g_l_word : mg "_law_word" = some (.ref (He.ga K "_law_word"))
  g_law : mg "law" = some (.ref (He.ga K "law"))
  g_Measure : mg "Measure" = some (.ref (He.ga K "Measure"))
  g_LadderError : mg "LadderError" = some (.ref (He.ga K "LadderError"))
  g_NoMeasure : mg "NoMeasure" = some (.ref (He.ga K "NoMeasure"))
  g_NoBottom : mg "NoBottom" = some (.ref (He.ga K "NoBottom"))
  g_NoStretch : mg "NoStretch" = some (.ref (He.ga K "NoStretch"))
  g_NoLadder : mg "NoLadder" = some (.ref (He.ga K "NoLadder"))
  g_NoLine : mg "NoLine" = some (.ref (He.ga K "NoLine"))
  g_Slip : mg "Slip" = some (.ref (He.ga K "Slip"))
  g_NoText : mg "NoText" = some (.ref (He.ga K "NoText"))
  z_ValueError : mg "ValueError" = none
  z_ZeroDivisionError : mg "ZeroDivisionError" = none
  z_abs : mg "abs" = none
  z_all : mg "all" = none
  z_bool : mg "bool" = none
  z_int : mg "int" = none
  z_isinstance : mg "isinstance" = none
  z_len : mg "len" = none
  z_min : mg "min" = none
  z_range : mg "range" = none
  cl_Measure : Cls K (He.ga K "Measure")
  na_Measure_top : NoAttr K (He.ga K "Measure") "top"
  na_Measure_bottom : NoAttr K (He.ga K "Measure") "bottom"
  mk_Measure : Mk K (He.ga K "Measure") (He.ma K (He.ga K "Measure") "__init__")
  ii_Measure : IsC K (He.ga K "Measure")
  xc_NoMeasure : ExcC K (He.ga K "NoMeasure")
  xc_NoBottom : ExcC K (He.ga K "NoBottom")
  xf_NoMeasure : ExcF K (He.ga K "NoMeasure") [.type "ValueError", .type "Exception", .type "BaseException", .type "object"] "ValueError.__new__"
  xf_NoBottom : ExcF K (He.ga K "NoBottom") [.type "ZeroDivisionError", .type "ArithmeticError", .type "Exception", .type "BaseException", .type "object"] "ZeroDivisionError.__new__"
  xm_NoMeasure_LadderError : PySem.W.exmOne K (.ref (He.ga K "NoMeasure")) (.ref (He.ga K "LadderError")) = some true
  xm_NoBottom_LadderError : PySem.W.exmOne K (.ref (He.ga K "NoBottom")) (.ref (He.ga K "LadderError")) = some false
  xm_NoBottom_NoBottom : PySem.W.exmOne K (.ref (He.ga K "NoBottom")) (.ref (He.ga K "NoBottom")) = some true
  k_Measure_Measure : PySem.W.kitOne K (.ref (He.ga K "Measure")) (.ref (He.ga K "Measure")) = some true
  k_Measure_int : PySem.W.kitOne K (.ref (He.ga K "Measure")) (.type "int") = some false
  k_NoMeasure_NoStretch : PySem.W.kitOne K (.ref (He.ga K "NoMeasure")) (.ref (He.ga K "NoStretch")) = some false
  k_NoMeasure_NoLadder : PySem.W.kitOne K (.ref (He.ga K "NoMeasure")) (.ref (He.ga K "NoLadder")) = some false
  k_NoMeasure_NoLine : PySem.W.kitOne K (.ref (He.ga K "NoMeasure")) (.ref (He.ga K "NoLine")) = some false
  k_NoMeasure_Slip : PySem.W.kitOne K (.ref (He.ga K "NoMeasure")) (.ref (He.ga K "Slip")) = some false
  k_NoMeasure_NoText : PySem.W.kitOne K (.ref (He.ga K "NoMeasure")) (.ref (He.ga K "NoText")) = some false
  k_NoMeasure_NoMeasure : PySem.W.kitOne K (.ref (He.ga K "NoMeasure")) (.ref (He.ga K "NoMeasure")) = some true
  k_NoMeasure_ValueError : PySem.W.kitOne K (.ref (He.ga K "NoMeasure")) (.type "ValueError") = some true
  k_NoBottom_ZeroDivisionError : PySem.W.kitOne K (.ref (He.ga K "NoBottom")) (.type "ZeroDivisionError") = some true
  k_NoBottom_ValueError : PySem.W.kitOne K (.ref (He.ga K "NoBottom")) (.type "ValueError") = some false
  f_is_whole : FunD K "is_whole" "is_whole" (defArgs s_is_whole) (defBody s_is_whole) (defScope s_is_whole) [] [] (He.fAd K ("is_whole", none)) φ.is_whole
  f_common_part : FunD K "common_part" "common_part" (defArgs s_common_part) (defBody s_common_part) (defScope s_common_part) [] [] (He.fAd K ("common_part", none)) φ.common_part
  f_Measure_init : FunD K "__init__" "Measure.__init__" (defArgs s_Measure_init) (defBody s_Measure_init) (defScope s_Measure_init) [V.int 1] [] (He.fAd K ("Measure", some "__init__")) φ.Measure_init
  f_l_hand_of : FunD K "_law_hand_of" "_law_hand_of" (defArgs s_l_hand_of) (defBody s_l_hand_of) (defScope s_l_hand_of) [] [] (He.fAd K ("_law_hand_of", none)) φ.l_hand_of
  f_l_take : FunD K "_law_take" "_law_take" (defArgs s_l_take) (defBody s_l_take) (defScope s_l_take) [] [] (He.fAd K ("_law_take", none)) φ.l_take
  f_l_whole_of : FunD K "_law_whole_of" "_law_whole_of" (defArgs s_l_whole_of) (defBody s_l_whole_of) (defScope s_l_whole_of) [] [] (He.fAd K ("_law_whole_of", none)) φ.l_whole_of
  f_l_bottom_of : FunD K "_law_bottom_of" "_law_bottom_of" (defArgs s_l_bottom_of) (defBody s_l_bottom_of) (defScope s_l_bottom_of) [] [] (He.fAd K ("_law_bottom_of", none)) φ.l_bottom_of
  f_l_common : FunD K "_law_common" "_law_common" (defArgs s_l_common) (defBody s_l_common) (defScope s_l_common) [] [] (He.fAd K ("_law_common", none)) φ.l_common
  f_l_is : FunD K "_law_is" "_law_is" (defArgs s_l_is) (defBody s_l_is) (defScope s_l_is) [] [] (He.fAd K ("_law_is", none)) φ.l_is
  f_l_nest : FunD K "_law_nest" "_law_nest" (defArgs s_l_nest) (defBody s_l_nest) (defScope s_l_nest) [] [] (He.fAd K ("_law_nest", none)) φ.l_nest
  f_l_any_thing : FunD K "_law_any_thing" "_law_any_thing" (defArgs s_l_any_thing) (defBody s_l_any_thing) (defScope s_l_any_thing) [] [] (He.fAd K ("_law_any_thing", none)) φ.l_any_thing
  f_l_word : FunD K "_law_word" "_law_word" (defArgs s_l_word) (defBody s_l_word) (defScope s_l_word) [] [] (He.fAd K ("_law_word", none)) φ.l_word
  f_law : FunD K "law" "law" (defArgs s_law) (defBody s_law) (defScope s_law) [] [] (He.fAd K ("law", none)) φ.law
def sp_int (bits takes : Nat) (G : Int → Prop) : Sp := fun vs H Q _ => ∃ (h : Addr) (n : Nat), vs = [.ref h] ∧ HandAt H h n ∧ n < 100000 ∧
  ∀ (z : Int) (H' : Hp), Sz bits z → G z → HandAt H' h (n + takes) → Kp h H H' → Q (.int z) H'
/-- no whole number -/
def NoW (CM : Addr) (H : Hp) (v : V) : Prop := ((∃ hd, Thing hd H v) ∧ ∀ i, v ≠ .int i) ∨ ∃ p t u, v = .ref p ∧ MAt CM H p t u
theorem NoW.same {CM : Addr} {H H' : Hp} {v : V} (o : NoW CM H v) (s : Same H H') : NoW CM H' v := by
  rcases o with ⟨⟨hd, t⟩, n⟩ | ⟨p, t, u, e, m⟩
  · exact .inl ⟨⟨hd, t.same s⟩, n⟩
  · exact .inr ⟨p, t, u, e, m.same s⟩
def sp_wholeB (CM : Addr) : Sp := fun vs H Q _ => ∃ v : V, vs = [v] ∧ NoW CM H v ∧ Q (.bl false) H
def BadM (CM CN CB : Addr) (H : Hp) (x y : V) (C : Addr) : Prop := (NoW CM H x ∧ C = CN) ∨ (∃ i, x = .int i) ∧ ((NoW CM H y ∧ C = CN) ∨ (y = .int 0 ∧ C = CB))
theorem BadM.same {CM CN CB C : Addr} {H H' : Hp} {x y : V} (o : BadM CM CN CB H x y C) (s : Same H H') : BadM CM CN CB H' x y C := by
  rcases o with ⟨o, e⟩ | ⟨i, ⟨o, e⟩ | o⟩
  · exact .inl ⟨o.same s, e⟩
  · exact .inr ⟨i, .inl ⟨o.same s, e⟩⟩
  · exact .inr ⟨i, .inr o⟩
def sp_mbad (CM CN CB : Addr) : Sp := fun vs H _ E => ∃ (p dx : Addr) (x y : V) (C : Addr), vs = [.ref p, x, y] ∧ H p = some (.ins CM dx []) ∧ BadM CM CN CB H x y C ∧ E (.ref C) none H
def sp_word1 (CM CN CB : Addr) : Sp := fun vs H Q _ => ∃ x y : V, vs = [x, y] ∧
  ((∃ a b : Int, x = .int a ∧ y = .int b ∧ b ≠ 0 ∧ Sz 9000 b ∧ ∀ H', Same H H' → Q (.str "told") H') ∨ (BadM CM CN CB H x y CN ∧ ∀ H', Same H H' → Q (.str "measure") H') ∨ (BadM CM CN CB H x y CB ∧ (∃ a, x = .int a) ∧ y = .int 0 ∧ ∀ H', Same H H' → Q (.str "bottom") H'))

def sp_law (K : PySem.W.Frag) : Sp := fun vs H Q _ => ∃ (a : Addr) (ns : List Int), vs = [.ref a] ∧ SqL K H a (ns.map V.int) ∧ ns.length ≤ 63 ∧ ∀ H', Q (.bl true) H'

def NW (h CM : Addr) (H : Hp) (v : V) : Prop := (Thing h H v ∧ ∀ i, v ≠ .int i) ∨ ∃ p t u, v = .ref p ∧ MAt CM H p t u
theorem NW.kp {h CM : Addr} {n : Nat} {H H' : Hp} {v : V} (o : NW h CM H v) (hh : HandAt H h n) (s : Kp h H H') : NW h CM H' v := by
  rcases o with ⟨t, ni⟩ | ⟨p, t, u, e, m⟩
  · exact .inl ⟨t.kp hh s, ni⟩
  · exact .inr ⟨p, t, u, e, m.kp hh s⟩
theorem NW.now {h CM : Addr} {H : Hp} {v : V} (o : NW h CM H v) : NoW CM H v := by
  rcases o with ⟨t, ni⟩ | o
  · exact .inl ⟨⟨h, t⟩, ni⟩
  · exact .inr o
theorem good1 {t u x y : Int} (f : Fr t u x y) (sx : Sz 90000 x) (sy : Sz 90000 y) : Good t u x y :=
  ⟨f.pos, f.co, f.eq, (sx.le f.lt).mono (by decide), (sy.le f.lu).mono (by decide), sx.mono (by decide), sy.mono (by decide)⟩
theorem dp_strs {K : PySem.W.Frag} {H : Hp} : ∀ (n : Nat) (z : Str), DpAll K H (List.replicate n (V.str z)) (List.replicate n (PyData.str z))
  | 0, _ => .nil
  | n + 1, z => .cons (.str z) (dp_strs n z)

theorem b_is_whole_1 {K : PySem.W.Frag} {mg : Str → Option Value} {φ : Fds} (T : Txt K mg φ) : ∃ ds, Vals ([] : List V) ds ∧ Binds K φ.is_whole p_is_whole ds :=
  ⟨[], .nil, T.f_is_whole.bindsN fun _ _ _ _ _ _ us hl => match us, hl with | [_], _ => rfl⟩
theorem b_common_part_2 {K : PySem.W.Frag} {mg : Str → Option Value} {φ : Fds} (T : Txt K mg φ) : ∃ ds, Vals ([] : List V) ds ∧ Binds K φ.common_part p_common_part ds :=
  ⟨[], .nil, T.f_common_part.bindsN fun _ _ _ _ _ _ us hl => match us, hl with | [_, _], _ => rfl⟩
theorem b_Measure_init_3 {K : PySem.W.Frag} {mg : Str → Option Value} {φ : Fds} (T : Txt K mg φ) : ∃ ds, Vals ([] : List V) ds ∧ Binds K φ.Measure_init p_Measure_init ds :=
  T.f_Measure_init.binds1 3 1 (by simp) rfl fun _ _ _ _ _ _ _ us its h1 h2 => match us, its, h1, h2 with | [_, _, _], [_], _, _ => ⟨_, rfl, rfl⟩
theorem b_l_nest_1 {K : PySem.W.Frag} {mg : Str → Option Value} {φ : Fds} (T : Txt K mg φ) : ∃ ds, Vals ([] : List V) ds ∧ Binds K φ.l_nest p_l_nest ds :=
  ⟨[], .nil, T.f_l_nest.bindsN fun _ _ _ _ _ _ us hl => match us, hl with | [_], _ => rfl⟩
theorem b_l_take_2 {K : PySem.W.Frag} {mg : Str → Option Value} {φ : Fds} (T : Txt K mg φ) : ∃ ds, Vals ([] : List V) ds ∧ Binds K φ.l_take p_l_take ds :=
  ⟨[], .nil, T.f_l_take.bindsN fun _ _ _ _ _ _ us hl => match us, hl with | [_, _], _ => rfl⟩
theorem b_l_common_2 {K : PySem.W.Frag} {mg : Str → Option Value} {φ : Fds} (T : Txt K mg φ) : ∃ ds, Vals ([] : List V) ds ∧ Binds K φ.l_common p_l_common ds :=
  ⟨[], .nil, T.f_l_common.bindsN fun _ _ _ _ _ _ us hl => match us, hl with | [_, _], _ => rfl⟩
theorem b_l_hand_of_2 {K : PySem.W.Frag} {mg : Str → Option Value} {φ : Fds} (T : Txt K mg φ) : ∃ ds, Vals ([] : List V) ds ∧ Binds K φ.l_hand_of p_l_hand_of ds :=
  ⟨[], .nil, T.f_l_hand_of.bindsN fun _ _ _ _ _ _ us hl => match us, hl with | [_, _], _ => rfl⟩
theorem b_Measure_init_2 {K : PySem.W.Frag} {mg : Str → Option Value} {φ : Fds} (T : Txt K mg φ) : ∃ ds, Vals ([V.int 1] : List V) ds ∧ Binds K φ.Measure_init p_Measure_init ds :=
  T.f_Measure_init.binds1 2 0 (by simp) rfl fun _ _ _ _ _ _ _ us its h1 h2 => match us, its, h1, h2 with | [_, _], [_], _, _ => ⟨_, rfl, rfl⟩
theorem b_l_any_thing_1 {K : PySem.W.Frag} {mg : Str → Option Value} {φ : Fds} (T : Txt K mg φ) : ∃ ds, Vals ([] : List V) ds ∧ Binds K φ.l_any_thing p_l_any_thing ds :=
  ⟨[], .nil, T.f_l_any_thing.bindsN fun _ _ _ _ _ _ us hl => match us, hl with | [_], _ => rfl⟩
theorem b_l_bottom_of_1 {K : PySem.W.Frag} {mg : Str → Option Value} {φ : Fds} (T : Txt K mg φ) : ∃ ds, Vals ([] : List V) ds ∧ Binds K φ.l_bottom_of p_l_bottom_of ds :=
  ⟨[], .nil, T.f_l_bottom_of.bindsN fun _ _ _ _ _ _ us hl => match us, hl with | [_], _ => rfl⟩
theorem b_l_whole_of_1 {K : PySem.W.Frag} {mg : Str → Option Value} {φ : Fds} (T : Txt K mg φ) : ∃ ds, Vals ([] : List V) ds ∧ Binds K φ.l_whole_of p_l_whole_of ds :=
  ⟨[], .nil, T.f_l_whole_of.bindsN fun _ _ _ _ _ _ us hl => match us, hl with | [_], _ => rfl⟩
theorem b_Measure_init_1_bottom_top {K : PySem.W.Frag} {mg : Str → Option Value} {φ : Fds} (T : Txt K mg φ) : ∃ its : List Value, KBn K φ.Measure_init p_Measure_init 1 ["bottom", "top"] (fun vs zs => (fun {α : Type} (vs ds zs : List α) => ((vs ++ (zs.drop 1).take 1) ++ (zs.drop 0).take 1)) vs its zs) (fun vs zs => (fun {α : Type} (vs ds zs : List α) => ((vs ++ (zs.drop 1).take 1) ++ (zs.drop 0).take 1)) vs ([V.int 1] : List V) zs) :=
  T.f_Measure_init.kbindsD 1 ["bottom", "top"] (fun {α : Type} (vs ds zs : List α) => ((vs ++ (zs.drop 1).take 1) ++ (zs.drop 0).take 1)) (by simp) (fun a b c => ((a.append ((c.drop 1).take 1)).append ((c.drop 0).take 1))) fun _ _ _ _ _ _ _ us its ws h1 h2 h3 => match us, its, ws, h1, h2, h3 with | [_], [_], [_, _], _, _, _ => ⟨_, rfl, rfl⟩
theorem b_Measure_init_1_top_bottom {K : PySem.W.Frag} {mg : Str → Option Value} {φ : Fds} (T : Txt K mg φ) : ∃ its : List Value, KBn K φ.Measure_init p_Measure_init 1 ["top", "bottom"] (fun vs zs => (fun {α : Type} (vs ds zs : List α) => ((vs ++ (zs.drop 0).take 1) ++ (zs.drop 1).take 1)) vs its zs) (fun vs zs => (fun {α : Type} (vs ds zs : List α) => ((vs ++ (zs.drop 0).take 1) ++ (zs.drop 1).take 1)) vs ([V.int 1] : List V) zs) :=
  T.f_Measure_init.kbindsD 1 ["top", "bottom"] (fun {α : Type} (vs ds zs : List α) => ((vs ++ (zs.drop 0).take 1) ++ (zs.drop 1).take 1)) (by simp) (fun a b c => ((a.append ((c.drop 0).take 1)).append ((c.drop 1).take 1))) fun _ _ _ _ _ _ _ us its ws h1 h2 h3 => match us, its, ws, h1, h2, h3 with | [_], [_], [_, _], _, _, _ => ⟨_, rfl, rfl⟩
theorem b_Measure_init_2_bottom {K : PySem.W.Frag} {mg : Str → Option Value} {φ : Fds} (T : Txt K mg φ) : ∃ its : List Value, KBn K φ.Measure_init p_Measure_init 2 ["bottom"] (fun vs zs => (fun {α : Type} (vs ds zs : List α) => (vs ++ (zs.drop 0).take 1)) vs its zs) (fun vs zs => (fun {α : Type} (vs ds zs : List α) => (vs ++ (zs.drop 0).take 1)) vs ([V.int 1] : List V) zs) :=
  T.f_Measure_init.kbindsD 2 ["bottom"] (fun {α : Type} (vs ds zs : List α) => (vs ++ (zs.drop 0).take 1)) (by simp) (fun a b c => (a.append ((c.drop 0).take 1))) fun _ _ _ _ _ _ _ us its ws h1 h2 h3 => match us, its, ws, h1, h2, h3 with | [_, _], [_], [_], _, _, _ => ⟨_, rfl, rfl⟩
theorem b_l_is_3 {K : PySem.W.Frag} {mg : Str → Option Value} {φ : Fds} (T : Txt K mg φ) : ∃ ds, Vals ([] : List V) ds ∧ Binds K φ.l_is p_l_is ds :=
  ⟨[], .nil, T.f_l_is.bindsN fun _ _ _ _ _ _ us hl => match us, hl with | [_, _, _], _ => rfl⟩
theorem b_Measure_init_1_top {K : PySem.W.Frag} {mg : Str → Option Value} {φ : Fds} (T : Txt K mg φ) : ∃ its : List Value, KBn K φ.Measure_init p_Measure_init 1 ["top"] (fun vs zs => (fun {α : Type} (vs ds zs : List α) => ((vs ++ (zs.drop 0).take 1) ++ (ds.drop 0).take 1)) vs its zs) (fun vs zs => (fun {α : Type} (vs ds zs : List α) => ((vs ++ (zs.drop 0).take 1) ++ (ds.drop 0).take 1)) vs ([V.int 1] : List V) zs) :=
  T.f_Measure_init.kbindsD 1 ["top"] (fun {α : Type} (vs ds zs : List α) => ((vs ++ (zs.drop 0).take 1) ++ (ds.drop 0).take 1)) (by simp) (fun a b c => ((a.append ((c.drop 0).take 1)).append ((b.drop 0).take 1))) fun _ _ _ _ _ _ _ us its ws h1 h2 h3 => match us, its, ws, h1, h2, h3 with | [_], [_], [_], _, _, _ => ⟨_, rfl, rfl⟩
theorem b_l_word_2 {K : PySem.W.Frag} {mg : Str → Option Value} {φ : Fds} (T : Txt K mg φ) : ∃ ds, Vals ([] : List V) ds ∧ Binds K φ.l_word p_l_word ds :=
  ⟨[], .nil, T.f_l_word.bindsN fun _ _ _ _ _ _ us hl => match us, hl with | [_, _], _ => rfl⟩
theorem ok_l_take {P : Program} {w : World} {K : PySem.W.Frag} {mg : Str → Option Value} {base : Heap} {φ : Fds} (T : Txt K mg φ) : FnOk P w K mg base CX0 1 (He.fAd K ("_law_take", none)) φ.l_take p_l_take sp_take := by
  refine T.f_l_take.ok sc_l_take (fun vs H Q E h => ?_) (fun cdv A outer s H vs Q E hr h => ?_)
  · obtain ⟨hd, n, m, rfl, hh, hn, hm, hl, k⟩ := h; rfl
  · obtain ⟨hd, n, m, rfl, hh, hn, hm, hl, k⟩ := h
    refine ⟨_, PSs.nox (pss_cons (ps_if (pt_cmpR op_gt (pe_ix (ixl (K := K)) (pv 0) pe_int (fun _ _ => rfl)) pe_int (nomark _))
      (pss_cons (ps_set (i := 2) sc_l_take.nd rfl (Or.inl rfl) (pe_op op_mod (pe_ix (ixl (K := K)) (pv 0) pe_int (fun _ _ => rfl)) (pv 1)))
      (pss_cons (ps_asg (pe_op op_fd (pe_ix (ixl (K := K)) (pv 0) pe_int (fun _ _ => rfl)) (pv 1)) (pg_sub (pv 0) pe_int set_list))
      (pss_one (ps_ret (pv 2)))))
      pss_nil)
      (pss_cons (ps_asg (pe_op op_add (pe_ix (ixl (K := K)) (pv 0) pe_int (fun _ _ => rfl)) pe_int) (pg_sub (pv 0) pe_int set_list))
      (pss_cons (ps_set (i := 3) sc_l_take.nd rfl (Or.inl rfl) (pe_op op_mod (pe_op op_pow (pe_op op_add (pe_op op_add (pe_ix (ixl (K := K)) (pv 0) pe_int (fun _ _ => rfl)) (pe_op op_mulA (pe_op op_mulA pe_int (pe_ix (ixl (K := K)) (pv 0) pe_int (fun _ _ => rfl))) (pe_ix (ixl (K := K)) (pv 0) pe_int (fun _ _ => rfl)))) pe_int) pe_int) pe_int))
      (pss_cons (ps_set (i := 3) sc_l_take.nd rfl (Or.inl rfl) (pe_op op_mod (pe_op op_mulA (pv 3) (pe_op op_add (pe_op op_mod (pv 3) pe_int) (pe_op op_mulA pe_int (pe_ix (ixl (K := K)) (pv 0) pe_int (fun _ _ => rfl))))) pe_int))
      (pss_one (ps_ret (pe_op op_mod (pe_op op_add (pe_op op_fd (pv 3) pe_int) (pe_op op_fd (pv 3) pe_int)) (pv 1)))))))), ?_⟩
    obtain ⟨a, b, c, h0, ha, hb, hb2, hc, hc2⟩ := hh
    refine ⟨_, rfl, _, _, _, _, rfl, rfl, SqL.of h0, rfl, _, _, rfl, rfl, _, rfl, ?_⟩
    refine ite2 (fun e => ?_) (fun e => ?_)
    · have e0 : 0 < a := of_decide_eq_true e
      refine ⟨_, rfl, _, _, _, _, rfl, rfl, SqL.of h0, rfl, _, rfl, _, _, rfl, rfl, hm, ?_⟩
      refine ⟨_, rfl, _, _, _, _, rfl, rfl, SqL.of h0, rfl, _, rfl, _, _, rfl, rfl, ⟨by omega, hl⟩, _, rfl, _, _, _, _, rfl, rfl, h0, rfl, ?_⟩
      refine ⟨_, rfl, k _ _ (Int.emod_nonneg _ (by omega)) (Int.emod_lt_of_pos _ hm) ⟨a.fdiv m, b, c, upd_same, ?_, hb, hb2, hc, by omega⟩ (Kp.refl _ _).set⟩
      rw [Int.fdiv_eq_ediv_of_nonneg a (by omega)]
      exact Int.ediv_nonneg ha (by omega)
    · have c9 : c ≤ 1000000 := by omega
      refine ⟨_, rfl, _, _, _, _, rfl, rfl, SqL.of h0, rfl, _, _, rfl, rfl, _, rfl, _, _, _, _, rfl, rfl, h0, rfl, ?_⟩
      have h1 : (upd H hd (.lst ([V.int a, V.int b, V.int c].set 2 (V.int (c + 1))))) hd = some (.lst [V.int a, V.int b, V.int (c + 1)]) := upd_same
      have hcc : 0 ≤ 65537 * (c + 1) * (c + 1) := Int.mul_nonneg (Int.mul_nonneg (by omega) (by omega)) (by omega)
      have hcd : 65537 * (c + 1) * (c + 1) ≤ 65537 * 1000001 * 1000001 := Int.mul_le_mul (Int.mul_le_mul_of_nonneg_left (by omega) (by omega)) (by omega) (by omega) (by omega)
      refine ⟨_, rfl, _, _, _, _, rfl, rfl, SqL.of h1, rfl, _, rfl, _, _, _, _, rfl, rfl, SqL.of h1, rfl, _, _, rfl, rfl, .inl (.inl ⟨by decide, by decide⟩), _, rfl, _, _, _, _, rfl, rfl, SqL.of h1, rfl, _, _, rfl, rfl, .inl (.inr ⟨by omega, by omega⟩), _, _, rfl, rfl, _, _, rfl, rfl, _, _, rfl, rfl, ⟨by decide, by decide, by omega⟩, _, _, rfl, rfl, (by show (0 : Int) < 2305843009213693921; decide), ?_⟩
      refine ⟨_, rfl, _, rfl, _, _, rfl, rfl, (by show (0 : Int) < 1000003; decide), _, rfl, _, _, _, _, rfl, rfl, SqL.of h1, rfl, _, _, rfl, rfl, .inl (.inl ⟨by decide, by decide⟩), _, _, rfl, rfl, _, _, rfl, rfl, .inl (.inr ?_), _, _, rfl, rfl, (by show (0 : Int) < 2305843009213693907; decide), ?_⟩
      · generalize (b + 65537 * (c + 1) * (c + 1) + 11) ^ Int.toNat 3 % 2305843009213693921 = z
        constructor <;> omega
      · generalize (b + 65537 * (c + 1) * (c + 1) + 11) ^ Int.toNat 3 % 2305843009213693921 = z
        generalize z * (z % 1000003 + 99991 * (c + 1)) % 2305843009213693907 = y
        refine ⟨_, rfl, _, _, rfl, rfl, ⟨by decide, by decide +kernel⟩, _, rfl, _, _, rfl, rfl, ⟨by decide, by decide +kernel⟩, _, _, rfl, rfl, _, rfl, _, _, rfl, rfl, hm, ?_⟩
        exact k _ _ (Int.emod_nonneg _ (by omega)) (Int.emod_lt_of_pos _ hm) ⟨a, b, c + 1, upd_same, ha, hb, hb2, by omega, by omega⟩ (Kp.refl _ _).set
theorem ok_l_hand_of {P : Program} {w : World} {K : PySem.W.Frag} {mg : Str → Option Value} {base : Heap} {φ : Fds} (T : Txt K mg φ) : FnOk P w K mg base CX0 1 (He.fAd K ("_law_hand_of", none)) φ.l_hand_of p_l_hand_of (sp_hand K) := by
  refine T.f_l_hand_of.ok sc_l_hand_of (fun vs H Q E h => ?_) (fun cdv A outer s H vs Q E hr h => ?_)
  · obtain ⟨a, ns, kk, rfl, hS, hk, k⟩ := h; rfl
  · obtain ⟨a, ns, kk, rfl, hS, hk, k⟩ := h
    refine ⟨_, PSs.nox (pss_cons (ps_set (i := 2) sc_l_hand_of.nd rfl (Or.inl rfl) pe_int)
      (pss_cons (ps_cut (ps_if (pt_cmpR op_lt (pv 1) (pe_callB (id := "len") (lenS (K := K)) (by rfl) T.z_len PySem.boot_len (pa_cons (pv 0) pa_nil)) (nomark _))
      (pss_one (ps_set (i := 2) sc_l_hand_of.nd rfl (Or.inl rfl) (pe_ix (ixl (K := K)) (pv 0) (pv 1) (fun _ _ => rfl))))
      pss_nil))
      (pss_cons (ps_set (i := 3) sc_l_hand_of.nd rfl (Or.inl rfl) (pe_op op_mod (pe_op op_add (pe_op op_add (pe_op op_mod (pv 2) pe_int) (pe_op op_mulA pe_int (pv 1))) pe_int) pe_int))
      (pss_one (ps_ret (pe_lst (pa_cons (pe_op op_mulA (pv 2) (pe_callTy (T := "int") call_int1 (by rfl) T.z_int (by decide +kernel) (pa_cons (pe_cmpR op_ge (pv 2) (pe_op op_pow pe_int pe_int) (nomark _)) pa_nil))) (pa_cons (pv 3) (pa_cons pe_int pa_nil))))))))), ?_⟩
    refine ⟨fun σ' H' => H' = H ∧ ∃ z : Int, σ' = [some (.ref a), some (.int kk), some (.int z), none], ?_, ?_⟩
    · refine ⟨_, rfl, _, rfl, a, _, rfl, .inl hS, _, _, rfl, rfl, _, rfl, ?_⟩
      refine ite2 (fun e => ?_) (fun e => ?_)
      · have e0 : (kk : Int) < ((ns.map V.int).length : Int) := of_decide_eq_true e
        rw [List.length_map] at e0
        have e1 : kk < ns.length := by omega
        refine ⟨_, rfl, _, rfl, a, _, _, V.int ns[kk], rfl, rfl, hS, atI_nat ?_, rfl, _, rfl⟩
        rw [List.getElem?_map, List.getElem?_eq_getElem e1]
        rfl
      · exact ⟨rfl, 0, rfl⟩
    · rintro σ' H' ⟨rfl, z, rfl⟩
      refine ⟨_, rfl, _, _, rfl, rfl, (by show (0 : Int) < 2305843009213693951; decide), _, rfl, _, _, rfl, rfl, .inl (.inl ⟨by decide, by decide⟩), _, _, rfl, rfl, _, _, rfl, rfl, _, _, rfl, rfl, (by show (0 : Int) < 2305843009213693951; decide), ?_⟩
      refine ⟨_, rfl, _, rfl, _, _, rfl, rfl, ⟨by decide, by decide, by decide⟩, _, _, rfl, rfl, .inr ⟨_, rfl, _, _, rfl, rfl, .inl (.inr ?_), _, rfl, by show 3 ≤ sizeLine; decide, fun p hp => ?_⟩⟩
      · cases decide ((10 : Int) ^ Int.toNat 18 ≤ z) <;> exact ⟨by decide, by decide⟩
      · refine k p _ hp (same1 hp) ⟨_, _, _, upd_same, ?_, Int.emod_nonneg _ (by decide), Int.lt_trans (Int.emod_lt_of_pos _ (by decide)) (by decide), by decide, by decide⟩
        by_cases e : (10 : Int) ^ Int.toNat 18 ≤ z
        · rw [decide_eq_true e]
          have e2 : (10 : Int) ^ Int.toNat 18 = 1000000000000000000 := by decide
          rw [e2] at e
          show 0 ≤ z * 1
          omega
        · rw [decide_eq_false e]
          show 0 ≤ z * 0
          omega
theorem ok_is_whole {P : Program} {w : World} {K : PySem.W.Frag} {mg : Str → Option Value} {base : Heap} {φ : Fds} (T : Txt K mg φ) : FnOk P w K mg base CX0 1 (He.fAd K ("is_whole", none)) φ.is_whole p_is_whole sp_whole := by
  refine T.f_is_whole.ok sc_is_whole (fun vs H Q E h => ?_) (fun cdv A outer s H vs Q E hr h => ?_)
  · obtain ⟨n, rfl, k⟩ := h; rfl
  · obtain ⟨n, rfl, k⟩ := h
    refine ⟨_, PSs.nox (pss_one (ps_ret (pe_and (pe_callB (id := "isinstance") (isi (K := K)) (by rfl) T.z_isinstance (by decide +kernel) (pa_cons (pv 0) (pa_cons (pe_bltn (v := .ty "int") rfl T.z_int (by decide +kernel) rfl) pa_nil))) (pe_one (pe_not (pe_callB (id := "isinstance") (isi (K := K)) (by rfl) T.z_isinstance (by decide +kernel) (pa_cons (pv 0) (pa_cons (pe_bltn (v := .ty "bool") rfl T.z_bool (by decide +kernel) rfl) pa_nil)))))))), ?_⟩
    refine ⟨_, rfl, _, _, _, _, _, rfl, .ty _, .base (.int _), kit_ty (r := true) (by decide +kernel), _, rfl, ?_⟩
    refine iteT ?_
    refine ⟨_, rfl, _, _, _, _, _, rfl, .ty _, .base (.int _), kit_ty (r := false) (by decide +kernel), _, rfl, ?_⟩
    exact k
theorem ok_common_part {P : Program} {w : World} {K : PySem.W.Frag} {mg : Str → Option Value} {base : Heap} {φ : Fds} (T : Txt K mg φ) : FnOk P w K mg base CX0 1 (He.fAd K ("common_part", none)) φ.common_part p_common_part sp_common := by
  refine T.f_common_part.ok sc_common_part (fun vs H Q E h => ?_) (fun cdv A outer s H vs Q E hr h => ?_)
  · obtain ⟨a, b, rfl, k⟩ := h; rfl
  · obtain ⟨a, b, rfl, k⟩ := h
    refine ⟨_, PSs.nox (pss_cons (ps_par (i := 2) (j := 3) rfl sc_common_part.nd rfl rfl (by decide) rfl rfl (pa_cons (pe_callB (id := "abs") call_abs (by rfl) T.z_abs (by decide +kernel) (pa_cons (pv 0) pa_nil)) (pa_cons (pe_callB (id := "abs") call_abs (by rfl) T.z_abs (by decide +kernel) (pa_cons (pv 1) pa_nil)) pa_nil)) (by rfl))
      (pss_cons (ps_while PassesOwn.never (pt_cmpR op_gt (pv 3) pe_int (nomark _))
      (pss_one (ps_par (i := 2) (j := 3) rfl sc_common_part.nd rfl rfl (by decide) rfl rfl (pa_cons (pv 3) (pa_cons (pe_op op_mod (pv 2) (pv 3)) pa_nil)) (by rfl))))
      (pss_one (ps_ret (pv 2))))), ?_⟩
    refine ⟨_, rfl, _, rfl, _, rfl, _, rfl, _, _, rfl, ?_⟩
    refine while_by (fun σ H' => H' = H ∧ ∃ g s : Int, σ = [some (.int a), some (.int b), some (.int g), some (.int s)] ∧ 0 ≤ g ∧ 0 ≤ s ∧ Int.gcd g s = Int.gcd a b)
      (fun σ _ => match σ with | [_, _, _, some (.int s)] => s.toNat | _ => 0) ⟨rfl, _, _, rfl, ?_, ?_, ?_⟩ ?_ (fun σ H Q Q' hQ ⟨v, e1, i, j, e2, e3, c, e4, q⟩ => ⟨v, e1, i, j, e2, e3, c, e4, hQ _ _ q⟩)
    · split <;> omega
    · split <;> omega
    · have e1 : (if a < 0 then -a else a) = (a.natAbs : Int) := by split <;> omega
      have e2 : (if b < 0 then -b else b) = (b.natAbs : Int) := by split <;> omega
      rw [e1, e2]
      rfl
    · rintro σ H' ⟨rfl, g, s, rfl, hg, hs, e⟩
      refine ⟨_, rfl, _, _, rfl, rfl, _, rfl, ?_⟩
      refine ite2 (fun c => ?_) (fun c => ?_)
      · have c0 : 0 < s := of_decide_eq_true c
        refine ⟨_, rfl, _, rfl, _, rfl, _, _, rfl, rfl, c0, _, _, rfl, ?_⟩
        refine ⟨⟨rfl, s, g % s, rfl, hs, Int.emod_nonneg _ (by omega), (gcd_step c0 hg).trans e⟩, ?_⟩
        show (g % s).toNat < s.toNat
        have h1 := Int.emod_nonneg g (show s ≠ 0 by omega)
        have h2 := Int.emod_lt_of_pos g c0
        omega
      · have c0 : ¬ 0 < s := fun z => c (decide_eq_true z)
        have s0 : s = 0 := by omega
        subst s0
        refine ⟨_, rfl, ?_⟩
        have eg : g = (Int.gcd a b : Int) := by
          rw [← e, Int.gcd_zero_right]
          omega
        rw [eg]
        exact k
theorem ok_Measure_init {P : Program} {w : World} {K : PySem.W.Frag} {mg : Str → Option Value} {base : Heap} {φ : Fds} (T : Txt K mg φ) : FnOk P w K mg base CX0 2 (He.fAd K ("Measure", some "__init__")) φ.Measure_init p_Measure_init (sp_minit (He.ga K "Measure")) := by
  obtain ⟨_, B0v, B0⟩ := b_is_whole_1 T
  obtain ⟨_, B1v, B1⟩ := b_common_part_2 T
  refine T.f_Measure_init.ok sc_Measure_init (fun vs H Q E h => ?_) (fun cdv A outer s H vs Q E hr h => ?_)
  · obtain ⟨p, dx, a, b, rfl, hp, hb, hl, k⟩ := h; rfl
  · obtain ⟨p, dx, a, b, rfl, hp, hb, hl, k⟩ := h
    refine ⟨_, PSs.nox (pss_cons (ps_if (PW.pt (pw_or (pt_not (pt_val (pe_call (ok_is_whole T) (hr.mono (by decide)) rfl T.g_is_whole T.f_is_whole.kp B0 B0v pass0 (pa_cons (pv 1) pa_nil)))) (pw_or1 (pt_not (pt_val (pe_call (ok_is_whole T) (hr.mono (by decide)) rfl T.g_is_whole T.f_is_whole.kp B0 B0v pass0 (pa_cons (pv 2) pa_nil)))))))
      (pss_one ps_never)
      pss_nil)
      (pss_cons (ps_if (pt_cmpR op_eq (pv 2) pe_int (nomark _))
      (pss_one ps_never)
      pss_nil)
      (pss_cons (ps_set (i := 3) sc_Measure_init.nd rfl (Or.inl rfl) (pe_call (ok_common_part T) (hr.mono (by decide)) rfl T.g_common_part T.f_common_part.kp B1 B1v pass0 (pa_cons (pv 1) (pa_cons (pv 2) pa_nil))))
      (pss_cons (ps_cut (ps_if (pt_cmpR op_lt (pv 2) pe_int (nomark _))
      (pss_one (ps_set (i := 3) sc_Measure_init.nd rfl (Or.inl rfl) (pe_un un_neg (pv 3))))
      pss_nil))
      (pss_cons (ps_fld (pv 0) (pe_op op_fd (pv 1) (pv 3)) rfl)
      (pss_one (ps_fld (pv 0) (pe_op op_fd (pv 2) (pv 3)) rfl))))))), ?_⟩
    refine ⟨_, rfl, a, rfl, _, rfl, ?_⟩
    refine iteF ?_
    refine ⟨_, rfl, b, rfl, _, rfl, ?_⟩
    refine iteF ?_
    refine ⟨_, rfl, rfl, _, rfl, ?_⟩
    rw [dI]
    refine ite2 (fun e => absurd (of_decide_eq_true e) hb) (fun _ => ?_)
    refine ⟨_, rfl, _, rfl, a, b, rfl, ?_⟩
    refine ⟨fun σ' H' => H' = H ∧ ∃ c : Int, c = sgn b * (Int.gcd a b : Int) ∧ σ' = [some (.ref p), some (.int a), some (.int b), some (.int c)], ?_, ?_⟩
    · refine ⟨_, rfl, _, _, rfl, rfl, _, rfl, ?_⟩
      refine ite2 (fun e => ?_) (fun e => ?_)
      · have e0 : b < 0 := of_decide_eq_true e
        refine ⟨_, rfl, _, rfl, rfl, _, ?_, rfl⟩
        unfold sgn
        rw [if_neg (by omega), Int.neg_one_mul]
      · have e0 : ¬ b < 0 := fun z => e (decide_eq_true z)
        refine ⟨rfl, _, ?_, rfl⟩
        unfold sgn
        rw [if_pos (by omega), Int.one_mul]
    · rintro σ' H' ⟨rfl, c, hc, rfl⟩
      obtain ⟨c0, cl, fr⟩ := fr_mk hb hc
      have c9 : c.natAbs.log2 < 9000 := by
        refine Nat.lt_of_le_of_lt ?_ hl
        exact (Nat.le_log2 (by omega)).mpr (Nat.le_trans (Nat.log2_self_le (by omega)) cl)
      refine ⟨_, rfl, _, rfl, _, _, rfl, rfl, ⟨c0, c9⟩, _, rfl, p, _, dx, _, rfl, hp, T.cl_Measure, T.na_Measure_top, (by show 0 < 1000; decide), ?_⟩
      refine ⟨_, rfl, _, rfl, _, _, rfl, rfl, ⟨c0, c9⟩, _, rfl, p, _, dx, _, rfl, upd_same, T.cl_Measure, T.na_Measure_bottom, (by show 1 < 1000; decide), ?_⟩
      refine k _ _ _ fr ?_ fun q o e nq => ?_
      · rw [upd_same, mf_put]
      · rw [upd_ne nq, upd_ne nq]
        exact e
theorem okb_is_whole {P : Program} {w : World} {K : PySem.W.Frag} {mg : Str → Option Value} {base : Heap} {φ : Fds} (T : Txt K mg φ) : FnOk P w K mg base CX0 1 (He.fAd K ("is_whole", none)) φ.is_whole p_is_whole (sp_wholeB (He.ga K "Measure")) := by
  refine T.f_is_whole.ok sc_is_whole (fun vs H Q E h => ?_) (fun cdv A outer s H vs Q E hr h => ?_)
  · obtain ⟨v, rfl, o, k⟩ := h; rfl
  · obtain ⟨v, rfl, o, k⟩ := h
    refine ⟨_, PSs.nox (pss_one (ps_ret (pe_and (pe_callB (id := "isinstance") (isi (K := K)) (by rfl) T.z_isinstance (by decide +kernel) (pa_cons (pv 0) (pa_cons (pe_bltn (v := .ty "int") rfl T.z_int (by decide +kernel) rfl) pa_nil))) (pe_one (pe_not (pe_callB (id := "isinstance") (isi (K := K)) (by rfl) T.z_isinstance (by decide +kernel) (pa_cons (pv 0) (pa_cons (pe_bltn (v := .ty "bool") rfl T.z_bool (by decide +kernel) rfl) pa_nil)))))))), ?_⟩
    rcases o with ⟨⟨hd, t⟩, nn⟩ | ⟨pm, tm, um, rfl, ⟨dm, mm⟩⟩
    · rcases t with rfl | ⟨b, rfl⟩ | ⟨i, rfl⟩ | ⟨z, rfl⟩ | ⟨a, xs, rfl, n, t⟩ | ⟨a, xs, rfl, t⟩ | ⟨a, xs, rfl, t⟩
      · exact ⟨_, rfl, _, _, _, _, false, rfl, .ty _, .base .non, kit_ty (r := false) (by decide +kernel), _, rfl, iteF k⟩
      · exact ⟨_, rfl, _, _, _, _, true, rfl, .ty _, .base (.bl b), kit_ty (r := true) (by decide +kernel), _, rfl, iteT ⟨_, rfl, _, _, _, _, true, rfl, .ty _, .base (.bl b), kit_ty (r := true) (by decide +kernel), _, rfl, k⟩⟩
      · exact absurd rfl (nn i)
      · exact ⟨_, rfl, _, _, _, _, false, rfl, .ty _, .base (.str z), kit_ty (r := false) (by decide +kernel), _, rfl, iteF k⟩
      · exact ⟨_, rfl, _, _, _, _, false, rfl, .ty _, .base (.lst t), kit_ty (r := false) (by decide +kernel), _, rfl, iteF k⟩
      · exact ⟨_, rfl, _, _, _, _, false, rfl, .ty _, .base (.tup t), kit_ty (r := false) (by decide +kernel), _, rfl, iteF k⟩
      · exact ⟨_, rfl, _, _, _, _, false, rfl, .ty _, .base (.dK t), kit_ty (r := false) (by decide +kernel), _, rfl, iteF k⟩
    · exact ⟨_, rfl, _, _, _, _, false, rfl, .ty _, tyM mm T.cl_Measure T.ii_Measure, T.k_Measure_int, _, rfl, iteF k⟩
theorem okc_is_whole {P : Program} {w : World} {K : PySem.W.Frag} {mg : Str → Option Value} {base : Heap} {φ : Fds} (T : Txt K mg φ) : FnOk P w K mg base CX0 1 (He.fAd K ("is_whole", none)) φ.is_whole p_is_whole (fun vs H Q E => sp_whole vs H Q E ∨ (sp_wholeB (He.ga K "Measure")) vs H Q E) := either (ok_is_whole T) (okb_is_whole T)
theorem okb_Measure_init {P : Program} {w : World} {K : PySem.W.Frag} {mg : Str → Option Value} {base : Heap} {φ : Fds} (T : Txt K mg φ) : FnOk P w K mg base (L2.CX P w) 2 (He.fAd K ("Measure", some "__init__")) φ.Measure_init p_Measure_init (sp_mbad (He.ga K "Measure") (He.ga K "NoMeasure") (He.ga K "NoBottom")) := by
  obtain ⟨_, B0v, B0⟩ := b_is_whole_1 T
  obtain ⟨_, B1v, B1⟩ := b_common_part_2 T
  refine T.f_Measure_init.ok sc_Measure_init (fun vs H Q E h => ?_) (fun cdv A outer s H vs Q E hr h => ?_)
  · obtain ⟨p, dx, x, y, C, rfl, hp, B, k⟩ := h; rfl
  · obtain ⟨p, dx, x, y, C, rfl, hp, B, k⟩ := h
    refine ⟨_, (pss_cons (ps_if (PW.pt (pw_or (pt_not (pt_val (pe_call (okc_is_whole T) (hr.mono (by decide)) rfl T.g_is_whole T.f_is_whole.kp B0 B0v pass0 (pa_cons (pv 1) pa_nil)))) (pw_or1 (pt_not (pt_val (pe_call (okc_is_whole T) (hr.mono (by decide)) rfl T.g_is_whole T.f_is_whole.kp B0 B0v pass0 (pa_cons (pv 2) pa_nil)))))))
      (pss_one (ps_raise rfl (takes_of rfl rfl rfl rfl) (pmk_own PySem.F.excBase_ValueError T.xf_NoMeasure.e T.g_NoMeasure T.xf_NoMeasure.k (raises_own T.xf_NoMeasure.b T.xf_NoMeasure.t) rfl)))
      pss_nil)
      (pss_cons (ps_if (pt_cmpR op_eq (pv 2) pe_int (nomark _))
      (pss_one (ps_raise rfl (takes_of rfl rfl rfl rfl) (pmk_own PySem.F.excBase_ZeroDivisionError T.xf_NoBottom.e T.g_NoBottom T.xf_NoBottom.k (raises_own T.xf_NoBottom.b T.xf_NoBottom.t) rfl)))
      pss_nil)
      (pss_cons (ps_set (i := 3) sc_Measure_init.nd rfl (Or.inl rfl) (pe_call (ok_common_part T) (hr.mono (by decide)) rfl T.g_common_part T.f_common_part.kp B1 B1v pass0 (pa_cons (pv 1) (pa_cons (pv 2) pa_nil))))
      (pss_cons (ps_cut (ps_if (pt_cmpR op_lt (pv 2) pe_int (nomark _))
      (pss_one (ps_set (i := 3) sc_Measure_init.nd rfl (Or.inl rfl) (pe_un un_neg (pv 3))))
      pss_nil))
      (pss_cons (ps_fld (pv 0) (pe_op op_fd (pv 1) (pv 3)) rfl)
      (pss_one (ps_fld (pv 0) (pe_op op_fd (pv 2) (pv 3)) rfl))))))), ?_⟩
    rcases B with ⟨o, rfl⟩ | ⟨⟨i, rfl⟩, B⟩
    · exact ⟨_, rfl, .inr ⟨x, rfl, o, _, rfl, iteT (iteT k)⟩⟩
    refine ⟨_, rfl, .inl ⟨i, rfl, _, rfl, iteF ?_⟩⟩
    rcases B with ⟨o, rfl⟩ | ⟨rfl, rfl⟩
    · exact ⟨_, rfl, .inr ⟨y, rfl, o, _, rfl, iteT k⟩⟩
    refine ⟨_, rfl, .inl ⟨0, rfl, _, rfl, iteF ?_⟩⟩
    exact ⟨_, rfl, rfl, _, rfl, iteT k⟩
theorem okc_Measure_init {P : Program} {w : World} {K : PySem.W.Frag} {mg : Str → Option Value} {base : Heap} {φ : Fds} (T : Txt K mg φ) : FnOk P w K mg base (L2.CX P w) 2 (He.fAd K ("Measure", some "__init__")) φ.Measure_init p_Measure_init (fun vs H Q E => (sp_minit (He.ga K "Measure")) vs H Q E ∨ (sp_mbad (He.ga K "Measure") (He.ga K "NoMeasure") (He.ga K "NoBottom")) vs H Q E) := either (lift (ok_Measure_init T)) (okb_Measure_init T)
theorem ok_l_word {P : Program} {w : World} {K : PySem.W.Frag} {mg : Str → Option Value} {base : Heap} {φ : Fds} (T : Txt K mg φ) : FnOk P w K mg base CX0 4 (He.fAd K ("_law_word", none)) φ.l_word p_l_word (sp_word1 (He.ga K "Measure") (He.ga K "NoMeasure") (He.ga K "NoBottom")) := by
  obtain ⟨_, B0v, B0⟩ := b_Measure_init_3 T
  refine T.f_l_word.ok sc_l_word (fun vs H Q E h => ?_) (fun cdv A outer s H vs Q E hr h => ?_)
  · obtain ⟨x, y, rfl, B⟩ := h; rfl
  · obtain ⟨x, y, rfl, B⟩ := h
    refine ⟨_, PSs.nox (pss_cons (ps_set (i := 2) sc_l_word.nd rfl (Or.inl rfl) pe_str)
      (pss_cons (ps_tryAll (i := 3) rfl rfl sc_l_word.nd rfl rfl (fun W pn xe tk _ => (pss_one (ps_expr (pe_makeS T.mk_Measure (okc_Measure_init T) (hr.mono (by decide)) rfl T.g_Measure B0 B0v (fun σ => passAt tk σ) (pa_cons (pv 0) (pa_cons (pv 1) pa_nil)))))) (Clauses.more ⟨rfl, by decide, .inl T.g_LadderError⟩ (fun a oe cls d pn hz hf => (pss_cons (ps_set (i := 4) sc_l_word.nd rfl (Or.inl rfl) (pe_callB (id := "isinstance") (isXT (K := K) hz hf) (by rfl) T.z_isinstance (by decide +kernel) (pa_cons (pv 3) (pa_cons (pe_tup (pa_cons (pe_glob (v := .ref (He.ga K "NoStretch")) rfl T.g_NoStretch rfl) (pa_cons (pe_glob (v := .ref (He.ga K "NoLadder")) rfl T.g_NoLadder rfl) (pa_cons (pe_glob (v := .ref (He.ga K "NoLine")) rfl T.g_NoLine rfl) (pa_cons (pe_glob (v := .ref (He.ga K "Slip")) rfl T.g_Slip rfl) (pa_cons (pe_glob (v := .ref (He.ga K "NoText")) rfl T.g_NoText rfl) pa_nil)))))) pa_nil))))
      (pss_one (ps_set (i := 2) sc_l_word.nd rfl (Or.inl rfl) (pe_ifExp (PW.pt (pw_and (pt_val (pe_callB (id := "isinstance") (isX (K := K) hz hf) (by rfl) T.z_isinstance (by decide +kernel) (pa_cons (pv 3) (pa_cons (pe_glob (v := .ref (He.ga K "NoMeasure")) rfl T.g_NoMeasure rfl) pa_nil)))) (pw_and (pt_val (pe_callB (id := "isinstance") (isX (K := K) hz hf) (by rfl) T.z_isinstance (by decide +kernel) (pa_cons (pv 3) (pa_cons (pe_bltn (v := .ty "ValueError") rfl T.z_ValueError (by decide +kernel) rfl) pa_nil)))) (pw_and1 (pt_not (pt_val (pv 4))))))) pe_str pe_str))))) (Clauses.more ⟨rfl, by decide, .inl T.g_NoBottom⟩ (fun a oe cls d pn hz hf => (pss_one (ps_set (i := 2) sc_l_word.nd rfl (Or.inl rfl) (pe_ifExp (PW.pt (pw_and (pt_val (pe_callB (id := "isinstance") (isX (K := K) hz hf) (by rfl) T.z_isinstance (by decide +kernel) (pa_cons (pv 3) (pa_cons (pe_bltn (v := .ty "ZeroDivisionError") rfl T.z_ZeroDivisionError (by decide +kernel) rfl) pa_nil)))) (pw_and1 (pt_not (pt_val (pe_callB (id := "isinstance") (isX (K := K) hz hf) (by rfl) T.z_isinstance (by decide +kernel) (pa_cons (pv 3) (pa_cons (pe_bltn (v := .ty "ValueError") rfl T.z_ValueError (by decide +kernel) rfl) pa_nil)))))))) pe_str pe_str)))) Clauses.none)))
      (pss_one (ps_ret (pv 2))))), ?_⟩
    refine ⟨_, rfl, _, rfl, ?_⟩
    intro o dx no nd ne
    have sx : Same H (upd (upd H dx (.own o)) o (.ins (He.ga K "Measure") dx [])) := fun c u e => by
      rw [upd_ne (ne_of_none e no)]; exact up1 nd e
    rcases B with ⟨a, b, rfl, rfl, hb, sb, k⟩ | ⟨B, k⟩ | ⟨B, ⟨a, rfl⟩, rfl, k⟩
    · refine .inl ⟨o, dx, a, b, rfl, upd_same, hb, sb.log (by decide) (by decide), fun t u H' fr hx kp => ⟨rfl, ?_⟩⟩
      exact ⟨_, rfl, k H' (made_same no nd kp)⟩
    · refine .inr ⟨o, dx, x, y, _, rfl, upd_same, B.same sx, true, T.xm_NoMeasure_LadderError, fun _ a na => ?_, fun q => nomatch q⟩
      refine ⟨_, rfl, by show 5 ≤ sizeLine; decide, fun tp ntp => ⟨_, tp, _, _, false, rfl, rfl, T.xc_NoMeasure, rfl, upd_same, (.cons (.own _) (.cons (.own _) (.cons (.own _) (.cons (.own _) (.cons (.own _) .nil))))), (kitAny_cons T.k_NoMeasure_NoStretch (fun _ => (kitAny_cons T.k_NoMeasure_NoLadder (fun _ => (kitAny_cons T.k_NoMeasure_NoLine (fun _ => (kitAny_cons T.k_NoMeasure_Slip (fun _ => (kitAny_cons T.k_NoMeasure_NoText (fun _ => kitAny_nil) (fun z => nomatch z))) (fun z => nomatch z))) (fun z => nomatch z))) (fun z => nomatch z))) (fun z => nomatch z)), ?_⟩⟩
      refine ⟨_, rfl, _, rfl, rfl, T.xc_NoMeasure, _, _, true, rfl, (fun u r => r), T.k_NoMeasure_NoMeasure, _, rfl, iteT ?_⟩
      refine ⟨_, rfl, _, rfl, rfl, T.xc_NoMeasure, _, _, true, rfl, (fun u r => r), T.k_NoMeasure_ValueError, _, rfl, iteT ?_⟩
      refine ⟨_, rfl, _, rfl, iteT ?_⟩
      exact ⟨_, rfl, k _ (sx.up ntp)⟩
    · refine .inr ⟨o, dx, _, _, _, rfl, upd_same, B.same sx, false, T.xm_NoBottom_LadderError, (fun q => nomatch q), fun _ => ⟨true, T.xm_NoBottom_NoBottom, fun _ a na => ?_, fun q => nomatch q⟩⟩
      refine ⟨_, rfl, _, rfl, rfl, T.xc_NoBottom, _, _, true, rfl, (fun u r => r), T.k_NoBottom_ZeroDivisionError, _, rfl, iteT ?_⟩
      refine ⟨_, rfl, _, rfl, rfl, T.xc_NoBottom, _, _, false, rfl, (fun u r => r), T.k_NoBottom_ValueError, _, rfl, iteT ?_⟩
      exact ⟨_, rfl, k _ sx⟩
theorem ok_l_nest {P : Program} {w : World} {K : PySem.W.Frag} {mg : Str → Option Value} {base : Heap} {φ : Fds} (T : Txt K mg φ) : FnOk P w K mg base CX0 1 (He.fAd K ("_law_nest", none)) φ.l_nest p_l_nest sp_nest := by
  refine T.f_l_nest.ok sc_l_nest (fun vs H Q E h => ?_) (fun cdv A outer s H vs Q E hr h => ?_)
  · obtain ⟨n, rfl, n1, n2, k⟩ := h; rfl
  · obtain ⟨n, rfl, n1, n2, k⟩ := h
    refine ⟨_, PSs.nox (pss_cons (ps_set (i := 1) sc_l_nest.nd rfl (Or.inl rfl) pe_int)
      (pss_cons (ps_for PassesOwn.never rfl (pi_range1 rfl T.z_range (pa_cons (pv 0) pa_nil)) (pg_name (i := 2) sc_l_nest.nd rfl (Or.inl rfl))
      (pss_one (ps_set (i := 1) sc_l_nest.nd rfl (Or.inl rfl) (pe_ix (ixl (K := K)) (pe_lst (pa_cons (pe_tup (pa_cons (pv 1) pa_nil)) (pa_cons (pe_lst (pa_cons (pv 1) pa_nil)) (pa_cons (pe_tup (pa_cons (pv 1) (pa_cons pe_int pa_nil))) pa_nil)))) (pe_op op_mod (pv 2) pe_int) (fun _ _ => rfl)))))
      (pss_one (ps_ret (pv 1))))), ?_⟩
    refine ⟨_, rfl, _, rfl, by omega, by omega, for_range (fun i σ H' => ∃ (v : V) (u : Option V), σ = [some (.int n), some v, u] ∧ Same H H' ∧ ((i = 0 ∧ v = .int 7) ∨ ∃ (a : Addr) (xs : List V), v = .ref a ∧ H a = none ∧ (H' a = some (.lst xs) ∨ H' a = some (.tup xs)))) ⟨_, _, rfl, Same.refl _, .inl ⟨rfl, rfl⟩⟩ ?_ ?_⟩
    · rintro i σ H1 hi ⟨v, u, rfl, s1, _⟩
      refine ⟨_, rfl, by show 1 ≤ sizeLine; decide, fun p1 q1 => ?_⟩
      refine ⟨_, rfl, by show 1 ≤ sizeLine; decide, fun p2 q2 => ?_⟩
      refine ⟨_, rfl, by show 2 ≤ sizeLine; decide, fun p3 q3 => ?_⟩
      refine ⟨by show 3 ≤ sizeLine; decide, fun p4 q4 => ?_⟩
      refine ⟨_, rfl, _, _, rfl, rfl, (by show (0 : Int) < 3; decide), ?_⟩
      have hat : atI [V.ref p1, V.ref p2, V.ref p3] ((0 + (i : Int)) % 3) = some (V.ref p1) ∨ atI [V.ref p1, V.ref p2, V.ref p3] ((0 + (i : Int)) % 3) = some (V.ref p2) ∨ atI [V.ref p1, V.ref p2, V.ref p3] ((0 + (i : Int)) % 3) = some (V.ref p3) := by
        have m0 := Int.emod_nonneg (0 + (i : Int)) (show (3 : Int) ≠ 0 by decide)
        have m1 := Int.emod_lt_of_pos (0 + (i : Int)) (show (0 : Int) < 3 by decide)
        generalize (0 + (i : Int)) % 3 = m at m0 m1 ⊢
        obtain rfl | rfl | rfl : m = 0 ∨ m = 1 ∨ m = 2 := by omega
        · exact .inl rfl
        · exact .inr (.inl rfl)
        · exact .inr (.inr rfl)
      have f1 : H p1 = none := s1.free q1
      have f2 : H p2 = none := (s1.up q1).free q2
      have f3 : H p3 = none := ((s1.up q1).up q2).free q3
      rcases hat with hat | hat | hat
      · refine ⟨p4, _, _, _, rfl, rfl, SqL.of upd_same, hat, ?_⟩
        exact ⟨_, _, rfl, (((s1.up q1).up q2).up q3).up q4, .inr ⟨p1, _, rfl, f1, .inr (up1 q4 (up1 q3 (up1 q2 upd_same)))⟩⟩
      · refine ⟨p4, _, _, _, rfl, rfl, SqL.of upd_same, hat, ?_⟩
        exact ⟨_, _, rfl, (((s1.up q1).up q2).up q3).up q4, .inr ⟨p2, _, rfl, f2, .inl (up1 q4 (up1 q3 upd_same))⟩⟩
      · refine ⟨p4, _, _, _, rfl, rfl, SqL.of upd_same, hat, ?_⟩
        exact ⟨_, _, rfl, (((s1.up q1).up q2).up q3).up q4, .inr ⟨p3, _, rfl, f3, .inr (up1 q4 upd_same)⟩⟩
    · rintro σ H1 ⟨v, u, rfl, s1, h⟩
      rcases h with ⟨e, _⟩ | ⟨a, xs, rfl, na, h⟩
      · omega
      · exact ⟨_, rfl, k a xs H1 s1 na h⟩
theorem ok_l_any_thing {P : Program} {w : World} {K : PySem.W.Frag} {mg : Str → Option Value} {base : Heap} {φ : Fds} (T : Txt K mg φ) : FnOk P w K mg base CX0 2 (He.fAd K ("_law_any_thing", none)) φ.l_any_thing p_l_any_thing sp_thing := by
  obtain ⟨_, B0v, B0⟩ := b_l_nest_1 T
  obtain ⟨_, B1v, B1⟩ := b_l_take_2 T
  refine T.f_l_any_thing.ok sc_l_any_thing (fun vs H Q E h => ?_) (fun cdv A outer s H vs Q E hr h => ?_)
  · obtain ⟨h, n, rfl, hh, hn, k⟩ := h; rfl
  · obtain ⟨h, n, rfl, hh, hn, k⟩ := h
    refine ⟨_, PSs.nox (pss_cons (ps_set (i := 1) sc_l_any_thing.nd rfl (Or.inl rfl) (pe_lst (pa_cons pe_non (pa_cons pe_bl (pa_cons pe_bl (pa_cons (pe_tup pa_nil) (pa_cons (pe_tup (pa_cons pe_int pa_nil)) (pa_cons (pe_lst pa_nil) (pa_cons (pe_lst (pa_cons pe_int pa_nil)) (pa_cons pe_dnewK (pa_cons (pe_disp (pps_cons pe_int pe_int pps_nil) (by rfl) (by rfl) (fun z => by cases z) (by decide)) (pa_cons (pe_lst (pa_cons (pe_tup (pa_cons pe_int pa_nil)) pa_nil)) (pa_cons (pe_tup (pa_cons pe_int (pa_cons pe_int pa_nil))) (pa_cons (pe_tup (pa_cons pe_non (pa_cons pe_int pa_nil))) (pa_cons (pe_lst (pa_cons (pe_lst (pa_cons pe_int pa_nil)) (pa_cons pe_int pa_nil))) pa_nil)))))))))))))))
      (pss_one (ps_ret (pe_ix (ixl (K := K)) (pe_op op_cat (pv 1) (pe_lst (pa_cons (pe_call (ok_l_nest T) (hr.mono (by decide)) rfl T.g_l_nest T.f_l_nest.kp B0 B0v pass0 (pa_cons pe_int pa_nil)) (pa_cons (pe_call (ok_l_nest T) (hr.mono (by decide)) rfl T.g_l_nest T.f_l_nest.kp B0 B0v pass0 (pa_cons (pe_op op_add pe_int (pe_call (ok_l_take T) (hr.mono (by decide)) rfl T.g_l_take T.f_l_take.kp B1 B1v pass0 (pa_cons (pv 0) (pa_cons pe_int pa_nil)))) pa_nil)) pa_nil)))) (pe_call (ok_l_take T) (hr.mono (by decide)) rfl T.g_l_take T.f_l_take.kp B1 B1v pass0 (pa_cons (pv 0) (pa_cons pe_int pa_nil))) (fun _ _ => rfl))))), ?_⟩
    refine ⟨by show 0 ≤ sizeLine; decide, fun t1 n1 => ?_⟩
    refine ⟨by show 1 ≤ sizeLine; decide, fun t2 n2 => ?_⟩
    refine ⟨by show 0 ≤ sizeLine; decide, fun t3 n3 => ?_⟩
    refine ⟨by show 1 ≤ sizeLine; decide, fun t4 n4 => ?_⟩
    refine fun t5 n5 => ?_
    refine fun t6 n6 => ⟨upd_same, [(.inl 1, .int 2)], rfl, by decide, ?_⟩
    refine ⟨by show 1 ≤ sizeLine; decide, fun t7 n7 => ⟨by show 1 ≤ sizeLine; decide, fun t8 n8 => ?_⟩⟩
    refine ⟨by show 2 ≤ sizeLine; decide, fun t9 n9 => ?_⟩
    refine ⟨by show 2 ≤ sizeLine; decide, fun t10 n10 => ?_⟩
    refine ⟨by show 1 ≤ sizeLine; decide, fun t11 n11 => ⟨by show 2 ≤ sizeLine; decide, fun t12 n12 => ?_⟩⟩
    refine ⟨by show 13 ≤ sizeLine; decide, fun l1 m1 => ?_⟩
    have H6 : ∀ {x : Addr} {o : HO} {G : Hp} {w : HO}, G t6 = none → G x = some o → upd (upd G t6 (.dK [])) t6 w x = some o := fun e1 e2 => by rw [upd_upd]; exact up1 e1 e2
    have N6 : ∀ {G : Hp} {w : HO}, G t6 = none → Same G (upd (upd G t6 (.dK [])) t6 w) := fun e1 => by rw [upd_upd]; exact same1 e1
    have hne : ∀ {p : Addr} {G : Hp}, G p = none → Same H G → p ≠ h := fun e s => (hh.same s).ne e
    have z3 : t3 ≠ h := hne n3 ((same1 n1 : Same H _).up n2)
    have z4 : t4 ≠ h := hne n4 (((same1 n1 : Same H _).up n2).up n3)
    have S6 := (((((same1 n1 : Same H _).up n2).up n3).up n4).up n5 (u := .dK [])).trans (N6 (w := .dK (mergeK [] [(.inl 1, .int 2)])) n6)
    have z8 : t8 ≠ h := hne n8 (S6.up n7)
    have z11 : t11 ≠ h := hne n11 ((((S6.up n7).up n8).up n9).up n10)
    have z12 : t12 ≠ h := hne n12 (((((S6.up n7).up n8).up n9).up n10).up n11)
    have zl : l1 ≠ h := hne m1 ((((((S6.up n7).up n8).up n9).up n10).up n11).up n12)
    generalize hG : upd _ l1 _ = HG
    have SG : Same H HG := by
      rw [← hG]
      exact (((((((S6.up n7).up n8).up n9).up n10).up n11).up n12).up m1)
    have g1 : HG t1 = some (.tup []) := by
      rw [← hG]; exact up1 m1 (up1 n12 (up1 n11 (up1 n10 (up1 n9 (up1 n8 (up1 n7 (H6 n6 (up1 n5 (up1 n4 (up1 n3 (up1 n2 upd_same)))))))))))
    have g2 : HG t2 = some (.tup [.int 1]) := by
      rw [← hG]; exact up1 m1 (up1 n12 (up1 n11 (up1 n10 (up1 n9 (up1 n8 (up1 n7 (H6 n6 (up1 n5 (up1 n4 (up1 n3 upd_same))))))))))
    have g3 : HG t3 = some (.lst []) := by
      rw [← hG]; exact up1 m1 (up1 n12 (up1 n11 (up1 n10 (up1 n9 (up1 n8 (up1 n7 (H6 n6 (up1 n5 (up1 n4 upd_same)))))))))
    have g4 : HG t4 = some (.lst [.int 1]) := by
      rw [← hG]; exact up1 m1 (up1 n12 (up1 n11 (up1 n10 (up1 n9 (up1 n8 (up1 n7 (H6 n6 (up1 n5 upd_same))))))))
    have g5 : HG t5 = some (.dK []) := by
      rw [← hG]; exact up1 m1 (up1 n12 (up1 n11 (up1 n10 (up1 n9 (up1 n8 (up1 n7 (H6 n6 upd_same)))))))
    have g6 : HG t6 = some (.dK (mergeK [] [(.inl 1, .int 2)])) := by
      rw [← hG]; exact up1 m1 (up1 n12 (up1 n11 (up1 n10 (up1 n9 (up1 n8 (up1 n7 upd_same))))))
    have g8 : HG t8 = some (.lst [.ref t7]) := by
      rw [← hG]; exact up1 m1 (up1 n12 (up1 n11 (up1 n10 (up1 n9 upd_same))))
    have g9 : HG t9 = some (.tup [.int 1, .int 2]) := by
      rw [← hG]; exact up1 m1 (up1 n12 (up1 n11 (up1 n10 upd_same)))
    have g10 : HG t10 = some (.tup [.non, .int 3]) := by
      rw [← hG]; exact up1 m1 (up1 n12 (up1 n11 upd_same))
    have g12 : HG t12 = some (.lst [.ref t11, .int 2]) := by
      rw [← hG]; exact up1 m1 upd_same
    have gl : HG l1 = some (.lst [.non, .bl true, .bl false, .ref t1, .ref t2, .ref t3, .ref t4, .ref t5, .ref t6, .ref t8, .ref t9, .ref t10, .ref t12]) := by
      rw [← hG]; exact upd_same
    have A13 : ∀ x ∈ ([.non, .bl true, .bl false, .ref t1, .ref t2, .ref t3, .ref t4, .ref t5, .ref t6, .ref t8, .ref t9, .ref t10, .ref t12] : List V), Thing h HG x := by
      intro x hx
      simp only [List.mem_cons, List.not_mem_nil, or_false] at hx
      rcases hx with rfl | rfl | rfl | rfl | rfl | rfl | rfl | rfl | rfl | rfl | rfl | rfl | rfl
      · exact .inl rfl
      · exact .inr (.inl ⟨_, rfl⟩)
      · exact .inr (.inl ⟨_, rfl⟩)
      · exact .of_tup g1
      · exact .of_tup g2
      · exact .of_lst z3 g3
      · exact .of_lst z4 g4
      · exact .of_dct g5
      · exact .of_dct g6
      · exact .of_lst z8 g8
      · exact .of_tup g9
      · exact .of_tup g10
      · exact .of_lst z12 g12
    have N13 : ∀ x ∈ ([.non, .bl true, .bl false, .ref t1, .ref t2, .ref t3, .ref t4, .ref t5, .ref t6, .ref t8, .ref t9, .ref t10, .ref t12] : List V), ∀ i, x ≠ .int i := by
      intro x hx i
      simp only [List.mem_cons, List.not_mem_nil, or_false] at hx
      rcases hx with rfl | rfl | rfl | rfl | rfl | rfl | rfl | rfl | rfl | rfl | rfl | rfl | rfl <;> exact fun z => nomatch z
    generalize hX : ([.non, .bl true, .bl false, .ref t1, .ref t2, .ref t3, .ref t4, .ref t5, .ref t6, .ref t8, .ref t9, .ref t10, .ref t12] : List V) = xs at A13 N13 gl
    have lx : xs.length = 13 := by rw [← hX]; rfl
    clear g1 g2 g3 g4 g5 g6 g8 g9 g10 g12 hX hG S6 H6 N6
    have hhG := hh.same SG
    refine ⟨_, rfl, _, rfl, by decide, by decide, fun a1 x1 HA sA nA eA => ?_⟩
    have ta : Thing h HA (.ref a1) := by
      rcases eA with e | e
      · exact .of_lst (hhG.ne nA) e
      · exact .of_tup e
    have hhA := hhG.same sA
    refine ⟨_, rfl, h, n, _, rfl, hhA, by omega, by decide, by decide +kernel, fun d HB d0 d1 hhB kB => ?_⟩
    refine ⟨_, _, rfl, rfl, _, rfl, by omega, by omega, fun a2 x2 HC sC nC eC => ?_⟩
    have tb : Thing h HC (.ref a2) := by
      rcases eC with e | e
      · exact .of_lst (hhB.ne nC) e
      · exact .of_tup e
    have hhC := hhB.same sC
    refine ⟨by show 2 ≤ sizeLine; decide, fun l2 m2 => ?_⟩
    have glC : HC l1 = some (.lst xs) := sC _ _ (kB _ _ (sA _ _ gl) zl)
    refine ⟨l1, l2, _, _, rfl, rfl, up1 m2 glC, upd_same, by rw [lx]; show 15 ≤ sizeLine; decide, fun l3 m3 => ?_⟩
    have hhD := (hhC.up (u := .lst [.ref a1, .ref a2]) m2)
    have z3' : l3 ≠ h := hhD.ne m3
    refine ⟨_, rfl, h, n + 1, _, rfl, hhD.up m3, by omega, by decide, by decide +kernel, fun e HE e0 e1 hhE kE => ?_⟩
    have all : ∀ x ∈ xs ++ [.ref a1, .ref a2], Thing h HE x := by
      intro x hx
      have sCD : Same HC (upd (upd HC l2 (.lst [.ref a1, .ref a2])) l3 (.lst (xs ++ [.ref a1, .ref a2]))) := (same1 m2 : Same HC _).up m3
      have fin : Thing h HC x → Thing h HE x := fun t => (t.same sCD).kp (hhD.up m3) kE
      rcases List.mem_append.mp hx with hx | hx
      · exact fin ((((A13 x hx).same sA).kp hhA kB).same sC)
      · simp at hx
        rcases hx with rfl | rfl
        · exact fin ((ta.kp hhA kB).same sC)
        · exact fin tb
    have hl3 : HE l3 = some (.lst (xs ++ [.ref a1, .ref a2])) := kE _ _ upd_same z3'
    obtain ⟨j, rfl⟩ := Int.eq_ofNat_of_zero_le e0
    have hj : j < (xs ++ [V.ref a1, V.ref a2]).length := by
      rw [List.length_append, lx]
      show j < 15
      omega
    refine ⟨l3, _, _, _, rfl, rfl, SqL.of hl3, atI_nat (List.getElem?_eq_getElem hj), ?_⟩
    have ni : ∀ x ∈ xs ++ [V.ref a1, V.ref a2], ∀ i, x ≠ .int i := by
      intro x hx i
      rcases List.mem_append.mp hx with hx | hx
      · exact N13 x hx i
      · simp at hx
        rcases hx with rfl | rfl <;> exact fun z => nomatch z
    refine k _ HE (all _ (List.getElem_mem hj)) (ni _ (List.getElem_mem hj)) (hhE.mono (by omega)) ?_
    exact ((((Kp.same (SG.trans sA)).trans kB).trans (Kp.same sC)).trans (((Kp.refl h HC).up m2).up m3)).trans kE
theorem ok_l_common {P : Program} {w : World} {K : PySem.W.Frag} {mg : Str → Option Value} {base : Heap} {φ : Fds} (T : Txt K mg φ) : FnOk P w K mg base CX0 1 (He.fAd K ("_law_common", none)) φ.l_common p_l_common sp_gcd := by
  refine T.f_l_common.ok sc_l_common (fun vs H Q E h => ?_) (fun cdv A outer s H vs Q E hr h => ?_)
  · obtain ⟨a, b, rfl, ha, hb, k⟩ := h; rfl
  · obtain ⟨a, b, rfl, ha, hb, k⟩ := h
    refine ⟨_, PSs.nox (pss_cons (ps_while PassesOwn.never (pt_cmpR op_gt (pv 1) pe_int (nomark _))
      (pss_one (ps_par (i := 0) (j := 1) rfl sc_l_common.nd rfl rfl (by decide) rfl rfl (pa_cons (pv 1) (pa_cons (pe_op op_mod (pv 0) (pv 1)) pa_nil)) (by rfl))))
      (pss_one (ps_ret (pv 0)))), ?_⟩
    refine while_by (fun σ H' => H' = H ∧ ∃ g s : Int, σ = [some (.int g), some (.int s)] ∧ 0 ≤ g ∧ 0 ≤ s ∧ Int.gcd g s = Int.gcd a b)
      (fun σ _ => match σ with | [_, some (.int s)] => s.toNat | _ => 0) ⟨rfl, _, _, rfl, ha, hb, rfl⟩ ?_ (fun σ H Q Q' hQ ⟨v, e1, i, j, e2, e3, c, e4, q⟩ => ⟨v, e1, i, j, e2, e3, c, e4, hQ _ _ q⟩)
    rintro σ H' ⟨rfl, g, s, rfl, hg, hs, e⟩
    refine ⟨_, rfl, _, _, rfl, rfl, _, rfl, ?_⟩
    refine ite2 (fun c => ?_) (fun c => ?_)
    · have c0 : 0 < s := of_decide_eq_true c
      refine ⟨_, rfl, _, rfl, _, rfl, _, _, rfl, rfl, c0, _, _, rfl, ?_⟩
      refine ⟨⟨rfl, s, g % s, rfl, hs, Int.emod_nonneg _ (by omega), (gcd_step c0 hg).trans e⟩, ?_⟩
      show (g % s).toNat < s.toNat
      have h1 := Int.emod_nonneg g (show s ≠ 0 by omega)
      have h2 := Int.emod_lt_of_pos g c0
      omega
    · have c0 : ¬ 0 < s := fun z => c (decide_eq_true z)
      have s0 : s = 0 := by omega
      subst s0
      refine ⟨_, rfl, ?_⟩
      have eg : g = (Int.gcd a b : Int) := by
        rw [← e, Int.gcd_zero_right]
        omega
      rw [eg]
      exact k
theorem ok_l_is {P : Program} {w : World} {K : PySem.W.Frag} {mg : Str → Option Value} {base : Heap} {φ : Fds} (T : Txt K mg φ) : FnOk P w K mg base CX0 2 (He.fAd K ("_law_is", none)) φ.l_is p_l_is (sp_is (He.ga K "Measure")) := by
  obtain ⟨_, B0v, B0⟩ := b_l_common_2 T
  refine T.f_l_is.ok sc_l_is (fun vs H Q E h => ?_) (fun cdv A outer s H vs Q E hr h => ?_)
  · obtain ⟨r, t, u, a, b, rfl, ⟨dx, hr'⟩, G, k⟩ := h; rfl
  · obtain ⟨r, t, u, a, b, rfl, ⟨dx, hr'⟩, G, k⟩ := h
    refine ⟨_, PSs.nox (pss_cons (ps_if (PW.pt (pw_or (pt_not (pt_val (pe_callB (id := "isinstance") (isi (K := K)) (by rfl) T.z_isinstance (by decide +kernel) (pa_cons (pv 0) (pa_cons (pe_glob (v := .ref (He.ga K "Measure")) rfl T.g_Measure rfl) pa_nil))))) (pw_or (pt_not (pt_val (pe_callB (id := "isinstance") (isi (K := K)) (by rfl) T.z_isinstance (by decide +kernel) (pa_cons (fldK (K := K) (pv 0) rfl) (pa_cons (pe_bltn (v := .ty "int") rfl T.z_int (by decide +kernel) rfl) pa_nil))))) (pw_or1 (pt_not (pt_val (pe_callB (id := "isinstance") (isi (K := K)) (by rfl) T.z_isinstance (by decide +kernel) (pa_cons (fldK (K := K) (pv 0) rfl) (pa_cons (pe_bltn (v := .ty "int") rfl T.z_int (by decide +kernel) rfl) pa_nil)))))))))
      (pss_one (ps_ret pe_bl))
      pss_nil)
      (pss_cons (ps_if (PW.pt (pw_or (pt_val (pe_callB (id := "isinstance") (isi (K := K)) (by rfl) T.z_isinstance (by decide +kernel) (pa_cons (fldK (K := K) (pv 0) rfl) (pa_cons (pe_bltn (v := .ty "bool") rfl T.z_bool (by decide +kernel) rfl) pa_nil)))) (pw_or (pt_val (pe_callB (id := "isinstance") (isi (K := K)) (by rfl) T.z_isinstance (by decide +kernel) (pa_cons (fldK (K := K) (pv 0) rfl) (pa_cons (pe_bltn (v := .ty "bool") rfl T.z_bool (by decide +kernel) rfl) pa_nil)))) (pw_or1 (pt_cmpR op_lt (fldK (K := K) (pv 0) rfl) pe_int (nomark _))))))
      (pss_one (ps_ret pe_bl))
      pss_nil)
      (pss_one (ps_ret (pe_and (pe_cmpR op_eq (pe_op op_mulA (fldK (K := K) (pv 0) rfl) (pv 2)) (pe_op op_mulA (pv 1) (fldK (K := K) (pv 0) rfl)) (nomark _)) (pe_one (pe_cmpR op_eq (pe_call (ok_l_common T) (hr.mono (by decide)) rfl T.g_l_common T.f_l_common.kp B0 B0v pass0 (pa_cons (pe_callB (id := "abs") call_abs (by rfl) T.z_abs (by decide +kernel) (pa_cons (fldK (K := K) (pv 0) rfl) pa_nil)) (pa_cons (fldK (K := K) (pv 0) rfl) pa_nil))) pe_int (nomark _)))))))), ?_⟩
    refine ⟨_, rfl, _, _, _, _, true, rfl, .own _, tyM hr' T.cl_Measure T.ii_Measure, T.k_Measure_Measure, _, rfl, iteF ?_⟩
    refine ⟨_, rfl, _, _, _, _, _, rfl, hr', T.cl_Measure, T.na_Measure_top, mf_top _ _, _, _, _, _, true, rfl, .ty _, .base (.int _), kit_ty (r := true) (by decide +kernel), _, rfl, iteF ?_⟩
    refine ⟨_, rfl, _, _, _, _, _, rfl, hr', T.cl_Measure, T.na_Measure_bottom, mf_bottom _ _, _, _, _, _, true, rfl, .ty _, .base (.int _), kit_ty (r := true) (by decide +kernel), _, rfl, iteF ?_⟩
    refine ⟨_, rfl, _, _, _, _, _, rfl, hr', T.cl_Measure, T.na_Measure_top, mf_top _ _, _, _, _, _, false, rfl, .ty _, .base (.int _), kit_ty (r := false) (by decide +kernel), _, rfl, iteF ?_⟩
    refine ⟨_, rfl, _, _, _, _, _, rfl, hr', T.cl_Measure, T.na_Measure_bottom, mf_bottom _ _, _, _, _, _, false, rfl, .ty _, .base (.int _), kit_ty (r := false) (by decide +kernel), _, rfl, iteF ?_⟩
    refine ⟨_, rfl, _, _, _, _, _, rfl, hr', T.cl_Measure, T.na_Measure_bottom, mf_bottom _ _, _, _, rfl, rfl, _, rfl, ?_⟩
    have hu := G.pos
    refine ite2 (fun e => absurd (of_decide_eq_true e) (by omega)) (fun _ => ?_)
    refine ⟨_, rfl, _, _, _, _, _, rfl, hr', T.cl_Measure, T.na_Measure_top, mf_top _ _, _, rfl, _, _, rfl, rfl, G.st.cmul G.sb (by decide) (by decide) (by decide), _, rfl, _, rfl, _, _, _, _, _, rfl, hr', T.cl_Measure, T.na_Measure_bottom, mf_bottom _ _, _, _, rfl, rfl, G.sa.cmul G.su (by decide) (by decide) (by decide), rfl, _, rfl, ?_⟩
    rw [dI, decide_eq_true G.eq]
    refine iteT ?_
    refine ⟨_, rfl, _, _, _, _, _, rfl, hr', T.cl_Measure, T.na_Measure_top, mf_top _ _, _, rfl, _, rfl, _, _, _, _, _, rfl, hr', T.cl_Measure, T.na_Measure_bottom, mf_bottom _ _, _, _, rfl, ?_, by omega, rfl, ?_⟩
    · split <;> omega
    have e1 : (if t < 0 then -t else t) = (t.natAbs : Int) := by split <;> omega
    have e2 : Int.gcd (t.natAbs : Int) u = 1 := G.co
    rw [e1, e2, dI]
    exact k
theorem ok_l_bottom_of {P : Program} {w : World} {K : PySem.W.Frag} {mg : Str → Option Value} {base : Heap} {φ : Fds} (T : Txt K mg φ) : FnOk P w K mg base CX0 2 (He.fAd K ("_law_bottom_of", none)) φ.l_bottom_of p_l_bottom_of (sp_int 200 3 fun z => z ≠ 0) := by
  obtain ⟨_, B0v, B0⟩ := b_l_take_2 T
  refine T.f_l_bottom_of.ok sc_l_bottom_of (fun vs H Q E h => ?_) (fun cdv A outer s H vs Q E hr h => ?_)
  · obtain ⟨h, n, rfl, hh, hn, k⟩ := h; rfl
  · obtain ⟨h, n, rfl, hh, hn, k⟩ := h
    refine ⟨_, PSs.nox (pss_cons (ps_set (i := 1) sc_l_bottom_of.nd rfl (Or.inl rfl) (pe_lst (pa_cons pe_int (pa_cons pe_int (pa_cons pe_int (pa_cons pe_int (pa_cons pe_int (pa_cons pe_int (pa_cons pe_int (pa_cons pe_int (pa_cons pe_int (pa_cons (pe_op op_add (pe_op op_pow pe_int pe_int) pe_int) (pa_cons (pe_op op_add pe_int (pe_call (ok_l_take T) (hr.mono (by decide)) rfl T.g_l_take T.f_l_take.kp B0 B0v pass0 (pa_cons (pv 0) (pa_cons pe_int pa_nil)))) (pa_cons pe_int pa_nil))))))))))))))
      (pss_one (ps_ret (pe_op op_mulA (pe_ix (ixl (K := K)) (pv 1) (pe_call (ok_l_take T) (hr.mono (by decide)) rfl T.g_l_take T.f_l_take.kp B0 B0v pass0 (pa_cons (pv 0) (pa_cons pe_int pa_nil))) (fun _ _ => rfl)) (pe_ix (ixl (K := K)) (pe_lst (pa_cons pe_int (pa_cons pe_int (pa_cons (pe_un un_neg pe_int) pa_nil)))) (pe_call (ok_l_take T) (hr.mono (by decide)) rfl T.g_l_take T.f_l_take.kp B0 B0v pass0 (pa_cons (pv 0) (pa_cons pe_int pa_nil))) (fun _ _ => rfl)))))), ?_⟩
    refine ⟨_, _, rfl, rfl, ⟨by decide, by decide, by decide⟩, _, _, rfl, rfl, _, rfl, h, n, _, rfl, hh, by omega, by decide, by decide +kernel, fun d H1 d0 d1 hh1 k1 => ?_⟩
    refine ⟨_, _, rfl, rfl, by show 12 ≤ sizeLine; decide, fun p hp => ?_⟩
    refine ⟨_, rfl, _, rfl, h, n + 1, _, rfl, hh1.up hp, by omega, by decide, by decide +kernel, fun y H2 y0 y1 hh2 k2 => ?_⟩
    have hv : ∃ v : Int, 0 < v ∧ v.natAbs < 2 ^ 200 ∧ atI [V.int 1, V.int 2, V.int 3, V.int 4, V.int 6, V.int 7, V.int 12, V.int 100, V.int 2147483647, V.int ((10 : Int) ^ Int.toNat 60 + 7), V.int (1 + d), V.int 1] y = some (V.int v) := by
      obtain rfl | rfl | rfl | rfl | rfl | rfl | rfl | rfl | rfl | rfl | rfl | rfl : y = 0 ∨ y = 1 ∨ y = 2 ∨ y = 3 ∨ y = 4 ∨ y = 5 ∨ y = 6 ∨ y = 7 ∨ y = 8 ∨ y = 9 ∨ y = 10 ∨ y = 11 := by omega
      all_goals first
        | exact ⟨_, by decide, by decide, rfl⟩
        | exact ⟨1 + d, by omega, by omega, rfl⟩
    obtain ⟨v, v0, v1, hat⟩ := hv
    refine ⟨p, _, _, _, rfl, rfl, SqL.of (k2 _ _ upd_same (hh1.ne hp)), hat, ?_⟩
    refine ⟨_, rfl, by show 3 ≤ sizeLine; decide, fun p2 hp2 => ?_⟩
    refine ⟨_, rfl, h, n + 2, _, rfl, hh2.up hp2, by omega, by decide, by decide +kernel, fun z H3 z0 z1 hh3 k3 => ?_⟩
    have hs : ∃ s : Int, (s = 1 ∨ s = -1) ∧ atI [V.int 1, V.int 1, V.int (-1)] z = some (V.int s) := by
      obtain rfl | rfl | rfl : z = 0 ∨ z = 1 ∨ z = 2 := by omega
      · exact ⟨1, .inl rfl, rfl⟩
      · exact ⟨1, .inl rfl, rfl⟩
      · exact ⟨-1, .inr rfl, rfl⟩
    obtain ⟨s, hs, hat2⟩ := hs
    refine ⟨p2, _, _, _, rfl, rfl, SqL.of (k3 _ _ upd_same (hh2.ne hp2)), hat2, _, _, rfl, rfl, .inl (.inr ⟨by omega, by omega⟩), ?_⟩
    refine k _ _ ?_ ?_ (hh3.mono (by omega)) (((k1.up hp).trans (k2.up hp2)).trans k3)
    · show (v * s).natAbs < 2 ^ 200
      rcases hs with e | e <;> rw [e] <;> omega
    · show v * s ≠ 0
      rcases hs with e | e <;> rw [e] <;> omega
theorem ok_l_whole_of {P : Program} {w : World} {K : PySem.W.Frag} {mg : Str → Option Value} {base : Heap} {φ : Fds} (T : Txt K mg φ) : FnOk P w K mg base CX0 2 (He.fAd K ("_law_whole_of", none)) φ.l_whole_of p_l_whole_of (sp_int 1100 4 fun _ => True) := by
  obtain ⟨_, B0v, B0⟩ := b_l_take_2 T
  refine T.f_l_whole_of.ok sc_l_whole_of (fun vs H Q E h => ?_) (fun cdv A outer s H vs Q E hr h => ?_)
  · obtain ⟨h, n, rfl, hh, hn, k⟩ := h; rfl
  · obtain ⟨h, n, rfl, hh, hn, k⟩ := h
    refine ⟨_, PSs.nox (pss_cons (ps_set (i := 1) sc_l_whole_of.nd rfl (Or.inl rfl) (pe_call (ok_l_take T) (hr.mono (by decide)) rfl T.g_l_take T.f_l_take.kp B0 B0v pass0 (pa_cons (pv 0) (pa_cons pe_int pa_nil))))
      (pss_cons (ps_if (pt_cmpR op_lt (pv 1) pe_int (nomark _))
      (pss_one (ps_ret (pe_op op_sub (pe_call (ok_l_take T) (hr.mono (by decide)) rfl T.g_l_take T.f_l_take.kp B0 B0v pass0 (pa_cons (pv 0) (pa_cons pe_int pa_nil))) pe_int)))
      pss_nil)
      (pss_cons (ps_if (pt_cmpR op_lt (pv 1) pe_int (nomark _))
      (pss_one (ps_ret (pe_op op_sub (pe_call (ok_l_take T) (hr.mono (by decide)) rfl T.g_l_take T.f_l_take.kp B0 B0v pass0 (pa_cons (pv 0) (pa_cons pe_int pa_nil))) pe_int)))
      pss_nil)
      (pss_cons (ps_par (i := 2) (j := 3) rfl sc_l_whole_of.nd rfl rfl (by decide) rfl rfl (pa_cons (pe_ix (ixl (K := K)) (pe_lst (pa_cons pe_int (pa_cons (pe_un un_neg pe_int) pa_nil))) (pe_call (ok_l_take T) (hr.mono (by decide)) rfl T.g_l_take T.f_l_take.kp B0 B0v pass0 (pa_cons (pv 0) (pa_cons pe_int pa_nil))) (fun _ _ => rfl)) (pa_cons (pe_op op_add pe_int (pe_call (ok_l_take T) (hr.mono (by decide)) rfl T.g_l_take T.f_l_take.kp B0 B0v pass0 (pa_cons (pv 0) (pa_cons (pe_ix (ixl (K := K)) (pe_lst (pa_cons (pe_op op_pow pe_int pe_int) (pa_cons (pe_op op_pow pe_int pe_int) (pa_cons (pe_op op_pow pe_int pe_int) pa_nil)))) (pe_op op_sub (pv 1) pe_int) (fun _ _ => rfl)) pa_nil)))) pa_nil)) (by rfl))
      (pss_cons (ps_cut (ps_if (pt_cmpR op_eq (pv 1) pe_int (nomark _))
      (pss_one (ps_set (i := 3) sc_l_whole_of.nd rfl (Or.inl rfl) (pe_op op_add (pe_op op_mulA (pv 3) (pe_op op_add (pe_op op_mulA (pe_op op_mulA (pe_op op_mulA (pe_op op_pow pe_int pe_int) (pe_op op_pow pe_int pe_int)) (pe_op op_pow pe_int pe_int)) (pe_op op_pow pe_int pe_int)) pe_int)) (pe_call (ok_l_take T) (hr.mono (by decide)) rfl T.g_l_take T.f_l_take.kp B0 B0v pass0 (pa_cons (pv 0) (pa_cons (pe_op op_pow pe_int pe_int) pa_nil))))))
      pss_nil))
      (pss_one (ps_ret (pe_op op_mulA (pv 3) (pv 2))))))))), ?_⟩
    refine ⟨_, rfl, h, n, _, rfl, hh, by omega, by decide, by decide +kernel, fun d H1 d0 d1 hh1 k1 => ?_⟩
    refine ⟨_, rfl, _, _, rfl, rfl, _, rfl, ?_⟩
    refine ite2 (fun e => ?_) (fun e => ?_)
    · refine ⟨_, rfl, h, n + 1, _, rfl, hh1, by omega, by decide, by decide +kernel, fun z H2 z0 z1 hh2 k2 => ?_⟩
      refine ⟨_, _, rfl, rfl, k _ _ ?_ trivial (hh2.mono (by omega)) (k1.trans k2)⟩
      exact Sz.mono (show Sz 20 (z - 6) by show (z - 6).natAbs < 2 ^ 20; omega) (by decide)
    have e3 : ¬ d < 3 := fun z => e (decide_eq_true z)
    refine ⟨_, rfl, _, _, rfl, rfl, _, rfl, ?_⟩
    refine ite2 (fun e => ?_) (fun e => ?_)
    · refine ⟨_, rfl, h, n + 1, _, rfl, hh1, by omega, by decide, by decide +kernel, fun z H2 z0 z1 hh2 k2 => ?_⟩
      refine ⟨_, _, rfl, rfl, k _ _ ?_ trivial (hh2.mono (by omega)) (k1.trans k2)⟩
      exact Sz.mono (show Sz 20 (z - 1000) by show (z - 1000).natAbs < 2 ^ 20; omega) (by decide)
    have e5 : ¬ d < 5 := fun z => e (decide_eq_true z)
    refine ⟨_, rfl, by show 2 ≤ sizeLine; decide, fun p2 hp2 => ?_⟩
    refine ⟨_, rfl, h, n + 1, _, rfl, hh1.up hp2, by omega, by decide, by decide +kernel, fun y H3 y0 y1 hh3 k3 => ?_⟩
    have hs : ∃ s : Int, (s = 1 ∨ s = -1) ∧ atI [V.int 1, V.int (-1)] y = some (V.int s) := by
      obtain rfl | rfl : y = 0 ∨ y = 1 := by omega
      · exact ⟨1, .inl rfl, rfl⟩
      · exact ⟨-1, .inr rfl, rfl⟩
    obtain ⟨s, hs, hat2⟩ := hs
    refine ⟨p2, _, _, _, rfl, rfl, SqL.of (k3 _ _ upd_same (hh1.ne hp2)), hat2, ?_⟩
    refine ⟨_, rfl, _, _, rfl, rfl, ⟨by decide, by decide, by decide⟩, _, _, rfl, rfl, ⟨by decide, by decide, by decide⟩, _, _, rfl, rfl, ⟨by decide, by decide, by decide⟩, by show 3 ≤ sizeLine; decide, fun p hp => ?_⟩
    have hm : ∃ m : Int, 0 < m ∧ m ≤ 10 ^ 60 ∧ m.natAbs.log2 < 9000 ∧ atI [V.int ((10 : Int) ^ Int.toNat 18), V.int ((10 : Int) ^ Int.toNat 60), V.int ((10 : Int) ^ Int.toNat 60)] (d - 5) = some (V.int m) := by
      obtain rfl | rfl | rfl : d = 5 ∨ d = 6 ∨ d = 7 := by omega
      · exact ⟨10 ^ 18, by decide, by decide, by decide +kernel, rfl⟩
      · exact ⟨10 ^ 60, by decide, by decide, by decide +kernel, rfl⟩
      · exact ⟨10 ^ 60, by decide, by decide, by decide +kernel, rfl⟩
    obtain ⟨m, m0, m1, m2, hat⟩ := hm
    refine ⟨_, rfl, _, _, rfl, rfl, p, _, _, _, rfl, rfl, SqL.of upd_same, hat, h, n + 2, m, rfl, hh3.up hp, by omega, m0, m2, fun z H4 z0 z1 hh4 k4 => ?_⟩
    refine ⟨_, _, rfl, rfl, _, _, rfl, ?_⟩
    have e10 : (10 : Int) ^ 60 = 1000000000000000000000000000000000000000000000000000000000000 := by decide
    rw [e10] at m1
    have sg : Sz 201 (1 + z) := by show (1 + z).natAbs < 2 ^ 201; omega
    have K4 : Kp h H H4 := ((k1.up hp2).trans (k3.up hp)).trans k4
    refine ⟨fun σ' H' => ∃ g : Int, Sz 1003 g ∧ σ' = [some (.ref h), some (.int d), some (.int s), some (.int g)] ∧ HandAt H' h (n + 4) ∧ Kp h H H', ?_, ?_⟩
    · refine ⟨_, rfl, rfl, _, rfl, ?_⟩
      refine ite2 (fun e => ?_) (fun e => ?_)
      · have t1 : Sz 200 ((10 : Int) ^ Int.toNat 60) := by decide
        have t2 := t1.mul t1
        have t3 := t2.mul t1
        have t4 := t3.mul t1
        have t5 : Sz 801 ((10 : Int) ^ Int.toNat 60 * (10 : Int) ^ Int.toNat 60 * (10 : Int) ^ Int.toNat 60 * (10 : Int) ^ Int.toNat 60 + 7) := t4.add ((show Sz 10 (7 : Int) by decide).mono (by decide))
        refine ⟨_, rfl, _, _, rfl, rfl, ⟨by decide, by decide, by decide⟩, _, _, rfl, rfl, ⟨by decide, by decide, by decide⟩, _, _, rfl, rfl, t1.cmul t1 (by decide) (by decide) (by decide), _, _, rfl, rfl, ⟨by decide, by decide, by decide⟩, _, _, rfl, rfl, t2.cmul t1 (by decide) (by decide) (by decide), _, _, rfl, rfl, ⟨by decide, by decide, by decide⟩, _, _, rfl, rfl, t3.cmul t1 (by decide) (by decide) (by decide), _, _, rfl, rfl, _, _, rfl, rfl, sg.cmul t5 (by decide) (by decide) (by decide), ?_⟩
        refine ⟨_, rfl, _, _, rfl, rfl, ⟨by decide, by decide, by decide⟩, h, n + 3, _, rfl, hh4, by omega, by decide, by decide +kernel, fun y5 H5 w0 w1 hh5 k5 => ?_⟩
        have w1' : y5 < (10 : Int) ^ 60 := w1
        rw [e10] at w1'
        have s5 : Sz 1002 y5 := Sz.mono (show Sz 201 y5 by show y5.natAbs < 2 ^ 201; omega) (by decide)
        exact ⟨_, _, rfl, rfl, _, (sg.mul t5).add s5, rfl, hh5.mono (by omega), K4.trans k5⟩
      · exact ⟨_, sg.mono (by decide), rfl, hh4.mono (by omega), K4⟩
    rintro σ' H5 ⟨g, sgg, rfl, hh5, K5⟩
    refine ⟨_, rfl, _, rfl, _, _, rfl, rfl, .inl (.inr ⟨by omega, by omega⟩), ?_⟩
    refine k _ _ ?_ trivial hh5 K5
    rcases hs with e | e <;> rw [e]
    · rw [Int.mul_one]; exact sgg.mono (by decide)
    · rw [Int.mul_neg_one]; exact sgg.neg.mono (by decide)
theorem ok_law {P : Program} {w : World} {K : PySem.W.Frag} {mg : Str → Option Value} {base : Heap} {φ : Fds} (T : Txt K mg φ) : FnOk P w K mg base CX0 5 (He.fAd K ("law", none)) φ.law p_law (sp_law K) := by
  obtain ⟨_, B0v, B0⟩ := b_l_hand_of_2 T
  obtain ⟨_, B1v, B1⟩ := b_Measure_init_2 T
  obtain ⟨_, B2v, B2⟩ := b_l_any_thing_1 T
  obtain ⟨_, B3v, B3⟩ := b_l_take_2 T
  obtain ⟨_, B4v, B4⟩ := b_l_bottom_of_1 T
  obtain ⟨_, B5v, B5⟩ := b_l_whole_of_1 T
  obtain ⟨_, B6⟩ := b_Measure_init_1_bottom_top T
  obtain ⟨_, B7⟩ := b_Measure_init_1_top_bottom T
  obtain ⟨_, B8v, B8⟩ := b_Measure_init_3 T
  obtain ⟨_, B9⟩ := b_Measure_init_2_bottom T
  obtain ⟨_, B10v, B10⟩ := b_l_is_3 T
  obtain ⟨_, B11⟩ := b_Measure_init_1_top T
  obtain ⟨_, B12v, B12⟩ := b_l_word_2 T
  refine T.f_law.ok sc_law (fun vs H Q E h => ?_) (fun cdv A outer s H vs Q E hr h => ?_)
  · obtain ⟨a, ns, rfl, hS, hlen, kk⟩ := h; rfl
  · obtain ⟨a, ns, rfl, hS, hlen, kk⟩ := h
    refine ⟨_, PSs.nox (pss_cons (ps_for PassesOwn.never rfl (pi_range1 rfl T.z_range (pa_cons (pe_op op_add pe_int (pe_callB (id := "min") (call_min2 rfl) (by rfl) T.z_min (by decide +kernel) (pa_cons pe_int (pa_cons (pe_callB (id := "len") (lenS (K := K)) (by rfl) T.z_len PySem.boot_len (pa_cons (pv 0) pa_nil)) pa_nil)))) pa_nil)) (pg_name (i := 1) sc_law.nd rfl (Or.inl rfl))
      (pss_cons (ps_set (i := 2) sc_law.nd rfl (Or.inl rfl) (pe_call (ok_l_hand_of T) (hr.mono (by decide)) rfl T.g_l_hand_of T.f_l_hand_of.kp B0 B0v pass0 (pa_cons (pv 0) (pa_cons (pv 1) pa_nil))))
      (pss_cons (ps_set (i := 3) sc_law.nd rfl (Or.inl rfl) (pe_ix (ixl (K := K)) (pe_lst (pa_cons (pe_call (ok_l_any_thing T) (hr.mono (by decide)) rfl T.g_l_any_thing T.f_l_any_thing.kp B2 B2v pass0 (pa_cons (pv 2) pa_nil)) (pa_cons pe_str (pa_cons pe_str (pa_cons pe_str (pa_cons (pe_make T.mk_Measure (ok_Measure_init T) (hr.mono (by decide)) rfl T.g_Measure B1 B1v pass0 (pa_cons pe_int pa_nil)) pa_nil)))))) (pe_call (ok_l_take T) (hr.mono (by decide)) rfl T.g_l_take T.f_l_take.kp B3 B3v pass0 (pa_cons (pv 2) (pa_cons pe_int pa_nil))) (fun _ _ => rfl)))
      (pss_cons (ps_asg (pe_tup (pa_cons (pe_call (ok_l_whole_of T) (hr.mono (by decide)) rfl T.g_l_whole_of T.f_l_whole_of.kp B5 B5v pass0 (pa_cons (pv 2) pa_nil)) (pa_cons (pe_call (ok_l_bottom_of T) (hr.mono (by decide)) rfl T.g_l_bottom_of T.f_l_bottom_of.kp B4 B4v pass0 (pa_cons (pv 2) pa_nil)) pa_nil))) (pg_tup rfl (pgs_cons (pg_name (i := 4) sc_law.nd rfl (Or.inr rfl)) (pgs_cons (pg_name (i := 5) sc_law.nd rfl (Or.inr rfl)) pgs_nil))))
      (pss_cons (ps_set (i := 6) sc_law.nd rfl (Or.inl rfl) (pe_lst (pa_cons (pe_make T.mk_Measure (ok_Measure_init T) (hr.mono (by decide)) rfl T.g_Measure B8 B8v pass0 (pa_cons (pv 4) (pa_cons (pv 5) pa_nil))) (pa_cons (pe_makeK0 T.mk_Measure (ok_Measure_init T) (hr.mono (by decide)) rfl T.g_Measure B7 pass0 (pk_cons (pv 4) (pk_cons (pv 5) pk_nil))) (pa_cons (pe_makeK0 T.mk_Measure (ok_Measure_init T) (hr.mono (by decide)) rfl T.g_Measure B6 pass0 (pk_cons (pv 5) (pk_cons (pv 4) pk_nil))) pa_nil)))))
      (pss_cons (ps_if (pt_not (pt_val (pe_callB (id := "all") (allK (K := K)) (by rfl) T.z_all (by decide +kernel) (pa_cons (pe_lc (own := [("_law_found", 8)]) (g := gName 8) rfl sc_law.nd (pi_list (pe_op op_cat (pv 6) (pe_lst (pa_cons (pe_makeK T.mk_Measure (ok_Measure_init T) (hr.mono (by decide)) rfl T.g_Measure B9 pass0 (pa_cons (pv 4) pa_nil) (pk_cons (pv 5) pk_nil)) pa_nil)))) (blkOk_by (own := [("_law_found", 8)]) (N := N_law) (sc := defScope s_law) (by decide +kernel)) (fun _ _ _ _ _ => (pg_name (i := 8) sc_law.nd rfl (Or.inl rfl))) (fun _ _ _ _ _ => pts_nil) (fun _ _ _ _ _ => (pe_call (ok_l_is T) (hr.mono (by decide)) rfl T.g_l_is T.f_l_is.kp B10 B10v pass0 (pa_cons (pv 8) (pa_cons (pv 4) (pa_cons (pv 5) pa_nil)))))) pa_nil))))
      (pss_one (ps_ret pe_bl))
      pss_nil)
      (pss_cons (ps_if (PW.pt (pw_or (pt_not (pt_val (pe_call (ok_l_is T) (hr.mono (by decide)) rfl T.g_l_is T.f_l_is.kp B10 B10v pass0 (pa_cons (pe_make T.mk_Measure (ok_Measure_init T) (hr.mono (by decide)) rfl T.g_Measure B1 B1v pass0 (pa_cons (pv 4) pa_nil)) (pa_cons (pv 4) (pa_cons pe_int pa_nil)))))) (pw_or1 (pt_not (pt_val (pe_call (ok_l_is T) (hr.mono (by decide)) rfl T.g_l_is T.f_l_is.kp B10 B10v pass0 (pa_cons (pe_makeK0 T.mk_Measure (ok_Measure_init T) (hr.mono (by decide)) rfl T.g_Measure B11 pass0 (pk_cons (pv 5) pk_nil)) (pa_cons (pv 5) (pa_cons pe_int pa_nil)))))))))
      (pss_one (ps_ret pe_bl))
      pss_nil)
      (pss_cons (ps_set (i := 7) sc_law.nd rfl (Or.inl rfl) (pe_lst (pa_cons (pe_call (ok_l_word T) (hr.mono (by decide)) rfl T.g_l_word T.f_l_word.kp B12 B12v pass0 (pa_cons (pv 3) (pa_cons (pv 5) pa_nil))) (pa_cons (pe_call (ok_l_word T) (hr.mono (by decide)) rfl T.g_l_word T.f_l_word.kp B12 B12v pass0 (pa_cons (pv 4) (pa_cons (pv 3) pa_nil))) (pa_cons (pe_call (ok_l_word T) (hr.mono (by decide)) rfl T.g_l_word T.f_l_word.kp B12 B12v pass0 (pa_cons (pv 3) (pa_cons (pv 3) pa_nil))) (pa_cons (pe_call (ok_l_word T) (hr.mono (by decide)) rfl T.g_l_word T.f_l_word.kp B12 B12v pass0 (pa_cons (pv 3) (pa_cons pe_int pa_nil))) pa_nil))))))
      (pss_one (ps_if (PW.pt (pw_or (pt_cmpR (neDK (K := K) hr.units) (pv 7) (pe_op op_rep (pe_lst (pa_cons pe_str pa_nil)) pe_int) (nomark _)) (pw_or (pt_cmpR op_ne (pe_call (ok_l_word T) (hr.mono (by decide)) rfl T.g_l_word T.f_l_word.kp B12 B12v pass0 (pa_cons (pv 4) (pa_cons pe_int pa_nil))) pe_str (nomark _)) (pw_or1 (pt_cmpR op_ne (pe_call (ok_l_word T) (hr.mono (by decide)) rfl T.g_l_word T.f_l_word.kp B12 B12v pass0 (pa_cons (pv 4) (pa_cons (pv 5) pa_nil))) pe_str (nomark _))))))
      (pss_one (ps_ret pe_bl))
      pss_nil))))))))))
      (pss_one (ps_ret pe_bl))), ?_⟩
    refine ⟨_, rfl, a, _, rfl, .inl hS, _, _, rfl, _, _, rfl, rfl, _, rfl, ?_, ?_, for_range (fun i σ H' => ∃ v1 v2 v3 v4 v5 v6 v7 v8 : Option V, σ = [some (.ref a), v1, v2, v3, v4, v5, v6, v7, v8] ∧ Old H H') ⟨none, none, none, none, none, none, none, none, rfl, Old.refl _⟩ ?_ ?_⟩
    · split <;> omega
    · split <;> omega
    · rintro i σ H1 hi ⟨v1, v2, v3, v4, v5, v6, v7, v8, rfl, s1⟩
      rw [Int.zero_add]
      have hi2 : i ≤ 1000 := by
        split at hi <;> omega
      refine ⟨_, rfl, _, rfl, a, ns, i, rfl, s1.s.seq hS, hi2, fun h H2 nh s2 hh2 => ?_⟩
      have nH : H h = none := s1.s.free nh
      have O2 : Old H H2 := s1.then s2
      -- spoilt
      refine ⟨_, rfl, h, 0, rfl, hh2, by decide, fun tv H3 tt ni hh3 k3 => ?_⟩
      have O3 := O2.kp nH k3
      refine fun x6 dx6 nx6 nd6 ne6 => ⟨x6, dx6, _, _, rfl, upd_same, by decide, by decide +kernel, fun t6 u6 H4 fr6 hx6 kp6 => ⟨rfl, ?_⟩⟩
      have s4 := made_same nx6 nd6 kp6
      refine ⟨by show 5 ≤ sizeLine; decide, fun l5 nl5 => ?_⟩
      have hh4 := hh3.same s4
      have l5h : l5 ≠ h := hh4.ne nl5
      refine ⟨_, rfl, h, _, _, rfl, hh4.up nl5, by decide, by decide, by decide +kernel, fun d H5 d0 d1 hh5 k5 => ?_⟩
      have hhA := hh4.up (u := .lst [tv, .str "1", .str "", .str "1/2", .ref x6]) nl5
      have g6 : H5 x6 = some (.ins (He.ga K "Measure") dx6 (mf t6 u6)) := k5.get hhA (up1 nl5 hx6) rfl
      have tt5 : Thing h H5 tv := ((tt.same s4).same (same1 nl5)).kp hhA k5
      have O5 := ((O3.then s4).up nl5).kp nH k5
      have hat : ∃ sv, atI [tv, .str "1", .str "", .str "1/2", .ref x6] d = some sv ∧ NW h (He.ga K "Measure") H5 sv := by
        obtain rfl | rfl | rfl | rfl | rfl : d = 0 ∨ d = 1 ∨ d = 2 ∨ d = 3 ∨ d = 4 := by omega
        · exact ⟨tv, rfl, .inl ⟨tt5, ni⟩⟩
        · exact ⟨_, rfl, .inl ⟨.inr (.inr (.inr (.inl ⟨_, rfl⟩))), fun b z => nomatch z⟩⟩
        · exact ⟨_, rfl, .inl ⟨.inr (.inr (.inr (.inl ⟨_, rfl⟩))), fun b z => nomatch z⟩⟩
        · exact ⟨_, rfl, .inl ⟨.inr (.inr (.inr (.inl ⟨_, rfl⟩))), fun b z => nomatch z⟩⟩
        · exact ⟨_, rfl, .inr ⟨x6, t6, u6, rfl, _, g6⟩⟩
      obtain ⟨sv, hat, ns5⟩ := hat
      refine ⟨l5, _, _, _, rfl, rfl, SqL.of (k5 _ _ upd_same l5h), hat, ?_⟩
      -- over, under
      refine ⟨_, rfl, h, _, rfl, hh5, by decide, fun xa H6 sa _ hh6 k6 => ?_⟩
      refine ⟨_, rfl, h, _, rfl, hh6, by decide, fun xb H7 sb nb hh7 k7 => ?_⟩
      have O7 := (O5.kp nH k6).kp nH k7
      have ns7 : NoW (He.ga K "Measure") H7 sv := ((ns5.kp hh5 k6).kp hh6 k7).now
      refine ⟨by show 2 ≤ sizeLine; decide, fun tp ntp => ⟨tp, _, rfl, SqT.of upd_same, rfl, _, _, rfl, _, _, rfl, rfl, ?_⟩⟩
      generalize hA : upd H7 tp _ = H8
      have s8 : Same H7 H8 := by rw [← hA]; exact same1 ntp
      have ns8 := ns7.same s8
      have O8 := O7.then s8
      have sA9 : Sz 90000 xa := sa.mono (by decide)
      have sB9 : Sz 90000 xb := sb.mono (by decide)
      have one9 : Sz 90000 (1 : Int) := (show Sz 10 (1 : Int) by decide).mono (by decide)
      refine ⟨_, rfl, _, rfl, fun x1 dx1 nx1 nd1 ne1 => ⟨x1, dx1, _, _, rfl, upd_same, nb, sb.log (by decide) (by decide), fun t1 u1 J1 fr1 hx1 kp1 => ⟨rfl, ?_⟩⟩⟩
      have sJ1 := made_same nx1 nd1 kp1
      refine ⟨_, rfl, _, rfl, rfl, rfl, fun x2 dx2 nx2 nd2 ne2 => ⟨x2, dx2, _, _, rfl, upd_same, nb, sb.log (by decide) (by decide), fun t2 u2 J2 fr2 hx2 kp2 => ⟨rfl, ?_⟩⟩⟩
      have sJ2 := made_same nx2 nd2 kp2
      refine ⟨_, rfl, _, rfl, rfl, rfl, fun x3 dx3 nx3 nd3 ne3 => ⟨x3, dx3, _, _, rfl, upd_same, nb, sb.log (by decide) (by decide), fun t3 u3 J3 fr3 hx3 kp3 => ⟨rfl, ?_⟩⟩⟩
      have sJ3 := made_same nx3 nd3 kp3
      refine ⟨by show 3 ≤ sizeLine; decide, fun m3 nm3 => ?_⟩
      refine ⟨_, rfl, ?_⟩
      refine ⟨_, rfl, _, rfl, rfl, rfl, fun x4 dx4 nx4 nd4 ne4 => ⟨x4, dx4, _, _, rfl, upd_same, nb, sb.log (by decide) (by decide), fun t4 u4 J4 fr4 hx4 kp4 => ⟨rfl, ?_⟩⟩⟩
      have sJ4 := made_same nx4 nd4 kp4
      refine ⟨by show 1 ≤ sizeLine; decide, fun m4 nm4 => ?_⟩
      refine ⟨m3, m4, _, _, rfl, rfl, up1 nm4 (sJ4 _ _ upd_same), upd_same, by show 4 ≤ sizeLine; decide, fun m5 nm5 => ?_⟩
      generalize hB : upd (upd J4 m4 _) m5 _ = H9
      have s49 : Same J4 H9 := by rw [← hB]; exact (same1 nm4 : Same J4 _).up nm5
      have hm5 : H9 m5 = some (.lst ([.ref x1, .ref x2, .ref x3] ++ [.ref x4])) := by rw [← hB]; exact upd_same
      have s39 : Same J3 H9 := ((same1 nm3 : Same J3 _).trans sJ4).trans s49
      have F4 : H9 x4 = some (.ins (He.ga K "Measure") dx4 (mf t4 u4)) := s49 _ _ hx4
      have F3 : H9 x3 = some (.ins (He.ga K "Measure") dx3 (mf t3 u3)) := s39 _ _ hx3
      have F2 : H9 x2 = some (.ins (He.ga K "Measure") dx2 (mf t2 u2)) := s39 _ _ (sJ3 _ _ hx2)
      have F1 : H9 x1 = some (.ins (He.ga K "Measure") dx1 (mf t1 u1)) := s39 _ _ (sJ3 _ _ (sJ2 _ _ hx1))
      have s89 : Same H8 H9 := ((sJ1.trans sJ2).trans sJ3).trans s39
      refine ⟨m5, rfl, ⟨_, SqL.of hm5⟩, fun D nD => ?_⟩
      refine lcs (xs := [V.ref x1, .ref x2, .ref x3] ++ [.ref x4]) ((List.replicate 4 true).map V.bl) rfl (by show 4 < sizeLine; decide) (SqL.of hm5) nD (fun j x y HJ N M hx hy sJ hN => ?_) (fun HA sA hD => ?_)
      · have hy2 : y = .bl true := by
          have := List.mem_of_getElem? hy
          simp at this
          exact this
        subst hy2
        obtain ⟨r, dr, t, u, rfl, hr', fr⟩ : ∃ r dr t u, x = .ref r ∧ H9 r = some (.ins (He.ga K "Measure") dr (mf t u)) ∧ Fr t u xa xb := by
          have := List.mem_of_getElem? hx
          simp at this
          rcases this with rfl | rfl | rfl | rfl
          · exact ⟨x1, dx1, t1, u1, rfl, F1, fr1⟩
          · exact ⟨x2, dx2, t2, u2, rfl, F2, fr2⟩
          · exact ⟨x3, dx3, t3, u3, rfl, F3, fr3⟩
          · exact ⟨x4, dx4, t4, u4, rfl, F4, fr4⟩
        exact ⟨rfl, yesT ⟨_, rfl, _, rfl, _, rfl, r, t, u, xa, xb, rfl, ⟨_, sJ _ _ hr'⟩, good1 fr sA9 sB9, hN _ (Same.refl _)⟩⟩
      refine ⟨D, List.replicate 4 true, rfl, SqL.of hD, _, rfl, iteF ?_⟩
      -- of one number
      refine ⟨_, rfl, fun x5 dx5 nx5 nd5 ne5 => ⟨x5, dx5, _, _, rfl, upd_same, by decide, by decide +kernel, fun t5 u5 J5 fr5 hx5 kp5 => ⟨rfl, ?_⟩⟩⟩
      have sJ5 := made_same nx5 nd5 kp5
      refine ⟨_, rfl, x5, t5, u5, xa, 1, rfl, ⟨_, hx5⟩, good1 fr5 sA9 one9, _, rfl, iteF ?_⟩
      refine ⟨_, rfl, rfl, rfl, fun x7 dx7 nx7 nd7 ne7 => ⟨x7, dx7, _, _, rfl, upd_same, by decide, by decide +kernel, fun t7 u7 J7 fr7 hx7 kp7 => ⟨rfl, ?_⟩⟩⟩
      have sJ7 := made_same nx7 nd7 kp7
      refine ⟨_, rfl, x7, t7, u7, xb, 1, rfl, ⟨_, hx7⟩, good1 fr7 sB9 one9, _, rfl, iteF ?_⟩
      have s8Z : Same H8 J7 := ((s89.trans sA).trans sJ5).trans sJ7
      have nsZ := ns8.same s8Z
      -- the words
      refine ⟨_, rfl, _, rfl, _, _, rfl, .inr (.inl ⟨.inl ⟨nsZ, rfl⟩, fun W1 w1 => ?_⟩)⟩
      refine ⟨_, rfl, _, rfl, _, _, rfl, .inr (.inl ⟨.inr ⟨⟨_, rfl⟩, .inl ⟨nsZ.same w1, rfl⟩⟩, fun W2 w2 => ?_⟩)⟩
      refine ⟨_, rfl, _, rfl, _, _, rfl, .inr (.inl ⟨.inl ⟨(nsZ.same w1).same w2, rfl⟩, fun W3 w3 => ?_⟩)⟩
      refine ⟨_, rfl, _, _, rfl, .inr (.inl ⟨.inl ⟨((nsZ.same w1).same w2).same w3, rfl⟩, fun W4 w4 => ?_⟩)⟩
      refine ⟨by show 4 ≤ sizeLine; decide, fun q1 nq1 => ?_⟩
      refine ⟨_, rfl, by show 1 ≤ sizeLine; decide, fun q2 nq2 => ⟨q2, _, _, rfl, rfl, upd_same, by decide, by decide, by show 4 ≤ sizeLine; decide, fun q3 nq3 => ?_⟩⟩
      refine ⟨.list (List.replicate 4 (.str "measure")), .list (List.replicate 4 (.str "measure")), .lst (SqL.of (up1 nq3 (up1 nq2 upd_same))) (dp_strs 4 _), .lst (SqL.of upd_same) (dp_strs 4 _), by decide +kernel, by decide +kernel, _, rfl, ?_⟩
      rw [SeqAt.eqv_refl _ (by decide +kernel)]
      refine iteF ?_
      generalize hC : upd (upd (upd W4 q1 _) q2 _) q3 _ = W5
      have s5W : Same W4 W5 := by rw [← hC]; exact ((same1 nq1 : Same W4 _).up nq2).up nq3
      refine ⟨_, rfl, _, _, rfl, .inr (.inr ⟨.inr ⟨⟨_, rfl⟩, .inr ⟨rfl, rfl⟩⟩, ⟨_, rfl⟩, rfl, fun W6 w6 => ⟨rfl, _, rfl, ?_⟩⟩)⟩
      rw [decide_eq_true rfl]
      refine iteF ?_
      refine ⟨_, rfl, _, rfl, _, _, rfl, .inl ⟨xa, xb, rfl, rfl, nb, sb.mono (by decide), fun W7 w7 => ⟨rfl, _, rfl, ?_⟩⟩⟩
      rw [decide_eq_true rfl]
      refine iteF ?_
      exact ⟨_, _, _, _, _, _, _, _, rfl, ((((((((O8.then s8Z).then w1).then w2).then w3).then w4).then s5W).then w6).then w7)⟩
    · rintro σ H1 ⟨v1, v2, v3, v4, v5, v6, v7, v8, rfl, s1⟩
      exact kk _
end K01

namespace K01
open PySem PySem.Spec PyProof.Rows L2 My
/-! ### the head -/
def h_is_whole : He.DefD := ⟨("is_whole", none), "is_whole", "is_whole", defArgs s_is_whole, defBody s_is_whole, defScope s_is_whole, [], []⟩
def h_common_part : He.DefD := ⟨("common_part", none), "common_part", "common_part", defArgs s_common_part, defBody s_common_part, defScope s_common_part, [], []⟩
def h_Measure_init : He.DefD := ⟨("Measure", some "__init__"), "__init__", "Measure.__init__", defArgs s_Measure_init, defBody s_Measure_init, defScope s_Measure_init, [.int 1], []⟩
def h_l_hand_of : He.DefD := ⟨("_law_hand_of", none), "_law_hand_of", "_law_hand_of", defArgs s_l_hand_of, defBody s_l_hand_of, defScope s_l_hand_of, [], []⟩
def h_l_take : He.DefD := ⟨("_law_take", none), "_law_take", "_law_take", defArgs s_l_take, defBody s_l_take, defScope s_l_take, [], []⟩
def h_l_whole_of : He.DefD := ⟨("_law_whole_of", none), "_law_whole_of", "_law_whole_of", defArgs s_l_whole_of, defBody s_l_whole_of, defScope s_l_whole_of, [], []⟩
def h_l_bottom_of : He.DefD := ⟨("_law_bottom_of", none), "_law_bottom_of", "_law_bottom_of", defArgs s_l_bottom_of, defBody s_l_bottom_of, defScope s_l_bottom_of, [], []⟩
def h_l_common : He.DefD := ⟨("_law_common", none), "_law_common", "_law_common", defArgs s_l_common, defBody s_l_common, defScope s_l_common, [], []⟩
def h_l_is : He.DefD := ⟨("_law_is", none), "_law_is", "_law_is", defArgs s_l_is, defBody s_l_is, defScope s_l_is, [], []⟩
def h_l_nest : He.DefD := ⟨("_law_nest", none), "_law_nest", "_law_nest", defArgs s_l_nest, defBody s_l_nest, defScope s_l_nest, [], []⟩
def h_l_any_thing : He.DefD := ⟨("_law_any_thing", none), "_law_any_thing", "_law_any_thing", defArgs s_l_any_thing, defBody s_l_any_thing, defScope s_l_any_thing, [], []⟩
def h_l_word : He.DefD := ⟨("_law_word", none), "_law_word", "_law_word", defArgs s_l_word, defBody s_l_word, defScope s_l_word, [], []⟩
def h_law : He.DefD := ⟨("law", none), "law", "law", defArgs s_law, defBody s_law, defScope s_law, [], []⟩
def fn : List He.DefD := [h_is_whole, h_common_part, h_Measure_init, h_l_hand_of, h_l_take, h_l_whole_of, h_l_bottom_of, h_l_common, h_l_is, h_l_nest, h_l_any_thing, h_l_word, h_law]
def fa : List He.Fa := [.glo "is_whole", .glo "common_part", .glo "_law_hand_of", .glo "_law_take", .glo "_law_whole_of", .glo "_law_bottom_of", .glo "_law_common", .glo "_law_is", .glo "_law_nest", .glo "_law_any_thing", .glo "_law_word", .glo "law", .glo "Measure", .glo "LadderError", .glo "NoMeasure", .glo "NoBottom", .glo "NoStretch", .glo "NoLadder", .glo "NoLine", .glo "Slip", .glo "NoText", .free "ValueError", .free "ZeroDivisionError", .free "abs", .free "all", .free "bool", .free "int", .free "isinstance", .free "len", .free "min", .free "range", .cls "Measure", .noat "Measure" "top", .noat "Measure" "bottom", .mkr "Measure"]
abbrev R : PySem.W.OpenRow := PySem.W.OpenLaw.row PySem.Challenge.rw_sizeladders_k01_lowest_terms
def ex : List (PySem.W.Frag → Bool) := [isCB "Measure", excCB "NoMeasure", excCB "NoBottom", excFB "NoMeasure" [.type "ValueError", .type "Exception", .type "BaseException", .type "object"] "ValueError.__new__", excFB "NoBottom" [.type "ZeroDivisionError", .type "ArithmeticError", .type "Exception", .type "BaseException", .type "object"] "ZeroDivisionError.__new__", exmB "NoMeasure" "LadderError" true, exmB "NoBottom" "LadderError" false, exmB "NoBottom" "NoBottom" true, kitF (.inl "Measure") (.inl "Measure") true, kitF (.inl "Measure") (.inr "int") false, kitF (.inl "NoMeasure") (.inl "NoStretch") false, kitF (.inl "NoMeasure") (.inl "NoLadder") false, kitF (.inl "NoMeasure") (.inl "NoLine") false, kitF (.inl "NoMeasure") (.inl "Slip") false, kitF (.inl "NoMeasure") (.inl "NoText") false, kitF (.inl "NoMeasure") (.inl "NoMeasure") true, kitF (.inl "NoMeasure") (.inr "ValueError") true, kitF (.inl "NoBottom") (.inr "ZeroDivisionError") true, kitF (.inl "NoBottom") (.inr "ValueError") false]
abbrev hk : PySem.W.Hook := hookM 5 fa fn ex
def ob (s : PySem.W.SharedT) : He.AlD × Bool := obsM 5 fa fn ex (HandSHeadRun.getT s)
theorem ob_eq (s : PySem.W.SharedT) : ob s = hk.obs s.abs := obsM_eq (HandSHeadRun.getT_eq s)
theorem run (w : World) : HandSHeadRun.RunEq R (PySem.W.view R.prog [26]) hk ob 20000 [("_wall" : PySem.Str), ("LadderError" : PySem.Str), ("NoMeasure" : PySem.Str), ("NoStretch" : PySem.Str), ("NoLadder" : PySem.Str), ("NoLine" : PySem.Str), ("Slip" : PySem.Str), ("NoText" : PySem.Str), ("NoBottom" : PySem.Str), ("is_whole" : PySem.Str), ("common_part" : PySem.Str), ("written" : PySem.Str), ("Measure" : PySem.Str), ("_law_hand_of" : PySem.Str), ("_law_take" : PySem.Str), ("_law_whole_of" : PySem.Str), ("_law_bottom_of" : PySem.Str), ("_law_common" : PySem.Str), ("_law_is" : PySem.Str), ("_law_nest" : PySem.Str), ("_law_any_thing" : PySem.Str), ("_law_word" : PySem.Str)] w := by
  intro os
  kernel_rfl
theorem facts {K : PySem.W.Frag} {h : Heap} {mg : Str → Option Value} (X : K.In h) (G : h.Ns mainGlobals mg) (c : He.SaysD fa fn K) (cx : (ex.all fun f => f K) = true) : ∃ φ : Fds, Txt K mg φ := by
  obtain ⟨d0, F0⟩ := c.def_ 0 (d := h_is_whole) rfl
  obtain ⟨d1, F1⟩ := c.def_ 1 (d := h_common_part) rfl
  obtain ⟨d2, F2⟩ := c.def_ 2 (d := h_Measure_init) rfl
  obtain ⟨d3, F3⟩ := c.def_ 3 (d := h_l_hand_of) rfl
  obtain ⟨d4, F4⟩ := c.def_ 4 (d := h_l_take) rfl
  obtain ⟨d5, F5⟩ := c.def_ 5 (d := h_l_whole_of) rfl
  obtain ⟨d6, F6⟩ := c.def_ 6 (d := h_l_bottom_of) rfl
  obtain ⟨d7, F7⟩ := c.def_ 7 (d := h_l_common) rfl
  obtain ⟨d8, F8⟩ := c.def_ 8 (d := h_l_is) rfl
  obtain ⟨d9, F9⟩ := c.def_ 9 (d := h_l_nest) rfl
  obtain ⟨d10, F10⟩ := c.def_ 10 (d := h_l_any_thing) rfl
  obtain ⟨d11, F11⟩ := c.def_ 11 (d := h_l_word) rfl
  obtain ⟨d12, F12⟩ := c.def_ 12 (d := h_law) rfl
  refine ⟨⟨d0, d1, d2, d3, d4, d5, d6, d7, d8, d9, d10, d11, d12⟩, ?_⟩
  exact {
    g_is_whole := He.glo_ok X G (c.fact 0 (f := .glo "is_whole") rfl),
    g_common_part := He.glo_ok X G (c.fact 1 (f := .glo "common_part") rfl),
    g_l_hand_of := He.glo_ok X G (c.fact 2 (f := .glo "_law_hand_of") rfl),
    g_l_take := He.glo_ok X G (c.fact 3 (f := .glo "_law_take") rfl),
    g_l_whole_of := He.glo_ok X G (c.fact 4 (f := .glo "_law_whole_of") rfl),
    g_l_bottom_of := He.glo_ok X G (c.fact 5 (f := .glo "_law_bottom_of") rfl),
    g_l_common := He.glo_ok X G (c.fact 6 (f := .glo "_law_common") rfl),
    g_l_is := He.glo_ok X G (c.fact 7 (f := .glo "_law_is") rfl),
    g_l_nest := He.glo_ok X G (c.fact 8 (f := .glo "_law_nest") rfl),
    g_l_any_thing := He.glo_ok X G (c.fact 9 (f := .glo "_law_any_thing") rfl),
    g_l_word := He.glo_ok X G (c.fact 10 (f := .glo "_law_word") rfl),
    g_law := He.glo_ok X G (c.fact 11 (f := .glo "law") rfl),
    g_Measure := He.glo_ok X G (c.fact 12 (f := .glo "Measure") rfl),
    g_LadderError := He.glo_ok X G (c.fact 13 (f := .glo "LadderError") rfl),
    g_NoMeasure := He.glo_ok X G (c.fact 14 (f := .glo "NoMeasure") rfl),
    g_NoBottom := He.glo_ok X G (c.fact 15 (f := .glo "NoBottom") rfl),
    g_NoStretch := He.glo_ok X G (c.fact 16 (f := .glo "NoStretch") rfl),
    g_NoLadder := He.glo_ok X G (c.fact 17 (f := .glo "NoLadder") rfl),
    g_NoLine := He.glo_ok X G (c.fact 18 (f := .glo "NoLine") rfl),
    g_Slip := He.glo_ok X G (c.fact 19 (f := .glo "Slip") rfl),
    g_NoText := He.glo_ok X G (c.fact 20 (f := .glo "NoText") rfl),
    z_ValueError := He.free_ok X G (c.fact 21 (f := .free "ValueError") rfl),
    z_ZeroDivisionError := He.free_ok X G (c.fact 22 (f := .free "ZeroDivisionError") rfl),
    z_abs := He.free_ok X G (c.fact 23 (f := .free "abs") rfl),
    z_all := He.free_ok X G (c.fact 24 (f := .free "all") rfl),
    z_bool := He.free_ok X G (c.fact 25 (f := .free "bool") rfl),
    z_int := He.free_ok X G (c.fact 26 (f := .free "int") rfl),
    z_isinstance := He.free_ok X G (c.fact 27 (f := .free "isinstance") rfl),
    z_len := He.free_ok X G (c.fact 28 (f := .free "len") rfl),
    z_min := He.free_ok X G (c.fact 29 (f := .free "min") rfl),
    z_range := He.free_ok X G (c.fact 30 (f := .free "range") rfl),
    cl_Measure := He.cls_ok (c.fact 31 (f := .cls "Measure") rfl),
    na_Measure_top := He.noat_ok (c.fact 32 (f := .noat "Measure" "top") rfl),
    na_Measure_bottom := He.noat_ok (c.fact 33 (f := .noat "Measure" "bottom") rfl),
    mk_Measure := He.mkr_ok (c.fact 34 (f := .mkr "Measure") rfl),
    ii_Measure := isC_ok (ex_at cx 0 (f := isCB "Measure") rfl),
    xc_NoMeasure := excC_ok (ex_at cx 1 (f := excCB "NoMeasure") rfl),
    xc_NoBottom := excC_ok (ex_at cx 2 (f := excCB "NoBottom") rfl),
    xf_NoMeasure := excF_ok (ex_at cx 3 (f := excFB "NoMeasure" [.type "ValueError", .type "Exception", .type "BaseException", .type "object"] "ValueError.__new__") rfl),
    xf_NoBottom := excF_ok (ex_at cx 4 (f := excFB "NoBottom" [.type "ZeroDivisionError", .type "ArithmeticError", .type "Exception", .type "BaseException", .type "object"] "ZeroDivisionError.__new__") rfl),
    xm_NoMeasure_LadderError := My.exm_ok (ex_at cx 5 (f := exmB "NoMeasure" "LadderError" true) rfl),
    xm_NoBottom_LadderError := My.exm_ok (ex_at cx 6 (f := exmB "NoBottom" "LadderError" false) rfl),
    xm_NoBottom_NoBottom := My.exm_ok (ex_at cx 7 (f := exmB "NoBottom" "NoBottom" true) rfl),
    k_Measure_Measure := kitF_ok (ex_at cx 8 (f := kitF (.inl "Measure") (.inl "Measure") true) rfl),
    k_Measure_int := kitF_ok (ex_at cx 9 (f := kitF (.inl "Measure") (.inr "int") false) rfl),
    k_NoMeasure_NoStretch := kitF_ok (ex_at cx 10 (f := kitF (.inl "NoMeasure") (.inl "NoStretch") false) rfl),
    k_NoMeasure_NoLadder := kitF_ok (ex_at cx 11 (f := kitF (.inl "NoMeasure") (.inl "NoLadder") false) rfl),
    k_NoMeasure_NoLine := kitF_ok (ex_at cx 12 (f := kitF (.inl "NoMeasure") (.inl "NoLine") false) rfl),
    k_NoMeasure_Slip := kitF_ok (ex_at cx 13 (f := kitF (.inl "NoMeasure") (.inl "Slip") false) rfl),
    k_NoMeasure_NoText := kitF_ok (ex_at cx 14 (f := kitF (.inl "NoMeasure") (.inl "NoText") false) rfl),
    k_NoMeasure_NoMeasure := kitF_ok (ex_at cx 15 (f := kitF (.inl "NoMeasure") (.inl "NoMeasure") true) rfl),
    k_NoMeasure_ValueError := kitF_ok (ex_at cx 16 (f := kitF (.inl "NoMeasure") (.inr "ValueError") true) rfl),
    k_NoBottom_ZeroDivisionError := kitF_ok (ex_at cx 17 (f := kitF (.inl "NoBottom") (.inr "ZeroDivisionError") true) rfl),
    k_NoBottom_ValueError := kitF_ok (ex_at cx 18 (f := kitF (.inl "NoBottom") (.inr "ValueError") false) rfl),
    f_is_whole := F0,
    f_common_part := F1,
    f_Measure_init := F2,
    f_l_hand_of := F3,
    f_l_take := F4,
    f_l_whole_of := F5,
    f_l_bottom_of := F6,
    f_l_common := F7,
    f_l_is := F8,
    f_l_nest := F9,
    f_l_any_thing := F10,
    f_l_word := F11,
    f_law := F12 }
end K01
open PySem PySem.W PySem.Calls PyProof.Rows
set_option maxRecDepth 100000 in
set_option maxHeartbeats 0 in
theorem PySem.Challenge.cw_sizeladders_k01_lowest_terms_holds : PySem.Challenge.rw_sizeladders_k01_lowest_terms.Holds := by
  w_on; o_law
  refine HandSHeadRun.head_any (r := OpenLaw.row PySem.Challenge.rw_sizeladders_k01_lowest_terms) (q := view (OpenLaw.row PySem.Challenge.rw_sizeladders_k01_lowest_terms).prog [26]) (H := K01.hk) (ob := K01.ob) (M := 20000) (loose := [("_wall" : PySem.Str), ("LadderError" : PySem.Str), ("NoMeasure" : PySem.Str), ("NoStretch" : PySem.Str), ("NoLadder" : PySem.Str), ("NoLine" : PySem.Str), ("Slip" : PySem.Str), ("NoText" : PySem.Str), ("NoBottom" : PySem.Str), ("is_whole" : PySem.Str), ("common_part" : PySem.Str), ("written" : PySem.Str), ("Measure" : PySem.Str), ("_law_hand_of" : PySem.Str), ("_law_take" : PySem.Str), ("_law_whole_of" : PySem.Str), ("_law_bottom_of" : PySem.Str), ("_law_common" : PySem.Str), ("_law_is" : PySem.Str), ("_law_nest" : PySem.Str), ("_law_any_thing" : PySem.Str), ("_law_word" : PySem.Str)]) (d := HandSHeadRun.topDef (OpenLaw.row PySem.Challenge.rw_sizeladders_k01_lowest_terms).prog 26) (kwd := []) K01.ob_eq
    (by kernel_rfl) (fun s => by kernel_rfl) K01.run (by kernel_rfl) (by kernel_rfl) (by kernel_rfl) (by rfl) (by first | assumption | decide +kernel) (by decide +kernel) ⟨rfl, rfl, rfl, rfl, rfl, by decide +kernel⟩ ?hw ?hc
  case hw => w_witness2
  case hc =>
    refine L2.walk_ofE (l := PySem.Challenge.rw_sizeladders_k01_lowest_terms) (n := 63) (k := 5) (x := "_law_script") (CX := L2.CX0) rfl (by decide) (by kernel_rfl) ⟨rfl, by decide, by decide⟩ ?F (fun _ _ _ _ z => z)
    intro w mg fa h Y G hmg0
    obtain ⟨K, KX, c, cx⟩ := Y
    have hmg : mg ("law" : PySem.Str) = some (.ref fa) := by
      have e : (HandSHeadRun.topDef (OpenLaw.row PySem.Challenge.rw_sizeladders_k01_lowest_terms).prog 26).name = ("law" : PySem.Str) := by kernel_rfl
      rw [← e]
      exact hmg0
    obtain ⟨φ, T⟩ := K01.facts KX G c cx
    have e := hmg.symm.trans T.g_law
    cases e
    have b := L2.FunD.bindsA (ps := K01.p_law) T.f_law fun _ _ _ _ _ _ us hl => match us, hl with | [_], _ => rfl
    exact ⟨K, φ.law, K01.sp_law K, KX, fun s v => b s [v] rfl, fun H a ns hl _ hS => ⟨a, ns, rfl, hS, hl, fun _ => rfl⟩, fun base _ _ => K01.ok_law T⟩
