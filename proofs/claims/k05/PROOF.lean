import PyProof.Rows.All
import Wide.All
import OpenK.AllK
import Wide.FinOn
import KE.KStateDown
import HandS.ForMost
import HandS.More
import HandS.WordsExc
import HandS.Defaults
import HandS.MakeKw
import HandS.MakeKwOnly
import HandS.Wide
import HandS.IsInst
import HandS.Flow
import HandS.Style
import HandS.OwnEq
import HandS.Head0
import HandS.Head1
import HandS.Head2
import HandS.HeadEnd
import HandS.HeadHook1
import HandS.HeadHook2
import HandS.ExcIs
import HandS.ExcOwn
import HandS.TryOnly
import HandS.ExcBuiltin
import HandS.FStr
import HandS.Text
import HandS.Codes
import HandS.StrMore
import HandS.ReplaceLit
import HandS.ReplaceDef
import PySem.Challenge.RW_sizeladders_k05_measures_read
set_option Elab.async false
set_option linter.all false
set_option maxRecDepth 100000
set_option maxHeartbeats 4000000
namespace My
open PySem PySem.Spec PyProof.Rows L2
/-! ### operators of great numbers -/
section
variable {X : Cx}
theorem op_fd : OpR X (binaryOp .FloorDiv) (rI (fun _ j => j ≠ 0 ∧ j.natAbs.log2 < 9000) fun i j => .int (i.fdiv j)) :=
  opI fun _ _ _ _ _ _ _ hc q => floordiv_int hc.1 q (.inl (PyProof.noPylong_of_log2 hc.2))
theorem op_mulA : OpR X (binaryOp .Mult) (rI (fun i j => CMul i j ∨ CMulW i j) fun i j => .int (i * j)) :=
  opI fun _ _ _ _ _ _ _ hc q => mul_int q (hc.elim (fun h => h.ok) (fun h => h.ok))
/-! ### cuts: what is wanted behind a piece, said by a word of one's own -/
def tCutS (t : TS) : TS := fun D σ H => ∃ J : L2.St → Hp → Prop, t { D with nx := J } σ H ∧ ∀ σ' H', J σ' H' → D.nx σ' H'
theorem ps_cut {st : Stmt} {t : TS} (h : PS X st t) : PS X st (tCutS t) := by
  refine ⟨fun pins s σ H D I hw => ?_⟩
  obtain ⟨J, h1, h2⟩ := hw
  refine thn (h.run pins s σ H _ I h1) fun f s' q => ?_
  cases f with
  | next => obtain ⟨σ', H', I', q'⟩ := q; exact ⟨σ', H', I', h2 _ _ q'⟩
  | brk => exact q
  | cont => exact q
  | ret u => exact q
def tCutE (t : TE) : TE := fun σ H Q => ∃ J : V → Hp → Prop, t σ H J ∧ ∀ v H', J v H' → Q v H'
theorem pe_cut {e : Expr} {t : TE} (h : PE X e t) : PE X e (tCutE t) := by
  refine ⟨fun pins s σ H Q I hw => ?_⟩
  obtain ⟨J, h1, h2⟩ := hw
  exact thn (h.run pins s σ H _ I h1) fun u s' ⟨v, H', I', r, q'⟩ => ⟨v, H', I', r, h2 _ _ q'⟩
def tCutT (t : TT) : TT := fun σ H Q => ∃ J : Bool → Hp → Prop, t σ H J ∧ ∀ v H', J v H' → Q v H'
theorem pt_cut {e : Expr} {t : TT} (h : PT X e t) : PT X e (tCutT t) := by
  refine ⟨fun pins s σ H Q I hw => ?_⟩
  obtain ⟨J, h1, h2⟩ := hw
  exact thn (h.run pins s σ H _ I h1) fun u s' ⟨H', I', q'⟩ => ⟨H', I', h2 _ _ q'⟩
/-! ### calls by keywords -/
variable {CX : CXT} {k n : Nat} {f C : Addr} {fd : FuncData} {ps ks : List Str} {sp : Sp} {E : XK} {x m : Str} {p pos apos : Pos} {o e : Expr} {es : List Expr} {kws : List Keyword} {ta : TE} {t tk : TA} {g : List Value → List Value → List Value} {gV : List V → List V → List V}
/-- f(k = v, ..) -/
theorem pe_callK0 (F : FnOk X.prog X.w X.K X.mg X.base CX k f fd ps sp) (hr : Room k X.A) (hg : Gl X x) (hm : X.mg x = some (.ref f)) (hk : PySem.W.keepIn X.K (.ref f) = true) (hb : KBn X.K fd ps 0 ks g gV) (hx : Passes CX X E)
    (hkw : PK X kws tk) (hall : (backToKw pos (keywordEach kws X.env)).all (·.1.isSome) = true := by rfl) (hks : (backToKw pos (keywordEach kws X.env)).filterMap (·.1) = ks := by rfl)
    (hdb : (x == ("__debug__" : Str)) = false := by decide) (hpl : ((backTo pos (starEach [] X.env)).any (·.1) || (backToKw pos (keywordEach kws X.env)).any (·.1.isNone)) = false := by rfl) :
    PE X (.Call (.Name x p) [] kws pos) (tCallN 0 ks.length sp gV E tNil tk) := by
  refine ⟨fun pins s σ H Q I h => ?_⟩
  refine wpAny_Call_Name_kw (ld_glob I hg hm ?_ hdb)
  refine PySem.W.callWith_KW0 (h₀ := X.base) I.ok.mod.kin hk hall ?_ hpl
  refine thn (hkw.run pos pins s σ H _ I h) fun ws s2 ⟨zs, H2, I2, rz, l1, l2, q2⟩ => ⟨I2.kIn, ?_⟩
  rw [hks]
  exact run_fnN (us := []) (vs := []) F hr hb hx I2 .nil rz rfl l2 q2
/-- o.m(e, .., k = v, ..) -/
def tMethN (C : Addr) (m : Str) (n l : Nat) (sp : Sp) (gV : List V → List V → List V) (E : XK) (ta : TE) (t tk : TA) : TE := fun σ H Q => ta σ H fun x H1 => ∃ a dx fs, x = .ref a ∧ H1 a = some (.ins C dx fs) ∧ fs.lookup m = none ∧
  t σ H1 fun vs H2 => tk σ H2 fun zs H3 => vs.length = n ∧ zs.length = l ∧ sp (gV (.ref a :: vs) zs) H3 Q E
theorem pe_methK {pl : Sem Bool} (he : PE X o ta) (c : Cls X.K C) (hm : Meth X.K C m f) (F : FnOk X.prog X.w X.K X.mg X.base CX k f fd ps sp) (hr : Room k X.A) (hb : KBn X.K fd ps (n + 1) ks g gV) (hx : Passes CX X E) (ha : PA X (e :: es) t) (hkw : PK X kws tk)
    (hall : (backToKw pos (keywordEach kws X.env)).all (·.1.isSome) = true := by rfl) (hks : (backToKw pos (keywordEach kws X.env)).filterMap (·.1) = ks := by rfl)
    (hst : starEach (e :: es) X.env = (false, eval e X.env) :: starEach es X.env := by rfl)
    (hpl : ((backTo pos (starEach (e :: es) X.env)).any (·.1) || (backToKw pos (keywordEach kws X.env)).any (·.1.isNone)) = false := by rfl)
    (ht : eval (.Call (.Attribute o m apos) (e :: es) kws pos) X.env = (do
      let ov ← eval o X.env
      standAt apos.atName
      let (f, first) ← holding [ov] (getMethod ov m pl)
      callWith pos f first (backTo pos (starEach (e :: es) X.env)) (backToKw pos (keywordEach kws X.env))) := by rfl) :
    PE X (.Call (.Attribute o m apos) (e :: es) kws pos) (tMethN C m n ks.length sp gV E ta t tk) := by
  refine ⟨fun pins s σ H Q I h => ?_⟩
  refine PySem.W.methodCall_KW (pl := pl) (thn (he.run pins s σ H _ I h) fun u s1 ⟨x, H1, I1, rx, a, dx, fs, ex, ea, l, q⟩ => ?_) ht
  subst ex
  obtain rfl : u = Value.ref a := rx
  refine getmeth_ok I1 ea c hm l ?_
  refine PySem.W.callWith_KW (first := [.ref a]) (h₀ := X.base) I.ok.mod.kin hm.kp hall (thn (ha.run pos pins s1 σ H1 _ I1 q) fun us s2 ⟨vs, H2, I2, r, q2⟩ => ?_) hpl hst
  refine thn (hkw.run pos pins s2 σ H2 _ I2 q2) fun ws s3 ⟨zs, H3, I3, rz, l1, l2, q3⟩ => ⟨I3.kIn, ?_⟩
  rw [hks]
  exact run_fnN (us := .ref a :: us) (vs := .ref a :: vs) F hr hb hx I3 (.cons rfl r) rz (congrArg Nat.succ l1) l2 q3
theorem pe_methK0 {pl : Sem Bool} (he : PE X o ta) (c : Cls X.K C) (hm : Meth X.K C m f) (F : FnOk X.prog X.w X.K X.mg X.base CX k f fd ps sp) (hr : Room k X.A) (hb : KBn X.K fd ps 1 ks g gV) (hx : Passes CX X E) (hkw : PK X kws tk)
    (hall : (backToKw pos (keywordEach kws X.env)).all (·.1.isSome) = true := by rfl) (hks : (backToKw pos (keywordEach kws X.env)).filterMap (·.1) = ks := by rfl)
    (hpl : ((backTo pos (starEach [] X.env)).any (·.1) || (backToKw pos (keywordEach kws X.env)).any (·.1.isNone)) = false := by rfl)
    (ht : eval (.Call (.Attribute o m apos) [] kws pos) X.env = (do
      let ov ← eval o X.env
      standAt apos.atName
      let (f, first) ← holding [ov] (getMethod ov m pl)
      callWith pos f first (backTo pos (starEach [] X.env)) (backToKw pos (keywordEach kws X.env))) := by rfl) :
    PE X (.Call (.Attribute o m apos) [] kws pos) (tMethN C m 0 ks.length sp gV E ta tNil tk) := by
  refine ⟨fun pins s σ H Q I h => ?_⟩
  refine PySem.W.methodCall_KW (pl := pl) (thn (he.run pins s σ H _ I h) fun u s1 ⟨x, H1, I1, rx, a, dx, fs, ex, ea, l, q⟩ => ?_) ht
  subst ex
  obtain rfl : u = Value.ref a := rx
  refine getmeth_ok I1 ea c hm l ?_
  refine PySem.W.callWith_KW0 (first := [.ref a]) (h₀ := X.base) I.ok.mod.kin hm.kp hall ?_ hpl
  refine thn (hkw.run pos pins s1 σ H1 _ I1 q) fun ws s3 ⟨zs, H3, I3, rz, l1, l2, q3⟩ => ⟨I3.kIn, ?_⟩
  rw [hks]
  exact run_fnN (us := [.ref a]) (vs := [.ref a]) F hr hb hx I3 (.cons rfl .nil) rz rfl l2 q3
end
theorem kb_none {K : PySem.W.Frag} {x qual : Str} {params : Arguments} {body : List Stmt} {scope : Scope} {kws : List (Str × V)} {f : Addr} {fd : FuncData} {ps : List Str} {n : Nat} {ks : List Str}
    (F : FunD K x qual params body scope [] kws f fd) (g : {α : Type} → List α → List α → List α)
    (hrel : ∀ {vs zs : List V} {us ws : List Value}, Vals vs us → Vals zs ws → Vals (g vs zs) (g us ws))
    (h : ∀ (kV doc pm : Value) (an : Option Addr) (cdv ct : Value) (us ws : List Value), us.length = n → ws.length = ks.length → bindArgs (PySem.W.fnOf x qual params body scope .none kV doc pm an cdv ct) ⟨us, ks.zip ws⟩ = pure (ps.zip (g us ws))) :
    KBn K fd ps n ks (fun us ws => g us ws) (fun vs zs => g vs zs) := by
  obtain ⟨oc, od, dV, kV, doc, pm, an, cdv, ct, osl, rfl, lk, hcd, hD, hK⟩ := F.ex
  rcases hD with ⟨_, rfl⟩ | ⟨e, _⟩
  · exact ⟨fun s us ws X l1 l2 => .of_eq (h kV doc pm an cdv ct us ws l1 l2), fun r1 r2 => hrel r1 r2⟩
  · exact absurd rfl e
/-! ### heaps -/
theorem up1 {H : Hp} {p x : Addr} {o u : HO} (hp : H p = none) (hx : H x = some o) : upd H p u x = some o := by
  rw [upd_ne (ne_of_none hx hp)]; exact hx
theorem same1 {H : Hp} {p : Addr} {u : HO} (hp : H p = none) : Same H (upd H p u) := fun _ _ e => up1 hp e
theorem _root_.L2.Same.sqt {K : PySem.W.Frag} {H H' : Hp} {a : Addr} {xs : List V} (e : Same H H') (h : SqT K H a xs) : SqT K H' a xs := by
  rcases h with (h | ⟨o, h⟩) | h
  · exact .inl (.inl (e _ _ h))
  · exact .inl (.inr ⟨o, e _ _ h⟩)
  · exact .inr h
/-- all stays but what stands at h -/
def Kp (h : Addr) (H H' : Hp) : Prop := ∀ b o, H b = some o → b ≠ h → H' b = some o
theorem Kp.refl (h : Addr) (H : Hp) : Kp h H H := fun _ _ e _ => e
theorem Kp.trans {h : Addr} {H H1 H2 : Hp} (a : Kp h H H1) (b : Kp h H1 H2) : Kp h H H2 := fun c o e n => b c o (a c o e n) n
theorem Kp.same {h : Addr} {H H1 : Hp} (a : Same H H1) : Kp h H H1 := fun c o e _ => a c o e
theorem Kp.up {h p : Addr} {H H1 : Hp} {u : HO} (a : Kp h H H1) (hp : H1 p = none) : Kp h H (upd H1 p u) := fun c o e n => up1 hp (a c o e n)
theorem Kp.set {h : Addr} {H H1 : Hp} {u : HO} (a : Kp h H H1) : Kp h H (upd H1 h u) := fun c o e n => by
  rw [upd_ne n]; exact a c o e n
/-- a list other than that at h, the script among them -/
theorem Kp.seq {K : PySem.W.Frag} {h a : Addr} {H H1 : Hp} {xs : List V} (k : Kp h H H1) (n : a ≠ h) (s : SqL K H a xs) : SqL K H1 a xs := by
  rcases s with (s | ⟨o, s⟩) | s
  · exact .inl (.inl (k _ _ s n))
  · exact .inl (.inr ⟨o, k _ _ s n⟩)
  · exact .inr s
/-! ### the hand: a list of three ints, drawn from -/
def HandAt (H : Hp) (h : Addr) (n : Nat) : Prop := ∃ a b c : Int, H h = some (.lst [.int a, .int b, .int c]) ∧ 0 ≤ a ∧ 0 ≤ b ∧ b < 4611686018427387904 ∧ 0 ≤ c ∧ c ≤ n
theorem HandAt.mono {H : Hp} {h : Addr} {n m : Nat} (a : HandAt H h n) (l : n ≤ m) : HandAt H h m := by
  obtain ⟨x, y, z, h1, h2, h3, h4, h5, h6⟩ := a
  exact ⟨x, y, z, h1, h2, h3, h4, h5, by omega⟩
theorem HandAt.same {H H' : Hp} {h : Addr} {n : Nat} (a : HandAt H h n) (s : Same H H') : HandAt H' h n := by
  obtain ⟨x, y, z, h1, h2⟩ := a
  exact ⟨x, y, z, s _ _ h1, h2⟩
theorem HandAt.up {H : Hp} {h p : Addr} {u : HO} {n : Nat} (a : HandAt H h n) (hp : H p = none) : HandAt (upd H p u) h n := a.same (same1 hp)
theorem HandAt.ne {H : Hp} {h p : Addr} {n : Nat} (a : HandAt H h n) (hp : H p = none) : p ≠ h := by
  obtain ⟨x, y, z, h1, _⟩ := a
  exact (ne_of_none h1 hp).symm
def notHand : HO → Bool
  | .lst _ => false
  | _ => true
theorem HandAt.apart {H : Hp} {h p : Addr} {o : HO} {n : Nat} (a : HandAt H h n) (hp : H p = some o) (ho : notHand o = true) : p ≠ h := by
  obtain ⟨x, y, z, h1, _⟩ := a
  exact ne_of hp h1 (by intro e; rw [e] at ho; cases ho)
def sp_take : Sp := fun vs H Q _ => ∃ (h : Addr) (n : Nat) (m : Int), vs = [.ref h, .int m] ∧ HandAt H h n ∧ n < 1000000 ∧ 0 < m ∧ m.natAbs.log2 < 9000 ∧
  ∀ (d : Int) (H' : Hp), 0 ≤ d → d < m → HandAt H' h (n + 1) → Kp h H H' → Q (.int d) H'
def sp_hand (K : PySem.W.Frag) : Sp := fun vs H Q _ => ∃ (a : Addr) (ns : List Int) (k : Nat), vs = [.ref a, .int k] ∧ SqL K H a (ns.map V.int) ∧ k ≤ 1000 ∧
  ∀ (p : Addr) (H' : Hp), H p = none → Same H H' → HandAt H' p 0 → Q (.ref p) H'
/-! ### numbers -/
abbrev Sz (k : Nat) (z : Int) : Prop := z.natAbs < 2 ^ k
theorem Sz.mono {a b : Nat} {z : Int} (h : Sz a z) (l : a ≤ b) : Sz b z := Nat.lt_of_lt_of_le h (Nat.pow_le_pow_right (by decide) l)
theorem Sz.mul {a b : Nat} {x y : Int} (h : Sz a x) (g : Sz b y) : Sz (a + b) (x * y) := wide_lt h g
theorem Sz.neg {a : Nat} {x : Int} (h : Sz a x) : Sz a (-x) := by
  show (-x).natAbs < 2 ^ a
  rw [Int.natAbs_neg]; exact h
theorem Sz.add {a : Nat} {x y : Int} (h : Sz a x) (g : Sz a y) : Sz (a + 1) (x + y) := by
  show (x + y).natAbs < 2 ^ (a + 1)
  have h1 : x.natAbs < 2 ^ a := h
  have h2 : y.natAbs < 2 ^ a := g
  rw [Nat.pow_succ]; omega
theorem Sz.sub {a : Nat} {x y : Int} (h : Sz a x) (g : Sz a y) : Sz (a + 1) (x - y) := by
  show (x - y).natAbs < 2 ^ (a + 1)
  have h1 : x.natAbs < 2 ^ a := h
  have h2 : y.natAbs < 2 ^ a := g
  rw [Nat.pow_succ]; omega
theorem Sz.le {a : Nat} {x y : Int} (h : Sz a x) (l : y.natAbs ≤ x.natAbs) : Sz a y := Nat.lt_of_le_of_lt l h
theorem Sz.cmul {a b : Nat} {x y : Int} (h : Sz a x) (g : Sz b y) (h0 : 0 < a) (h1 : 0 < b) (l : a + b ≤ 1000000) : CMul x y ∨ CMulW x y := .inr (wide_mul h g h0 h1 l)
theorem Sz.log {a : Nat} {x : Int} (h : Sz a x) (h0 : 0 < a) (l : a ≤ 9000) : x.natAbs.log2 < 9000 := Nat.lt_of_lt_of_le (PySem.Flt.log2_lt_of h0 h) l
theorem dI {i j : Int} : decide (V.int i = V.int j) = decide (i = j) := by
  rw [dec_int, Bool.beq_eq_decide_eq]
/-- t / u is a / b in lowest terms -/
structure Fr (t u a b : Int) : Prop where
  pos : 0 < u
  eq : t * b = a * u
  co : Int.gcd t u = 1
  lt : t.natAbs ≤ a.natAbs
  lu : u.natAbs ≤ b.natAbs
def sgn (b : Int) : Int := if 0 < b then 1 else -1
theorem gcd_step {g s : Int} (hs : 0 < s) (hg : 0 ≤ g) : Int.gcd s (g % s) = Int.gcd g s := by
  obtain ⟨m, rfl⟩ := Int.eq_ofNat_of_zero_le hg
  obtain ⟨n, rfl⟩ := Int.eq_ofNat_of_zero_le (Int.le_of_lt hs)
  show Nat.gcd n (m % n) = Nat.gcd m n
  rw [Nat.gcd_comm m n, Nat.gcd_comm n (m % n), ← Nat.gcd_rec]
theorem fr_mk {a b c : Int} (hb : b ≠ 0) (hc : c = sgn b * (Int.gcd a b : Int)) : c ≠ 0 ∧ c.natAbs ≤ b.natAbs ∧ Fr (a.fdiv c) (b.fdiv c) a b := by
  have g0 : 0 < Int.gcd a b := Int.gcd_pos_of_ne_zero_right a hb
  have gd : (Int.gcd a b : Int) ∣ a := Int.gcd_dvd_left ..
  have gb : (Int.gcd a b : Int) ∣ b := Int.gcd_dvd_right ..
  have hs : sgn b = 1 ∨ sgn b = -1 := by unfold sgn; split <;> simp
  have cd : c ∣ a := by
    rcases hs with e | e <;> rw [hc, e]
    · rw [Int.one_mul]; exact gd
    · rw [Int.neg_one_mul]; exact (Int.neg_dvd).mpr gd
  have cb : c ∣ b := by
    rcases hs with e | e <;> rw [hc, e]
    · rw [Int.one_mul]; exact gb
    · rw [Int.neg_one_mul]; exact (Int.neg_dvd).mpr gb
  have cn : c.natAbs = Int.gcd a b := by
    rcases hs with e | e <;> rw [hc, e]
    · rw [Int.one_mul, Int.natAbs_natCast]
    · rw [Int.neg_one_mul, Int.natAbs_neg, Int.natAbs_natCast]
  have c0 : c ≠ 0 := by
    intro e; rw [e] at cn; simp at cn; omega
  have ta : a.fdiv c * c = a := Int.fdiv_mul_cancel cd
  have tb : b.fdiv c * c = b := Int.fdiv_mul_cancel cb
  have c1 : 1 ≤ c.natAbs := by omega
  have na : a.natAbs = (a.fdiv c).natAbs * c.natAbs := by rw [← Int.natAbs_mul, ta]
  have nb : b.natAbs = (b.fdiv c).natAbs * c.natAbs := by rw [← Int.natAbs_mul, tb]
  refine ⟨c0, ?_, ?_, ?_, ?_, ?_, ?_⟩
  · rw [cn]
    exact Nat.le_of_dvd (by omega) (Int.gcd_dvd_natAbs_right a b)
  · rcases Int.lt_trichotomy b 0 with h | h | h
    · have e : sgn b = -1 := by unfold sgn; rw [if_neg (by omega)]
      have cneg : c < 0 := by rw [hc, e]; omega
      rcases Int.lt_or_le 0 (b.fdiv c) with z | z
      · exact z
      · have : 0 ≤ b.fdiv c * c := Int.mul_nonneg_of_nonpos_of_nonpos z (by omega)
        omega
    · exact absurd h hb
    · have e : sgn b = 1 := by unfold sgn; rw [if_pos h]
      have cpos : 0 < c := by rw [hc, e]; omega
      rcases Int.lt_or_le 0 (b.fdiv c) with z | z
      · exact z
      · have : b.fdiv c * c ≤ 0 := Int.mul_nonpos_of_nonpos_of_nonneg z (by omega)
        omega
  · have : a.fdiv c * (b.fdiv c * c) = a.fdiv c * c * b.fdiv c := by
      rw [Int.mul_assoc, Int.mul_comm c]
    rw [tb, ta] at this
    exact this
  · have e : Int.gcd a b = Int.gcd (a.fdiv c) (b.fdiv c) * c.natAbs := by
      have := Int.gcd_mul_right (a.fdiv c) c (b.fdiv c)
      rw [ta, tb] at this
      exact this
    rw [← cn] at e
    have e2 : 1 * c.natAbs = Int.gcd (a.fdiv c) (b.fdiv c) * c.natAbs := by rw [Nat.one_mul]; exact e
    exact (Nat.eq_of_mul_eq_mul_right (by omega) e2).symm
  · rw [na]; exact Nat.le_mul_of_pos_right _ (by omega)
  · rw [nb]; exact Nat.le_mul_of_pos_right _ (by omega)
/-! ### a Measure -/
def mf (t u : Int) : List (Str × V) := [("top", .int t), ("bottom", .int u)]
theorem ne_tb : ¬ (("top" : Str) = "bottom") := by decide +kernel
theorem mf_put (t u : Int) : putF "bottom" (.int u) (putF "top" (.int t) []) = mf t u := by
  show (if ("top" : Str) = "bottom" then [(("top" : Str), V.int u)] else (("top" : Str), V.int t) :: putF "bottom" (V.int u) []) = mf t u
  rw [if_neg ne_tb] <;> rfl
theorem mf_top (t u : Int) : (mf t u).lookup ("top" : Str) = some (.int t) := by
  rw [← mf_put, lookup_putF, if_neg ne_tb, lookup_putF, if_pos rfl]
theorem mf_bottom (t u : Int) : (mf t u).lookup ("bottom" : Str) = some (.int u) := by
  rw [← mf_put, lookup_putF, if_pos rfl]
theorem mf_no (t u : Int) {m : Str} (h1 : ¬ m = "top") (h2 : ¬ m = "bottom") : (mf t u).lookup m = none := by
  rw [← mf_put, lookup_putF, if_neg h2, lookup_putF, if_neg h1] <;> rfl
def MAt (C : Addr) (H : Hp) (p : Addr) (t u : Int) : Prop := ∃ dx, H p = some (.ins C dx (mf t u))
theorem MAt.same {C p : Addr} {H H' : Hp} {t u : Int} (m : MAt C H p t u) (s : Same H H') : MAt C H' p t u := by
  obtain ⟨dx, h⟩ := m; exact ⟨dx, s _ _ h⟩
theorem MAt.kp {C p h : Addr} {H H' : Hp} {t u : Int} {n : Nat} (m : MAt C H p t u) (hh : HandAt H h n) (s : Kp h H H') : MAt C H' p t u := by
  obtain ⟨dx, e⟩ := m; exact ⟨dx, s _ _ e (hh.apart e rfl)⟩
def sp_minit (C : Addr) : Sp := fun vs H Q _ => ∃ (p dx : Addr) (a b : Int), vs = [.ref p, .int a, .int b] ∧ H p = some (.ins C dx []) ∧ b ≠ 0 ∧ b.natAbs.log2 < 9000 ∧
  ∀ (t u : Int) (H' : Hp), Fr t u a b → H' p = some (.ins C dx (mf t u)) → (∀ c o, H c = some o → c ≠ p → H' c = some o) → Q .non H'
theorem made {C : Addr} {H : Hp} {Q : VK} {E : XK} {a b : Int} (hb : b ≠ 0) (hl : b.natAbs.log2 < 9000) (k : ∀ (p : Addr) (t u : Int) (H' : Hp), H p = none → Same H H' → MAt C H' p t u → Fr t u a b → Q (.ref p) H') :
    ∀ x dx, H x = none → H dx = none → dx ≠ x → sp_minit C [.ref x, .int a, .int b] (upd (upd H dx (.own x)) x (.ins C dx [])) (fun v H2 => v = .non ∧ Q (.ref x) H2) E := by
  intro x dx nx nd ne
  refine ⟨x, dx, a, b, rfl, upd_same, hb, hl, fun t u H' fr hx kp => ⟨rfl, ?_⟩⟩
  refine k x t u H' nx (fun c o e => ?_) ⟨dx, hx⟩ fr
  have n1 : c ≠ x := ne_of_none e nx
  refine kp c o ?_ n1
  rw [upd_ne n1]
  exact up1 nd e
def sp_whole : Sp := fun vs H Q _ => ∃ n : Int, vs = [.int n] ∧ Q (.bl true) H
def sp_common : Sp := fun vs H Q _ => ∃ a b : Int, vs = [.int a, .int b] ∧ Q (.int (Int.gcd a b : Int)) H
def lessA (t u t' u' : Int) (al : Bool) : Bool := decide (t * u' < t' * u) || (al && decide (t * u' = t' * u))
def sp_below (C : Addr) : Sp := fun vs H Q _ => ∃ (p q : Addr) (t u t' u' : Int) (al : Bool), vs = [.ref p, .ref q, .bl al] ∧ MAt C H p t u ∧ MAt C H q t' u' ∧ Sz 9000 t ∧ Sz 9000 u ∧ Sz 9000 t' ∧ Sz 9000 u' ∧ Q (.bl (lessA t u t' u' al)) H
/-- a comprehension over a list whose elements are reckoned without a change of what stands -/
theorem lcs {K : PySem.W.Frag} {a : Addr} {xs : List V} {g : TG} {tt : TT} {te : TE} {vs : List Nat} {σ : L2.St} {H1 : Hp} {D : Addr} {Qd : Hp → Prop} (ys : List V) (hlen : ys.length = xs.length) (hz : ys.length < sizeLine) (hS : SqL K H1 a xs) (hD : H1 D = none)
    (hs : ∀ (i : Nat) (x y : V) (H : Hp) (N : VK) (M : Hp → Prop), xs[i]? = some x → ys[i]? = some y → Same H1 H → (∀ H4, Same H H4 → N y H4) → g x (wipe σ vs) H fun σ2 H2 => wipe σ2 vs = wipe σ vs ∧ tt σ2 H2 fun b H3 => if b = true then te σ2 H3 N else M H3)
    (hd : ∀ H, Same H1 H → H D = some (.lst ys) → Qd H) :
    ∃ W : Nat → Nat → Hp → Prop, (∃ m, W 0 m (upd H1 D (.lst []))) ∧ ∀ i m H, W i m H →
      ((Itl K a).stop i H ∧ Qd H) ∨ ((Itl K a).go i H ∧ ∃ Nx : Hp → Prop, (∀ H', Nx H' → ∃ m', m' < m ∧ W (i + 1) m' H') ∧ ∀ x H', (Itl K a).yld i H x H' → g x (wipe σ vs) H' fun σ2 H2 => wipe σ2 vs = wipe σ vs ∧ tt σ2 H2 fun b H3 =>
        if b = true then te σ2 H3 fun y H4 => ∃ acc, H4 D = some (.lst acc) ∧ acc.length < sizeLine ∧ Nx (upd H4 D (.lst (acc ++ [y]))) else Nx H3) := by
  refine lc_list (fun i H => Same H1 H ∧ H D = some (.lst (ys.take i))) ⟨same1 hD, upd_same⟩ (fun i H _ p => p.1.seq hS) (fun i x H hx p => ?_) (fun H p => hd H p.1 ?_)
  · have hi : i < ys.length := by rw [hlen]; exact (List.getElem?_eq_some_iff.mp hx).1
    refine hs i x ys[i] H _ _ hx (List.getElem?_eq_getElem hi) p.1 fun H4 s4 => ⟨_, s4 _ _ p.2, ?_, ?_, ?_⟩
    · rw [List.length_take]; omega
    · intro c o e
      rw [upd_ne (ne_of_none e hD)]
      exact s4 _ _ (p.1 _ _ e)
    · rw [upd_same, List.take_add_one, List.getElem?_eq_getElem hi]
      rfl
  · have e := p.2
    rw [← hlen, List.take_length] at e
    exact e
theorem Kp.get {h q : Addr} {H H' : Hp} {o : HO} {n : Nat} (k : Kp h H H') (hh : HandAt H h n) (e : H q = some o) (no : notHand o = true) : H' q = some o := k _ _ e (hh.apart e no)
theorem _root_.L2.Same.get {q : Addr} {H H' : Hp} {o : HO} (k : Same H H') (e : H q = some o) : H' q = some o := k _ _ e
theorem _root_.L2.Same.ofKp {h : Addr} {H H1 H2 : Hp} (s : Same H H1) (nh : H h = none) (k : Kp h H1 H2) : Same H H2 := fun c o e => k c o (s c o e) (ne_of_none e nh)
theorem _root_.L2.Same.up {p : Addr} {H H1 : Hp} {u : HO} (s : Same H H1) (hp : H1 p = none) : Same H (upd H1 p u) := s.trans (same1 hp)
theorem dp_bls {K : PySem.W.Frag} {H : Hp} : ∀ bs : List Bool, DpAll K H (bs.map V.bl) (bs.map PyData.bool)
  | [] => .nil
  | b :: r => .cons (.bl b) (dp_bls r)
theorem isTrueN {b : Bool} (h : ¬ b = true) : b = false := by cases b <;> simp_all
theorem sgn_cases (b : Int) : sgn b = 1 ∨ sgn b = -1 := by unfold sgn; split <;> simp
/-- the order of two fractions by their own numbers and by any others -/
theorem below_iff {t u a b t' u' c d : Int} (f : Fr t u a b) (g : Fr t' u' c d) (hb : b ≠ 0) (hd : d ≠ 0) : (a * d * (sgn b * sgn d) < c * b * (sgn b * sgn d)) ↔ t * u' < t' * u := by
  have hu := f.pos
  have hu' := g.pos
  have e1 := f.eq
  have e2 := g.eq
  have sb : 0 < b * sgn b := by
    unfold sgn; split
    · omega
    · rename_i h; rw [Int.mul_neg_one]; omega
  have sd : 0 < d * sgn d := by
    unfold sgn; split
    · omega
    · rename_i h; rw [Int.mul_neg_one]; omega
  have p1 : a * d * (sgn b * sgn d) * (u * u') = (t * u') * ((b * sgn b) * (d * sgn d)) := by
    have : a * d * (sgn b * sgn d) * (u * u') = (a * u) * u' * (d * sgn d) * sgn b := by
      simp only [Int.mul_assoc, Int.mul_comm, Int.mul_left_comm]
    rw [this, ← e1]
    simp only [Int.mul_assoc, Int.mul_comm, Int.mul_left_comm]
  have p2 : c * b * (sgn b * sgn d) * (u * u') = (t' * u) * ((b * sgn b) * (d * sgn d)) := by
    have : c * b * (sgn b * sgn d) * (u * u') = (c * u') * u * (b * sgn b) * sgn d := by
      simp only [Int.mul_assoc, Int.mul_comm, Int.mul_left_comm]
    rw [this, ← e2]
    simp only [Int.mul_assoc, Int.mul_comm, Int.mul_left_comm]
  have q : 0 < u * u' := Int.mul_pos hu hu'
  have r : 0 < (b * sgn b) * (d * sgn d) := Int.mul_pos sb sd
  constructor
  · intro h
    have := Int.mul_lt_mul_of_pos_right h q
    rw [p1, p2] at this
    exact Int.lt_of_mul_lt_mul_right this (Int.le_of_lt r)
  · intro h
    have := Int.mul_lt_mul_of_pos_right h r
    rw [← p1, ← p2] at this
    exact Int.lt_of_mul_lt_mul_right this (Int.le_of_lt q)
/-! ### rules with the written part by its name (for the blocks of comprehensions) -/
section
variable {X : Cx} {K : PySem.W.Frag}
theorem ixl (hK : X.K = K := by rfl) : IxR X (rIxL K) := by subst hK; exact ix_list
theorem ixt (hK : X.K = K := by rfl) : IxR X (rIxT K) := by subst hK; exact ix_tup
theorem isi (hK : X.K = K := by rfl) : CallR X (.builtin "isinstance") (rIsi K) := by subst hK; exact call_isi
theorem isiT (hK : X.K = K := by rfl) : CallR X (.builtin "isinstance") (rIsiT K) := by subst hK; exact call_isiT
def rLenS (K : PySem.W.Frag) : List V → Hp → VK → Prop := fun xs H Q => ∃ p ys, xs = [.ref p] ∧ (SqL K H p ys ∨ SqT K H p ys) ∧ Q (.int (ys.length : Int)) H
theorem lenS (hK : X.K = K := by rfl) : CallR X (.builtin "len") (rLenS K) := by subst hK; exact call_len_seq
theorem allK (hK : X.K = K := by rfl) (hc : X.calm = true := by rfl) : CallR X (.builtin "all") (rAll K) := by subst hK; exact cr_all hc
theorem anyK (hK : X.K = K := by rfl) (hc : X.calm = true := by rfl) : CallR X (.builtin "any") (rAny K) := by subst hK; exact cr_any hc
theorem eqDK (hu : X.A.units + 64 < cLine) (hK : X.K = K := by rfl) : OpR X (compareOp .Eq) (rEqD K) := by subst hK; exact op_eqD hu
theorem neDK (hu : X.A.units + 64 < cLine) (hK : X.K = K := by rfl) : OpR X (compareOp .NotEq) (rNeD K) := by subst hK; exact op_neD hu
theorem inK (hK : X.K = K := by rfl) : OpR X (compareOp .In) (rIn K false) := by subst hK; exact op_in_seq
theorem notInK (hK : X.K = K := by rfl) : OpR X (compareOp .NotIn) (rIn K true) := by subst hK; exact op_notIn_seq
theorem slL (hK : X.K = K := by rfl) : SlR X (rSlL K) := by subst hK; exact sl_list
theorem slT (hK : X.K = K := by rfl) : SlR X (rSlT K) := by subst hK; exact sl_tup
theorem catT (hK : X.K = K := by rfl) : OpR X (binaryOp .Add) (rCatT K) := by subst hK; exact op_catT
theorem fldK {e : Expr} {f : Str} {pos : Pos} {ta : TE} (he : PE X e ta) (hb : attributeBase e f X.env (eval e X.env) = eval e X.env) (hK : X.K = K := by rfl) : PE X (.Attribute e f pos) (tFld K ta f) := by subst hK; exact pe_fld he hb
end
theorem yesT {te : TE} {σ : L2.St} {H : Hp} {N : VK} {M : Hp → Prop} (h : te σ H N) : tYes σ H (fun b H3 => if b = true then te σ H3 N else M H3) := by
  show (if true = true then te σ H N else M H)
  rw [if_pos rfl]; exact h
theorem made_same {H H' : Hp} {x dx C : Addr} (nx : H x = none) (nd : H dx = none) (kp : ∀ c o, (upd (upd H dx (.own x)) x (.ins C dx [])) c = some o → c ≠ x → H' c = some o) : Same H H' := fun c o e => by
  have n1 : c ≠ x := ne_of_none e nx
  refine kp c o ?_ n1
  rw [upd_ne n1]
  exact up1 nd e
/-! ### the head's facts, and more of them -/
def obsM (n : Nat) (fa : List He.Fa) (fn : List He.DefD) (ex : List (PySem.W.Frag → Bool)) (g : Addr → Option Obj) : He.AlD × Bool := (He.obsDG n fa fn g, ex.all fun f => f (He.frG g (He.asD g n)))
def hookM (n : Nat) (fa : List He.Fa) (fn : List He.DefD) (ex : List (PySem.W.Frag → Bool)) : PySem.W.Hook where
  α := He.AlD × Bool
  obs := fun s => obsM n fa fn ex s.heap.get?
  val := fun _ => (He.valD fn, true)
  says := fun _ h => ∃ K : PySem.W.Frag, K.In h ∧ He.SaysD fa fn K ∧ (ex.all fun f => f K) = true
  of := fun _ _ e => ⟨_, He.frG_in, congrArg (fun z : He.AlD × Bool => z.1) e, congrArg (fun z : He.AlD × Bool => z.2) e⟩
  keeps := fun _ _ _ ⟨K, hK, c⟩ k => ⟨K, PySem.W.Frag.In.keeps hK k, c⟩
theorem obsM_eq {n : Nat} {fa : List He.Fa} {fn : List He.DefD} {ex : List (PySem.W.Frag → Bool)} {g : Addr → Option Obj} {s : Shared} (h : ∀ a, g a = s.heap.get? a) : obsM n fa fn ex g = (hookM n fa fn ex).obs s := by
  have e : g = s.heap.get? := funext h
  rw [e] <;> rfl
theorem ex_at {ex : List (PySem.W.Frag → Bool)} {K : PySem.W.Frag} (c : (ex.all fun f => f K) = true) (i : Nat) {f : PySem.W.Frag → Bool} (h : ex[i]? = some f) : f K = true := List.all_eq_true.mp c f (List.mem_of_getElem? h)
/-- what isinstance asks of an own class -/
structure IsC (K : PySem.W.Frag) (C : Addr) : Prop where
  ha : PySem.W.findIn K (.ref C) "__class__" = some (some (.builtin "object.__class__"))
  hn : PySem.W.specialIn K (.builtin "object.__class__") "__get__" = some (some (.builtin "getset_descriptor.__get__"))
  htk : PySem.W.takesIn K (.builtin "object.__class__") = some true
  hm : PySem.W.mroIn K C (.type "object") = some true
def isCB (x : Str) : PySem.W.Frag → Bool := fun K => He.eqO (PySem.W.findIn K (.ref (He.ga K x)) "__class__") (some (some (.builtin "object.__class__"))) && (He.eqO (PySem.W.specialIn K (.builtin "object.__class__") "__get__") (some (some (.builtin "getset_descriptor.__get__"))) &&
  (decide (PySem.W.takesIn K (.builtin "object.__class__") = some true) && decide (PySem.W.mroIn K (He.ga K x) (.type "object") = some true)))
theorem isC_ok {x : Str} {K : PySem.W.Frag} (c : isCB x K = true) : IsC K (He.ga K x) := by
  obtain ⟨c1, c⟩ := He.ba c
  obtain ⟨c2, c⟩ := He.ba c
  obtain ⟨c3, c4⟩ := He.ba c
  exact ⟨He.eqO_ok c1, He.eqO_ok c2, of_decide_eq_true c3, of_decide_eq_true c4⟩
/-- a class by name: an own one, a built-in one -/
def cv (K : PySem.W.Frag) : Str ⊕ String → Value
  | .inl x => .ref (He.ga K x)
  | .inr n => .type n
def kitF (a b : Str ⊕ String) (r : Bool) : PySem.W.Frag → Bool := fun K => decide (PySem.W.kitOne K (cv K a) (cv K b) = some r)
theorem kitF_ok {a b : Str ⊕ String} {r : Bool} {K : PySem.W.Frag} (c : kitF a b r K = true) : PySem.W.kitOne K (cv K a) (cv K b) = some r := of_decide_eq_true c
theorem tyM {K : PySem.W.Frag} {H : Hp} {a C dx : Addr} {fs : List (Str × V)} (e : H a = some (.ins C dx fs)) (cl : Cls K C) (i : IsC K C) : TyX K H (.ref a) (.ref C) := .base (.ins e cl i.ha i.hn i.htk i.hm)
/-! ### sums and parts of Measures -/
def sp_bin (C : Addr) (f g : Int → Int → Int → Int → Int) : Sp := fun vs H Q _ => ∃ (p q : Addr) (t u t' u' : Int), vs = [.ref p, .ref q] ∧ MAt C H p t u ∧ MAt C H q t' u' ∧ 0 < u ∧ 0 < u' ∧ Sz 100000 t ∧ Sz 4400 u ∧ Sz 100000 t' ∧ Sz 4400 u' ∧
  ∀ (r : Addr) (t2 u2 : Int) (H' : Hp), H r = none → Same H H' → MAt C H' r t2 u2 → Fr t2 u2 (f t u t' u') (g t u t' u') → Q (.ref r) H'
def sp_part (C : Addr) : Sp := fun vs H Q _ => ∃ (p : Addr) (t u m : Int), vs = [.ref p, .int m] ∧ MAt C H p t u ∧ 0 < u ∧ m ≠ 0 ∧ Sz 100000 t ∧ Sz 4400 u ∧ Sz 4400 m ∧
  ∀ (r : Addr) (t2 u2 : Int) (H' : Hp), H r = none → Same H H' → MAt C H' r t2 u2 → Fr t2 u2 t (u * m) → Q (.ref r) H'
/-- the same fraction once more -/
theorem Fr.of {t u a b c d : Int} (f : Fr t u a b) (hb : b ≠ 0) (e : a * d = c * b) : t * d = c * u := by
  have h1 := f.eq
  have h2 : (t * d) * b = (c * u) * b := by
    calc (t * d) * b = (t * b) * d := by simp only [Int.mul_assoc, Int.mul_comm, Int.mul_left_comm]
      _ = (a * u) * d := by rw [h1]
      _ = (a * d) * u := by simp only [Int.mul_assoc, Int.mul_comm, Int.mul_left_comm]
      _ = (c * b) * u := by rw [e]
      _ = (c * u) * b := by simp only [Int.mul_assoc, Int.mul_comm, Int.mul_left_comm]
  exact Int.eq_of_mul_eq_mul_right hb h2
/-- what stood at the start stands (by another name than the steps') -/
structure Old (H H' : Hp) : Prop where
  s : Same H H'
theorem Old.refl (H : Hp) : Old H H := ⟨Same.refl _⟩
theorem Old.up {p : Addr} {H H1 : Hp} {u : HO} (a : Old H H1) (hp : H1 p = none) : Old H (upd H1 p u) := ⟨a.s.up hp⟩
theorem Old.then {H H1 H2 : Hp} (a : Old H H1) (b : Same H1 H2) : Old H H2 := ⟨a.s.trans b⟩
theorem Old.kp {h : Addr} {H H1 H2 : Hp} (a : Old H H1) (nh : H h = none) (k : Kp h H1 H2) : Old H H2 := ⟨a.s.ofKp nh k⟩
theorem Old.put {h : Addr} {H H1 : Hp} {u : HO} (a : Old H H1) (nh : H h = none) : Old H (upd H1 h u) := ⟨fun c o e => by rw [upd_ne (ne_of_none e nh)]; exact a.s _ _ e⟩
/-- a list is changed, what is no list stays -/
theorem up2 {H : Hp} {l x : Addr} {xs : List V} {o u : HO} (hl : H l = some (.lst xs)) (hx : H x = some o) (no : notHand o = true) : upd H l u x = some o := by
  rw [upd_ne (ne_of hx hl (by intro e; rw [e] at no; cases no))]; exact hx
/-- what _law_is asks of a Measure -/
structure Good (t u a b : Int) : Prop where
  pos : 0 < u
  co : Int.gcd t u = 1
  eq : t * b = a * u
  st : Sz 100000 t
  su : Sz 100000 u
  sa : Sz 100000 a
  sb : Sz 100000 b
def sp_is (C : Addr) : Sp := fun vs H Q _ => ∃ (r : Addr) (t u a b : Int), vs = [.ref r, .int a, .int b] ∧ MAt C H r t u ∧ Good t u a b ∧ Q (.bl true) H
def sp_gcd : Sp := fun vs H Q _ => ∃ a b : Int, vs = [.int a, .int b] ∧ 0 ≤ a ∧ 0 ≤ b ∧ Q (.int (Int.gcd a b : Int)) H
end My
namespace My
open PySem PySem.Spec PyProof.Rows L2
/-! ### fractions as pairs, stretches as ends -/
abbrev Q2 := Int × Int
def ltq (a b : Q2) : Bool := decide (a.1 * b.2 < b.1 * a.2)
def eqq (a b : Q2) : Bool := decide (a.1 * b.2 = b.1 * a.2)
def someB : Option Q2 → Option Q2 → Bool → Bool → Bool
  | some a, some b, ia, ib => ltq a b || (eqq a b && ia && ib)
  | _, _, _, _ => true
def Re (a b : Q2) : Prop := 0 < a.2 ∧ 0 < b.2 ∧ a.1 * b.2 = b.1 * a.2
def ReO : Option Q2 → Option Q2 → Prop
  | none, none => True
  | some a, some b => Re a b
  | _, _ => False
theorem Re.symm {a b : Q2} (h : Re a b) : Re b a := ⟨h.2.1, h.1, h.2.2.symm⟩
theorem Re.refl {a : Q2} (h : 0 < a.2) : Re a a := ⟨h, h, rfl⟩
theorem ReO.symm : ∀ {a b : Option Q2}, ReO a b → ReO b a
  | none, none, _ => trivial
  | some _, some _, h => Re.symm h
  | none, some _, h => h.elim
  | some _, none, h => h.elim
theorem pos_key {a b c d : Q2} (h : Re a c) (g : Re b d) : (a.1 * b.2) * (c.2 * d.2) = (c.1 * d.2) * (a.2 * b.2) := by
  have := h.2.2
  grind
theorem pos_key' {a b c d : Q2} (h : Re a c) (g : Re b d) : (b.1 * a.2) * (c.2 * d.2) = (d.1 * c.2) * (a.2 * b.2) := by
  have := g.2.2
  grind
theorem ltq_congr {a b c d : Q2} (h : Re a c) (g : Re b d) : ltq a b = ltq c d := by
  unfold ltq
  have k1 := pos_key h g
  have k2 := pos_key' h g
  have p1 : 0 < c.2 * d.2 := Int.mul_pos h.2.1 g.2.1
  have p2 : 0 < a.2 * b.2 := Int.mul_pos h.1 g.1
  refine decide_eq_decide.mpr ⟨fun x => ?_, fun x => ?_⟩
  · have := Int.mul_lt_mul_of_pos_right x p1
    rw [k1, k2] at this
    exact Int.lt_of_mul_lt_mul_right this (Int.le_of_lt p2)
  · have := Int.mul_lt_mul_of_pos_right x p2
    rw [← k1, ← k2] at this
    exact Int.lt_of_mul_lt_mul_right this (Int.le_of_lt p1)
theorem eqq_congr {a b c d : Q2} (h : Re a c) (g : Re b d) : eqq a b = eqq c d := by
  unfold eqq
  have k1 := pos_key h g
  have k2 := pos_key' h g
  have p1 : 0 < c.2 * d.2 := Int.mul_pos h.2.1 g.2.1
  have p2 : 0 < a.2 * b.2 := Int.mul_pos h.1 g.1
  refine decide_eq_decide.mpr ⟨fun x => ?_, fun x => ?_⟩
  · rw [x] at k1
    rw [k1] at k2
    exact Int.eq_of_mul_eq_mul_right (by omega) k2
  · rw [x] at k1
    rw [← k2] at k1
    exact Int.eq_of_mul_eq_mul_right (by omega) k1
theorem someB_congr : ∀ {a b c d : Option Q2} {i j : Bool}, ReO a c → ReO b d → someB a b i j = someB c d i j
  | some a, some b, some c, some d, i, j, h, g => by
    show (ltq a b || (eqq a b && i && j)) = (ltq c d || (eqq c d && i && j))
    rw [ltq_congr h g, eqq_congr h g]
  | none, some _, none, some _, _, _, _, _ => rfl
  | none, none, none, none, _, _, _, _ => rfl
  | some _, none, some _, none, _, _, _, _ => rfl
  | some _, _, none, _, _, _, h, _ => h.elim
  | none, _, some _, _, _, _, h, _ => h.elim
  | some _, some _, some _, none, _, _, _, g => g.elim
  | some _, none, some _, some _, _, _, _, g => g.elim
  | none, some _, none, none, _, _, _, g => g.elim
  | none, none, none, some _, _, _, _, g => g.elim
theorem lt_tri (a b : Q2) : (ltq a b = true ∧ eqq a b = false ∧ ltq b a = false) ∨ (ltq a b = false ∧ eqq a b = true ∧ ltq b a = false) ∨ (ltq a b = false ∧ eqq a b = false ∧ ltq b a = true) := by
  unfold ltq eqq
  rcases Int.lt_trichotomy (a.1 * b.2) (b.1 * a.2) with h | h | h
  · exact .inl ⟨decide_eq_true h, decide_eq_false (by omega), decide_eq_false (by omega)⟩
  · exact .inr (.inl ⟨decide_eq_false (by omega), decide_eq_true h, decide_eq_false (by omega)⟩)
  · exact .inr (.inr ⟨decide_eq_false (by omega), decide_eq_false (by omega), decide_eq_true h⟩)
theorem eqq_comm (a b : Q2) : eqq a b = eqq b a := by
  unfold eqq
  exact decide_eq_decide.mpr ⟨fun h => h.symm, fun h => h.symm⟩
/-- in lowest terms, its numbers of less than four thousand bits -/
structure Low (a : Q2) : Prop where
  pos : 0 < a.2
  co : Int.gcd a.1 a.2 = 1
  s1 : Sz 4000 a.1
  s2 : Sz 4000 a.2
def LowO : Option Q2 → Prop
  | none => True
  | some a => Low a
theorem dvd_co {a b c : Int} (h : a ∣ b * c) (g : Int.gcd a b = 1) : a ∣ c := by
  have h1 : a.natAbs ∣ b.natAbs * c.natAbs := by rw [← Int.natAbs_mul]; exact Int.natAbs_dvd_natAbs.mpr h
  exact Int.natAbs_dvd_natAbs.mp (Nat.Coprime.dvd_of_dvd_mul_left g h1)
theorem low_eq {a b : Q2} (h : Low a) (g : Low b) (e : a.1 * b.2 = b.1 * a.2) : a = b := by
  have h1 := h.pos
  have g1 := g.pos
  have d1 : a.2 ∣ b.2 := by
    have : a.2 ∣ a.1 * b.2 := ⟨b.1, by rw [e, Int.mul_comm]⟩
    exact dvd_co this (by rw [Int.gcd_comm]; exact h.co)
  have d2 : b.2 ∣ a.2 := by
    have : b.2 ∣ b.1 * a.2 := ⟨a.1, by rw [← e, Int.mul_comm]⟩
    exact dvd_co this (by rw [Int.gcd_comm]; exact g.co)
  have e2 : a.2 = b.2 := Int.le_antisymm (Int.le_of_dvd g1 d1) (Int.le_of_dvd h1 d2)
  rw [e2] at e
  exact Prod.ext (Int.eq_of_mul_eq_mul_right (by omega) e) e2
theorem low_eqq {a b : Q2} (h : Low a) (g : Low b) : (decide (a.1 = b.1) && decide (a.2 = b.2)) = eqq a b := by
  unfold eqq
  by_cases e : a.1 * b.2 = b.1 * a.2
  · rw [decide_eq_true e, low_eq h g e]; simp
  · rw [decide_eq_false e]
    cases z1 : decide (a.1 = b.1) with
    | false => rfl
    | true =>
      cases z2 : decide (a.2 = b.2) with
      | false => rfl
      | true =>
        exact absurd (by rw [of_decide_eq_true z1, of_decide_eq_true z2]) e
/-! ### their values -/
/-- None, or the tuple of an end's two numbers -/
def EndV (k : Nat) (H : Hp) (v : V) : Option Q2 → Prop
  | none => v = .non
  | some a => ∃ p, v = .ref p ∧ H p = some (.tup [.int a.1, .int a.2]) ∧ 0 < a.2 ∧ Sz k a.1 ∧ Sz k a.2
theorem EndV.mono {k j : Nat} (l : k ≤ j) {H : Hp} {v : V} : ∀ {e : Option Q2}, EndV k H v e → EndV j H v e
  | none, h => h
  | some _, ⟨p, h1, h2, h3, h4, h5⟩ => ⟨p, h1, h2, h3, h4.mono l, h5.mono l⟩
def MsV (C : Addr) (H : Hp) (v : V) : Option Q2 → Prop
  | none => v = .non
  | some a => ∃ p, v = .ref p ∧ MAt C H p a.1 a.2
theorem EndV.same {k : Nat} {H H' : Hp} {v : V} : ∀ {e : Option Q2}, EndV k H v e → Same H H' → EndV k H' v e
  | none, h, _ => h
  | some _, ⟨p, h1, h2, h3⟩, s => ⟨p, h1, s _ _ h2, h3⟩
theorem EndV.kp {j : Nat} {H H' : Hp} {h : Addr} {n : Nat} {v : V} : ∀ {e : Option Q2}, EndV j H v e → HandAt H h n → Kp h H H' → EndV j H' v e
  | none, h, _, _ => h
  | some _, ⟨p, h1, h2, h3⟩, hh, k => ⟨p, h1, k.get hh h2 rfl, h3⟩
theorem MsV.same {C : Addr} {H H' : Hp} {v : V} : ∀ {e : Option Q2}, MsV C H v e → Same H H' → MsV C H' v e
  | none, h, _ => h
  | some _, ⟨p, h1, h2⟩, s => ⟨p, h1, h2.same s⟩
theorem MsV.kp {C : Addr} {H H' : Hp} {h : Addr} {n : Nat} {v : V} : ∀ {e : Option Q2}, MsV C H v e → HandAt H h n → Kp h H H' → MsV C H' v e
  | none, h, _, _ => h
  | some _, ⟨p, h1, h2⟩, hh, k => ⟨p, h1, h2.kp hh k⟩
/-! ### a Stretch -/
def sf (l h : V) (li hi : Bool) : List (Str × V) := [("low", l), ("high", h), ("low_in", .bl li), ("high_in", .bl hi)]
theorem sf_put (l h : V) (li hi : Bool) : putF "high_in" (.bl hi) (putF "low_in" (.bl li) (putF "high" h (putF "low" l []))) = sf l h li hi := by
  have e1 : putF ("high" : Str) h (putF ("low" : Str) l []) = ([("low", l), ("high", h)] : List (Str × V)) := by
    show (if ("low" : Str) = "high" then [(("low" : Str), h)] else (("low" : Str), l) :: putF "high" h []) = _
    rw [if_neg (by decide +kernel)] <;> rfl
  have e2 : putF ("low_in" : Str) (.bl li) [("low", l), ("high", h)] = ([("low", l), ("high", h), ("low_in", .bl li)] : List (Str × V)) := by
    show (if ("low" : Str) = "low_in" then _ else (("low" : Str), l) :: (if ("high" : Str) = "low_in" then _ else (("high" : Str), h) :: putF "low_in" (V.bl li) [])) = _
    rw [if_neg (by decide +kernel), if_neg (by decide +kernel)] <;> rfl
  have e3 : putF ("high_in" : Str) (.bl hi) [("low", l), ("high", h), ("low_in", .bl li)] = sf l h li hi := by
    show (if ("low" : Str) = "high_in" then _ else (("low" : Str), l) :: (if ("high" : Str) = "high_in" then _ else (("high" : Str), h) :: (if ("low_in" : Str) = "high_in" then _ else (("low_in" : Str), V.bl li) :: putF "high_in" (V.bl hi) []))) = _
    rw [if_neg (by decide +kernel), if_neg (by decide +kernel), if_neg (by decide +kernel)] <;> rfl
  rw [e1, e2, e3]
theorem sf_low (l h : V) (li hi : Bool) : (sf l h li hi).lookup ("low" : Str) = some l := by
  rw [← sf_put, lookup_putF, if_neg (by decide +kernel), lookup_putF, if_neg (by decide +kernel), lookup_putF, if_neg (by decide +kernel), lookup_putF, if_pos rfl]
theorem sf_high (l h : V) (li hi : Bool) : (sf l h li hi).lookup ("high" : Str) = some h := by
  rw [← sf_put, lookup_putF, if_neg (by decide +kernel), lookup_putF, if_neg (by decide +kernel), lookup_putF, if_pos rfl]
theorem sf_low_in (l h : V) (li hi : Bool) : (sf l h li hi).lookup ("low_in" : Str) = some (.bl li) := by
  rw [← sf_put, lookup_putF, if_neg (by decide +kernel), lookup_putF, if_pos rfl]
theorem sf_high_in (l h : V) (li hi : Bool) : (sf l h li hi).lookup ("high_in" : Str) = some (.bl hi) := by
  rw [← sf_put, lookup_putF, if_pos rfl]
theorem sf_no (l h : V) (li hi : Bool) {m : Str} (h1 : ¬ m = "low") (h2 : ¬ m = "high") (h3 : ¬ m = "low_in") (h4 : ¬ m = "high_in") : (sf l h li hi).lookup m = none := by
  rw [← sf_put, lookup_putF, if_neg h4, lookup_putF, if_neg h3, lookup_putF, if_neg h2, lookup_putF, if_neg h1] <;> rfl
/-- a Stretch at p: its ends, whether they are in -/
structure StAt (CM CS : Addr) (H : Hp) (p : Addr) (lo hi : Option Q2) (li hj : Bool) : Prop where
  ob : ∃ dx l h, H p = some (.ins CS dx (sf l h li hj)) ∧ MsV CM H l lo ∧ MsV CM H h hi
  l1 : LowO lo
  l2 : LowO hi
  n1 : lo = none → li = false
  n2 : hi = none → hj = false
theorem StAt.same {CM CS p : Addr} {H H' : Hp} {lo hi : Option Q2} {li hj : Bool} (a : StAt CM CS H p lo hi li hj) (s : Same H H') : StAt CM CS H' p lo hi li hj := by
  obtain ⟨⟨dx, l, h, h1, h2, h3⟩, a1, a2, a3, a4⟩ := a
  exact ⟨⟨dx, l, h, s _ _ h1, h2.same s, h3.same s⟩, a1, a2, a3, a4⟩
theorem StAt.kp {CM CS p h : Addr} {H H' : Hp} {n : Nat} {lo hi : Option Q2} {li hj : Bool} (a : StAt CM CS H p lo hi li hj) (hh : HandAt H h n) (s : Kp h H H') : StAt CM CS H' p lo hi li hj := by
  obtain ⟨⟨dx, l, h, h1, h2, h3⟩, a1, a2, a3, a4⟩ := a
  exact ⟨⟨dx, l, h, s.get hh h1 rfl, h2.kp hh s, h3.kp hh s⟩, a1, a2, a3, a4⟩
theorem cmpBack_of {X : Cx} {pins : List (Addr × Obj)} {σ : L2.St} {Q : VK} {u : Value} {s' : Shared} (h : EP X pins σ Q u s') : PySem.W.CmpBack (EP X pins σ Q) u s' := by
  have h0 := h
  obtain ⟨v, H', I', r, q⟩ := h
  cases v with
  | non => cases r; exact h0
  | bl _ => cases r; exact h0
  | int _ => obtain ⟨t, rfl⟩ := r; exact h0
  | str _ => obtain ⟨t, rfl⟩ := r; exact h0
  | byt _ => obtain ⟨t, rfl⟩ := r; exact h0
  | flt _ => obtain ⟨t, rfl⟩ := r; exact h0
  | ref _ => cases r; exact h0
  | ty _ => cases r; exact h0
/-- == by an own __eq__, of two instances of one class -/
theorem op_eqI {X : Cx} {CX : CXT} {n : Nat} {C f : Addr} {fd : FuncData} {ps : List Str} {sp : Sp} {E : XK} (F : FnOk X.prog X.w X.K X.mg X.base CX n f fd ps sp) (hr : Room n X.A) {ds : List Value} (hm : Meth X.K C "__eq__" f) (hb : Binds X.K fd ps ds) (hd : Vals [] ds) (hx : Passes CX X E) :
    OpR X (compareOp .Eq) (fun x y H Q => ∃ a b dx dy fs gs, x = .ref a ∧ y = .ref b ∧ H a = some (.ins C dx fs) ∧ H b = some (.ins C dy gs) ∧ sp [.ref a, .ref b] H Q E) := by
  intro pins s σ H x y v u Q I rx ry hq
  obtain ⟨a, b, dx, dy, fs, gs, rfl, rfl, ha, hb', hsp⟩ := hq
  cases rx
  cases ry
  show wpAny (model X.prog X.w) X.A (richCompare .Eq (.ref a) (.ref b)) (EP X pins σ Q) X.xe s
  obtain ⟨mA, J, _⟩ := ins_get I.hok ha
  obtain ⟨mB, J', _⟩ := ins_get I.hok hb'
  obtain ⟨od, J, _⟩ := J.look
  obtain ⟨od', J', _⟩ := J'.look
  obtain ⟨m, hF⟩ := I.fr
  refine PySem.W.cmp_K (op := .Eq) (tb := .ref C) hr.units0 hF I.ok.mod.kin J J'.type (by simp [PySem.W.notFirst]) hm.at_ hm.fn ?_
  refine thn ?_ fun u s' => cmpBack_of
  exact run_fn (us := [.ref a, .ref b]) (vs := [.ref a, .ref b]) F hr hb hd hx I (.cons rfl (.cons rfl .nil)) hsp
theorem MsV.lt_ne {C : Addr} {H : Hp} {v : V} (h : MsV C H v none) : v = .non := h
/-! ### promises -/
def sp_end : Sp := fun vs H Q _ => ∃ (h : Addr) (n : Nat), vs = [.ref h] ∧ HandAt H h n ∧ n < 100000 ∧
  ∀ (p : Addr) (a : Q2) (H' : Hp), EndV 140 H' (.ref p) (some a) → HandAt H' h (n + 3) → Kp h H H' → Q (.ref p) H'
def sp_cmp2 (f : Q2 → Q2 → Bool) : Sp := fun vs H Q _ => ∃ (va vb : V) (a b : Q2), vs = [va, vb] ∧ EndV 20000 H va (some a) ∧ EndV 20000 H vb (some b) ∧ Q (.bl (f a b)) H
def sp_lmeasure (CM : Addr) : Sp := fun vs H Q _ => ∃ (v : V) (e : Option Q2), vs = [v] ∧ EndV 4000 H v e ∧
  ∀ (v' : V) (m : Option Q2) (H' : Hp), Same H H' → MsV CM H' v' m → ReO m e → LowO m → Q v' H'
def sp_some : Sp := fun vs H Q _ => ∃ (va vb : V) (ea eb : Option Q2) (ia ib : Bool), vs = [va, vb, .bl ia, .bl ib] ∧ EndV 20000 H va ea ∧ EndV 20000 H vb eb ∧ Q (.bl (someB ea eb ia ib)) H
/-- the tuple of two ends and two truths, between which something is -/
structure EndsAt (H : Hp) (p : Addr) (ea eb : Option Q2) (ia ib : Bool) : Prop where
  ob : ∃ va vb, H p = some (.tup [va, vb, .bl ia, .bl ib]) ∧ EndV 140 H va ea ∧ EndV 140 H vb eb
  so : someB ea eb ia ib = true
theorem EndsAt.same {H H' : Hp} {p : Addr} {ea eb : Option Q2} {ia ib : Bool} (a : EndsAt H p ea eb ia ib) (s : Same H H') : EndsAt H' p ea eb ia ib := by
  obtain ⟨⟨va, vb, h1, h2, h3⟩, h4⟩ := a
  exact ⟨⟨va, vb, s _ _ h1, h2.same s, h3.same s⟩, h4⟩
theorem EndsAt.kp {H H' : Hp} {p h : Addr} {n : Nat} {ea eb : Option Q2} {ia ib : Bool} (a : EndsAt H p ea eb ia ib) (hh : HandAt H h n) (s : Kp h H H') : EndsAt H' p ea eb ia ib := by
  obtain ⟨⟨va, vb, h1, h2, h3⟩, h4⟩ := a
  exact ⟨⟨va, vb, s.get hh h1 rfl, h2.kp hh s, h3.kp hh s⟩, h4⟩
def sp_ends : Sp := fun vs H Q _ => ∃ (h : Addr) (n : Nat), vs = [.ref h] ∧ HandAt H h n ∧ n < 10000 ∧
  ∀ (p : Addr) (ea eb : Option Q2) (ia ib : Bool) (H' : Hp), EndsAt H' p ea eb ia ib → HandAt H' h (n + 9) → Kp h H H' → Q (.ref p) H'
def sp_isend (CM : Addr) : Sp := fun vs H Q _ => ∃ (v : V) (m : Option Q2), vs = [v] ∧ MsV CM H v m ∧ Q (.bl true) H
def sp_meq (CM : Addr) : Sp := fun vs H Q _ => ∃ (p q : Addr) (a b : Q2), vs = [.ref p, .ref q] ∧ MAt CM H p a.1 a.2 ∧ MAt CM H q b.1 b.2 ∧ Q (.bl (decide (a.1 = b.1) && decide (a.2 = b.2))) H
def sp_empty (CM : Addr) : Sp := fun vs H Q _ => ∃ (l h : V) (lo hi : Option Q2) (li hj : Bool), vs = [l, h, .bl li, .bl hj] ∧ MsV CM H l lo ∧ MsV CM H h hi ∧ LowO lo ∧ LowO hi ∧ Q (.bl (!someB lo hi li hj)) H
def sp_sinit (CM CS : Addr) : Sp := fun vs H Q _ => ∃ (p dx : Addr) (l h : V) (lo hi : Option Q2) (li hj : Bool), vs = [.ref p, l, h, .bl li, .bl hj] ∧ H p = some (.ins CS dx []) ∧ MsV CM H l lo ∧ MsV CM H h hi ∧ LowO lo ∧ LowO hi ∧ someB lo hi li hj = true ∧
  ∀ H', H' p = some (.ins CS dx (sf l h (li && lo.isSome) (hj && hi.isSome))) → (∀ q o, H q = some o → q ≠ p → H' q = some o) → Q .non H'
theorem MsV.put {CM p C dx : Addr} {H : Hp} {v : V} {o : HO} (hp : H p = some (.ins C dx [])) : ∀ {m : Option Q2}, MsV CM H v m → MsV CM (upd H p o) v m
  | none, h => h
  | some _, ⟨q, h1, ⟨dy, h2⟩⟩ => ⟨q, h1, ⟨dy, by
      rw [upd_ne (ne_of h2 hp (by intro e; injection e with _ _ e; cases e))]; exact h2⟩⟩
theorem StAt.mk' {CM CS p dx : Addr} {H H' : Hp} {l h : V} {lo hi : Option Q2} {li hj : Bool} (h1 : H' p = some (.ins CS dx (sf l h (li && lo.isSome) (hj && hi.isSome)))) (s : Same H H') (ml : MsV CM H l lo) (mh : MsV CM H h hi) (l1 : LowO lo) (l2 : LowO hi) :
    StAt CM CS H' p lo hi (li && lo.isSome) (hj && hi.isSome) :=
  ⟨⟨dx, l, h, h1, ml.same s, mh.same s⟩, l1, l2, fun e => by rw [e]; simp, fun e => by rw [e]; simp⟩
def sp_made (CM CS : Addr) : Sp := fun vs H Q _ => ∃ (p : Addr) (ea eb : Option Q2) (ia ib : Bool), vs = [.ref p] ∧ EndsAt H p ea eb ia ib ∧
  ∀ (r : Addr) (lo hi : Option Q2) (H' : Hp), Same H H' → StAt CM CS H' r lo hi (ia && ea.isSome) (ib && eb.isSome) → ReO lo ea → ReO hi eb → Q (.ref r) H'
theorem ReO.isS : ∀ {a b : Option Q2}, ReO a b → a.isSome = b.isSome
  | none, none, _ => rfl
  | some _, some _, _ => rfl
  | none, some _, h => h.elim
  | some _, none, h => h.elim
theorem Fr.re {t u a b : Int} (f : Fr t u a b) (hb : 0 < b) : Re (t, u) (a, b) := ⟨f.pos, hb, f.eq⟩
/-! ### what two stretches have in common -/
def cutLo : Option Q2 → Bool → Option Q2 → Bool → Option Q2 × Bool
  | none, _, n, j => (n, j)
  | some a, i, none, _ => (some a, i)
  | some a, i, some b, j => if ltq a b then (some b, j) else if eqq a b then (some a, i && j) else (some a, i)
def cutHi : Option Q2 → Bool → Option Q2 → Bool → Option Q2 × Bool
  | none, _, n, j => (n, j)
  | some a, i, none, _ => (some a, i)
  | some a, i, some b, j => if ltq b a then (some b, j) else if eqq a b then (some a, i && j) else (some a, i)
/-- the same end, and in or not alike where there is one -/
def Alike (x y : Option Q2 × Bool) : Prop := ReO x.1 y.1 ∧ (x.1.isSome = true → x.2 = y.2)
theorem Alike.flag {x y : Option Q2 × Bool} (h : Alike x y) : (x.2 && x.1.isSome) = (y.2 && y.1.isSome) := by
  obtain ⟨h1, h2⟩ := h
  rw [← h1.isS]
  cases e : x.1.isSome with
  | true => rw [h2 e]
  | false => simp
theorem Alike.someB {x y z w : Option Q2 × Bool} (h : Alike x y) (g : Alike z w) : My.someB x.1 z.1 x.2 z.2 = My.someB y.1 w.1 y.2 w.2 := by
  obtain ⟨x, i⟩ := x
  obtain ⟨y, j⟩ := y
  obtain ⟨z, k⟩ := z
  obtain ⟨w, l⟩ := w
  obtain ⟨h1, h2⟩ := h
  obtain ⟨g1, g2⟩ := g
  rw [someB_congr h1 g1]
  cases x with
  | none => cases y with
    | none => rfl
    | some _ => exact h1.elim
  | some a => cases z with
    | none => cases w with
      | none => cases y <;> rfl
      | some _ => exact g1.elim
    | some b =>
      have e1 : i = j := h2 rfl
      have e2 : k = l := g2 rfl
      rw [e1, e2]
theorem Alike.norm {a b : Option Q2} {i : Bool} (h : ReO a b) : Alike (a, i && b.isSome) (b, i) := ⟨h, fun e => by
  have e1 : a.isSome = true := e
  rw [h.isS] at e1
  show (i && b.isSome) = i
  rw [e1]; simp⟩
theorem cutLo_alike {x y z w : Option Q2 × Bool} (h : Alike x y) (g : Alike z w) : Alike (cutLo x.1 x.2 z.1 z.2) (cutLo y.1 y.2 w.1 w.2) := by
  obtain ⟨x, i⟩ := x
  obtain ⟨y, j⟩ := y
  obtain ⟨z, k⟩ := z
  obtain ⟨w, l⟩ := w
  obtain ⟨h1, h2⟩ := h
  obtain ⟨g1, g2⟩ := g
  cases x with
  | none => cases y with
    | none => exact ⟨g1, g2⟩
    | some _ => exact h1.elim
  | some a => cases y with
    | none => exact h1.elim
    | some a' => cases z with
      | none => cases w with
        | none => exact ⟨h1, h2⟩
        | some _ => exact g1.elim
      | some b => cases w with
        | none => exact g1.elim
        | some b' =>
          have e1 : i = j := h2 rfl
          have e2 : k = l := g2 rfl
          show Alike (if ltq a b then (some b, k) else if eqq a b then (some a, i && k) else (some a, i)) (if ltq a' b' then (some b', l) else if eqq a' b' then (some a', j && l) else (some a', j))
          rw [ltq_congr h1 g1, eqq_congr h1 g1, e1, e2]
          split
          · exact ⟨g1, fun _ => rfl⟩
          · split
            · exact ⟨h1, fun _ => rfl⟩
            · exact ⟨h1, fun _ => rfl⟩
theorem cutHi_alike {x y z w : Option Q2 × Bool} (h : Alike x y) (g : Alike z w) : Alike (cutHi x.1 x.2 z.1 z.2) (cutHi y.1 y.2 w.1 w.2) := by
  obtain ⟨x, i⟩ := x
  obtain ⟨y, j⟩ := y
  obtain ⟨z, k⟩ := z
  obtain ⟨w, l⟩ := w
  obtain ⟨h1, h2⟩ := h
  obtain ⟨g1, g2⟩ := g
  cases x with
  | none => cases y with
    | none => exact ⟨g1, g2⟩
    | some _ => exact h1.elim
  | some a => cases y with
    | none => exact h1.elim
    | some a' => cases z with
      | none => cases w with
        | none => exact ⟨h1, h2⟩
        | some _ => exact g1.elim
      | some b => cases w with
        | none => exact g1.elim
        | some b' =>
          have e1 : i = j := h2 rfl
          have e2 : k = l := g2 rfl
          show Alike (if ltq b a then (some b, k) else if eqq a b then (some a, i && k) else (some a, i)) (if ltq b' a' then (some b', l) else if eqq a' b' then (some a', j && l) else (some a', j))
          rw [ltq_congr g1 h1, eqq_congr h1 g1, e1, e2]
          split
          · exact ⟨g1, fun _ => rfl⟩
          · split
            · exact ⟨h1, fun _ => rfl⟩
            · exact ⟨h1, fun _ => rfl⟩
theorem cutLo_low {a b : Option Q2} {i j : Bool} (h : LowO a) (g : LowO b) : LowO (cutLo a i b j).1 := by
  cases a with
  | none => exact g
  | some a => cases b with
    | none => exact h
    | some b =>
      show LowO (if ltq a b then (some b, j) else if eqq a b then (some a, i && j) else (some a, i)).1
      split
      · exact g
      · split <;> exact h
theorem cutHi_low {a b : Option Q2} {i j : Bool} (h : LowO a) (g : LowO b) : LowO (cutHi a i b j).1 := by
  cases a with
  | none => exact g
  | some a => cases b with
    | none => exact h
    | some b =>
      show LowO (if ltq b a then (some b, j) else if eqq a b then (some a, i && j) else (some a, i)).1
      split
      · exact g
      · split <;> exact h
def sp_cutEnd (CM CS : Addr) (f : Option Q2 → Option Q2 → Bool → Bool → Option Q2 → Option Q2 → Bool → Bool → Option Q2 × Bool) : Sp := fun vs H Q _ => ∃ (p q : Addr) (m1 m2 n1 n2 : Option Q2) (i1 i2 j1 j2 : Bool), vs = [.ref p, .ref q] ∧ StAt CM CS H p m1 m2 i1 i2 ∧ StAt CM CS H q n1 n2 j1 j2 ∧
  ∀ (r : Addr) (v : V) (H' : Hp), Same H H' → H' r = some (.tup [v, .bl (f m1 m2 i1 i2 n1 n2 j1 j2).2]) → MsV CM H' v (f m1 m2 i1 i2 n1 n2 j1 j2).1 → Q (.ref r) H'
/-- a Stretch, or None where nothing is between -/
def CutV (CM CS : Addr) (H : Hp) (v : V) (lo hi : Option Q2 × Bool) : Prop :=
  (someB lo.1 hi.1 lo.2 hi.2 = true ∧ ∃ r, v = .ref r ∧ StAt CM CS H r lo.1 hi.1 (lo.2 && lo.1.isSome) (hi.2 && hi.1.isSome)) ∨ (someB lo.1 hi.1 lo.2 hi.2 = false ∧ v = .non)
def sp_cutS (CM CS : Addr) : Sp := fun vs H Q _ => ∃ (p q : Addr) (m1 m2 n1 n2 : Option Q2) (i1 i2 j1 j2 : Bool), vs = [.ref p, .ref q] ∧ StAt CM CS H p m1 m2 i1 i2 ∧ StAt CM CS H q n1 n2 j1 j2 ∧
  ∀ (v : V) (H' : Hp), Same H H' → CutV CM CS H' v (cutLo m1 i1 n1 j1) (cutHi m2 i2 n2 j2) → Q v H'
/-- the law's own: a tuple of four, or None -/
def DueV (H : Hp) (v : V) (lo hi : Option Q2 × Bool) : Prop :=
  (someB lo.1 hi.1 lo.2 hi.2 = true ∧ ∃ r, v = .ref r ∧ EndsAt H r lo.1 hi.1 lo.2 hi.2) ∨ (someB lo.1 hi.1 lo.2 hi.2 = false ∧ v = .non)
theorem DueV.same {H H' : Hp} {v : V} {lo hi : Option Q2 × Bool} (h : DueV H v lo hi) (s : Same H H') : DueV H' v lo hi := by
  rcases h with ⟨h1, r, h2, h3⟩ | h
  · exact .inl ⟨h1, r, h2, h3.same s⟩
  · exact .inr h
theorem CutV.same {CM CS : Addr} {H H' : Hp} {v : V} {lo hi : Option Q2 × Bool} (h : CutV CM CS H v lo hi) (s : Same H H') : CutV CM CS H' v lo hi := by
  rcases h with ⟨h1, r, h2, h3⟩ | h
  · exact .inl ⟨h1, r, h2, h3.same s⟩
  · exact .inr h
def sp_lcut : Sp := fun vs H Q _ => ∃ (p q : Addr) (ea eb fa fb : Option Q2) (ia ib ja jb : Bool), vs = [.ref p, .ref q] ∧ EndsAt H p ea eb ia ib ∧ EndsAt H q fa fb ja jb ∧
  ∀ (v : V) (H' : Hp), Same H H' → DueV H' v (cutLo ea ia fa ja) (cutHi eb ib fb jb) → Q v H'
def sp_pair : Sp := fun vs H Q _ => ∃ (h : Addr) (n : Nat), vs = [.ref h] ∧ HandAt H h n ∧ n < 1000 ∧
  ∀ (r p q : Addr) (ea eb fa fb : Option Q2) (ia ib ja jb : Bool) (H' : Hp), H' r = some (.tup [.ref p, .ref q]) → EndsAt H' p ea eb ia ib → EndsAt H' q fa fb ja jb → HandAt H' h (n + 19) → Kp h H H' → Q (.ref r) H'
def sp_kept (CM : Addr) : Sp := fun vs H Q _ => ∃ (v w : V) (e m : Option Q2), vs = [v, w] ∧ EndV 140 H v e ∧ MsV CM H w m ∧ ReO m e ∧ LowO m ∧ ∀ H', Same H H' → Q (.bl true) H'
def sp_truth : Sp := fun vs H Q _ => ∃ b c : Bool, vs = [.bl b, .bl c] ∧ Q (.bl (decide (b = c))) H
/-- what is told is what is due -/
def Match (CM CS : Addr) (H : Hp) (found due : V) : Prop :=
  (found = .non ∧ due = .non) ∨ ∃ (r d : Addr) (lo hi ea eb : Option Q2) (ia ib : Bool), found = .ref r ∧ due = .ref d ∧ EndsAt H d ea eb ia ib ∧ StAt CM CS H r lo hi (ia && ea.isSome) (ib && eb.isSome) ∧ ReO lo ea ∧ ReO hi eb
theorem Match.same {CM CS : Addr} {H H' : Hp} {f d : V} (h : Match CM CS H f d) (s : Same H H') : Match CM CS H' f d := by
  rcases h with h | ⟨r, d, lo, hi, ea, eb, ia, ib, h1, h2, h3, h4, h5, h6⟩
  · exact .inl h
  · exact .inr ⟨r, d, lo, hi, ea, eb, ia, ib, h1, h2, h3.same s, h4.same s, h5, h6⟩
theorem match_of {CM CS : Addr} {H : Hp} {f d : V} {x y z w : Option Q2 × Bool} (c : CutV CM CS H f x z) (g : DueV H d y w) (h1 : Alike x y) (h2 : Alike z w) : Match CM CS H f d := by
  have e := h1.someB h2
  rcases c with ⟨c1, r, c2, c3⟩ | ⟨c1, c2⟩
  · rcases g with ⟨g1, t, g2, g3⟩ | ⟨g1, g2⟩
    · rw [h1.flag, h2.flag] at c3
      exact .inr ⟨r, t, _, _, _, _, _, _, c2, g2, g3, c3, h1.1, h2.1⟩
    · rw [e, g1] at c1; cases c1
  · rcases g with ⟨g1, t, g2, g3⟩ | ⟨g1, g2⟩
    · rw [e, g1] at c1; cases c1
    · exact .inl ⟨c2, g2⟩
def sp_right (CM CS : Addr) : Sp := fun vs H Q _ => ∃ f d : V, vs = [f, d] ∧ Match CM CS H f d ∧ ∀ H', Same H H' → Q (.bl true) H'
theorem decB (b c : Bool) : decide (V.bl b = V.bl c) = decide (b = c) := by
  cases b <;> cases c <;> decide
/-- a comprehension over a tuple whose elements are reckoned without a change of what stands -/
theorem lcsT {K : PySem.W.Frag} {a : Addr} {xs : List V} {g : TG} {tt : TT} {te : TE} {vs : List Nat} {σ : L2.St} {H1 : Hp} {D : Addr} {Qd : Hp → Prop} (ys : List V) (hlen : ys.length = xs.length) (hz : ys.length < sizeLine) (hS : SqT K H1 a xs) (hD : H1 D = none)
    (hs : ∀ (i : Nat) (x y : V) (H : Hp) (N : VK) (M : Hp → Prop), xs[i]? = some x → ys[i]? = some y → Same H1 H → (∀ H4, Same H H4 → N y H4) → g x (wipe σ vs) H fun σ2 H2 => wipe σ2 vs = wipe σ vs ∧ tt σ2 H2 fun b H3 => if b = true then te σ2 H3 N else M H3)
    (hd : ∀ H, Same H1 H → H D = some (.lst ys) → Qd H) :
    ∃ W : Nat → Nat → Hp → Prop, (∃ m, W 0 m (upd H1 D (.lst []))) ∧ ∀ i m H, W i m H →
      ((Itt K a).stop i H ∧ Qd H) ∨ ((Itt K a).go i H ∧ ∃ Nx : Hp → Prop, (∀ H', Nx H' → ∃ m', m' < m ∧ W (i + 1) m' H') ∧ ∀ x H', (Itt K a).yld i H x H' → g x (wipe σ vs) H' fun σ2 H2 => wipe σ2 vs = wipe σ vs ∧ tt σ2 H2 fun b H3 =>
        if b = true then te σ2 H3 fun y H4 => ∃ acc, H4 D = some (.lst acc) ∧ acc.length < sizeLine ∧ Nx (upd H4 D (.lst (acc ++ [y]))) else Nx H3) := by
  refine lc_tup (fun i H => Same H1 H ∧ H D = some (.lst (ys.take i))) ⟨same1 hD, upd_same⟩ (fun i H _ p => p.1.sqt hS) (fun i x H hx p => ?_) (fun H p => hd H p.1 ?_)
  · have hi : i < ys.length := by rw [hlen]; exact (List.getElem?_eq_some_iff.mp hx).1
    refine hs i x ys[i] H _ _ hx (List.getElem?_eq_getElem hi) p.1 fun H4 s4 => ⟨_, s4 _ _ p.2, ?_, ?_, ?_⟩
    · rw [List.length_take]; omega
    · intro c o e
      rw [upd_ne (ne_of_none e hD)]
      exact s4 _ _ (p.1 _ _ e)
    · rw [upd_same, List.take_add_one, List.getElem?_eq_getElem hi]
      rfl
  · have e := p.2
    rw [← hlen, List.take_length] at e
    exact e
theorem Re.trans {a b c : Q2} (h : Re a b) (g : Re b c) : Re a c := by
  obtain ⟨h1, h2, h3⟩ := h
  obtain ⟨g1, g2, g3⟩ := g
  refine ⟨h1, g2, Int.eq_of_mul_eq_mul_right (show b.2 ≠ 0 by omega) ?_⟩
  grind
theorem ReO.trans : ∀ {a b c : Option Q2}, ReO a b → ReO b c → ReO a c
  | none, none, none, _, _ => trivial
  | some _, some _, some _, h, g => Re.trans h g
  | none, some _, _, h, _ => h.elim
  | some _, none, _, h, _ => h.elim
  | none, none, some _, _, g => g.elim
  | some _, some _, none, _, g => g.elim
def PosO : Option Q2 → Prop
  | none => True
  | some a => 0 < a.2
theorem LowO.posO : ∀ {a : Option Q2}, LowO a → PosO a
  | none, _ => trivial
  | some _, h => Low.pos h
theorem ReO.refl : ∀ {a : Option Q2}, PosO a → ReO a a
  | none, _ => trivial
  | some _, h => Re.refl h
theorem Alike.trans {x y z : Option Q2 × Bool} (h : Alike x y) (g : Alike y z) : Alike x z := ⟨h.1.trans g.1, fun e => (h.2 e).trans (g.2 (by rw [← h.1.isS]; exact e))⟩
theorem Alike.normL {x y : Option Q2 × Bool} (h : Alike x y) : Alike (x.1, x.2 && x.1.isSome) y := ⟨h.1, fun e => by
  have e1 : x.1.isSome = true := e
  show (x.2 && x.1.isSome) = y.2
  rw [e1, h.2 e1]; simp⟩
theorem cutLo_comm {a b : Option Q2} {i j : Bool} (ha : PosO a) (hb : PosO b) : Alike (cutLo b j a i) (cutLo a i b j) := by
  cases a with
  | none => cases b with
    | none => exact ⟨trivial, fun e => nomatch e⟩
    | some b => exact ⟨Re.refl hb, fun _ => rfl⟩
  | some a => cases b with
    | none => exact ⟨Re.refl ha, fun _ => rfl⟩
    | some b =>
      show Alike (if ltq b a then (some a, i) else if eqq b a then (some b, j && i) else (some b, j)) (if ltq a b then (some b, j) else if eqq a b then (some a, i && j) else (some a, i))
      rw [eqq_comm b a]
      rcases lt_tri a b with ⟨h1, h2, h3⟩ | ⟨h1, h2, h3⟩ | ⟨h1, h2, h3⟩
      · rw [h1, h2, h3]; exact ⟨Re.refl hb, fun _ => rfl⟩
      · rw [h1, h2, h3]; exact ⟨⟨hb, ha, (of_decide_eq_true h2).symm⟩, fun _ => Bool.and_comm _ _⟩
      · rw [h1, h2, h3]; exact ⟨Re.refl ha, fun _ => rfl⟩
theorem cutHi_comm {a b : Option Q2} {i j : Bool} (ha : PosO a) (hb : PosO b) : Alike (cutHi b j a i) (cutHi a i b j) := by
  cases a with
  | none => cases b with
    | none => exact ⟨trivial, fun e => nomatch e⟩
    | some b => exact ⟨Re.refl hb, fun _ => rfl⟩
  | some a => cases b with
    | none => exact ⟨Re.refl ha, fun _ => rfl⟩
    | some b =>
      show Alike (if ltq a b then (some a, i) else if eqq b a then (some b, j && i) else (some b, j)) (if ltq b a then (some b, j) else if eqq a b then (some a, i && j) else (some a, i))
      rw [eqq_comm b a]
      rcases lt_tri a b with ⟨h1, h2, h3⟩ | ⟨h1, h2, h3⟩ | ⟨h1, h2, h3⟩
      · rw [h1, h2, h3]; exact ⟨Re.refl ha, fun _ => rfl⟩
      · rw [h1, h2, h3]; exact ⟨⟨hb, ha, (of_decide_eq_true h2).symm⟩, fun _ => Bool.and_comm _ _⟩
      · rw [h1, h2, h3]; exact ⟨Re.refl hb, fun _ => rfl⟩
theorem cutLo_self {a : Option Q2} {i : Bool} (ha : PosO a) : Alike (cutLo a i a i) (a, i) := by
  cases a with
  | none => exact ⟨trivial, fun e => nomatch e⟩
  | some a =>
    have e : eqq a a = true := decide_eq_true rfl
    have f : ltq a a = false := decide_eq_false (by omega)
    show Alike (if ltq a a then (some a, i) else if eqq a a then (some a, i && i) else (some a, i)) _
    rw [e, f]
    exact ⟨Re.refl ha, fun _ => Bool.and_self _⟩
theorem cutHi_self {a : Option Q2} {i : Bool} (ha : PosO a) : Alike (cutHi a i a i) (a, i) := by
  cases a with
  | none => exact ⟨trivial, fun e => nomatch e⟩
  | some a =>
    have e : eqq a a = true := decide_eq_true rfl
    have f : ltq a a = false := decide_eq_false (by omega)
    show Alike (if ltq a a then (some a, i) else if eqq a a then (some a, i && i) else (some a, i)) _
    rw [e, f]
    exact ⟨Re.refl ha, fun _ => Bool.and_self _⟩
theorem StAt.raw {CM CS p : Addr} {H : Hp} {lo hi : Option Q2} {li hj : Bool} (a : StAt CM CS H p lo hi li hj) {m : Str} (h1 : ¬ m = "low") (h2 : ¬ m = "high") (h3 : ¬ m = "low_in") (h4 : ¬ m = "high_in") : ∃ dx fs, H p = some (.ins CS dx fs) ∧ fs.lookup m = none := by
  obtain ⟨⟨dx, l, h, e, _⟩, _⟩ := a
  exact ⟨dx, _, e, sf_no _ _ _ _ h1 h2 h3 h4⟩
theorem EndsAt.due {H : Hp} {p : Addr} {ea eb : Option Q2} {ia ib : Bool} (a : EndsAt H p ea eb ia ib) : DueV H (.ref p) (ea, ia) (eb, ib) := .inl ⟨a.so, p, rfl, a⟩
/-! ### what a stretch holds -/
def loIn : Option Q2 → Bool → Q2 → Bool
  | none, _, _ => true
  | some a, i, x => ltq a x || (i && eqq a x)
def hiIn : Option Q2 → Bool → Q2 → Bool
  | none, _, _ => true
  | some b, j, x => ltq x b || (j && eqq x b)
theorem ltq_trans {a b c : Q2} (hb : 0 < b.2) (ha : 0 < a.2) (hc : 0 < c.2) (h : ltq a b = true) (g : ltq b c = true) : ltq a c = true := by
  unfold ltq at *
  have h := of_decide_eq_true h
  have g := of_decide_eq_true g
  refine decide_eq_true ?_
  have h2 := Int.mul_lt_mul_of_pos_right h hc
  have g2 := Int.mul_lt_mul_of_pos_right g ha
  have e1 : b.1 * a.2 * c.2 = b.1 * c.2 * a.2 := by simp only [Int.mul_assoc, Int.mul_comm, Int.mul_left_comm]
  rw [e1] at h2
  have k := Int.lt_trans h2 g2
  have e2 : a.1 * b.2 * c.2 = a.1 * c.2 * b.2 := by simp only [Int.mul_assoc, Int.mul_comm, Int.mul_left_comm]
  have e3 : c.1 * b.2 * a.2 = c.1 * a.2 * b.2 := by simp only [Int.mul_assoc, Int.mul_comm, Int.mul_left_comm]
  rw [e2, e3] at k
  exact Int.lt_of_mul_lt_mul_right k (Int.le_of_lt hb)
theorem eqq_re {a b : Q2} (ha : 0 < a.2) (hb : 0 < b.2) (h : eqq a b = true) : Re a b := ⟨ha, hb, of_decide_eq_true h⟩
theorem loIn_alike {x y : Option Q2 × Bool} {q r : Q2} (h : Alike x y) (g : Re q r) : loIn x.1 x.2 q = loIn y.1 y.2 r := by
  obtain ⟨x, i⟩ := x
  obtain ⟨y, j⟩ := y
  obtain ⟨h1, h2⟩ := h
  cases x with
  | none => cases y with
    | none => rfl
    | some _ => exact h1.elim
  | some a => cases y with
    | none => exact h1.elim
    | some b =>
      have e : i = j := h2 rfl
      show (ltq a q || (i && eqq a q)) = (ltq b r || (j && eqq b r))
      rw [ltq_congr h1 g, eqq_congr h1 g, e]
theorem hiIn_alike {x y : Option Q2 × Bool} {q r : Q2} (h : Alike x y) (g : Re q r) : hiIn x.1 x.2 q = hiIn y.1 y.2 r := by
  obtain ⟨x, i⟩ := x
  obtain ⟨y, j⟩ := y
  obtain ⟨h1, h2⟩ := h
  cases x with
  | none => cases y with
    | none => rfl
    | some _ => exact h1.elim
  | some a => cases y with
    | none => exact h1.elim
    | some b =>
      have e : i = j := h2 rfl
      show (ltq q a || (i && eqq q a)) = (ltq r b || (j && eqq r b))
      rw [ltq_congr g h1, eqq_congr g h1, e]
theorem loIn_up {a b x : Q2} {i j : Bool} (ha : 0 < a.2) (hb : 0 < b.2) (hx : 0 < x.2) (h : ltq a b = true) (g : (ltq b x || (j && eqq b x)) = true) : (ltq a x || (i && eqq a x)) = true := by
  have e : ltq a x = true := by
    cases e1 : ltq b x with
    | true => exact ltq_trans hb ha hx h e1
    | false =>
      rw [e1, Bool.false_or] at g
      have e2 := (Bool.and_eq_true_iff.mp g).2
      rw [← ltq_congr (Re.refl ha) (eqq_re hb hx e2)]
      exact h
  rw [e]; rfl
theorem hiIn_up {a b x : Q2} {i j : Bool} (ha : 0 < a.2) (hb : 0 < b.2) (hx : 0 < x.2) (h : ltq b a = true) (g : (ltq x b || (j && eqq x b)) = true) : (ltq x a || (i && eqq x a)) = true := by
  have e : ltq x a = true := by
    cases e1 : ltq x b with
    | true => exact ltq_trans hb hx ha e1 h
    | false =>
      rw [e1, Bool.false_or] at g
      have e2 := (Bool.and_eq_true_iff.mp g).2
      rw [ltq_congr (eqq_re hx hb e2) (Re.refl ha)]
      exact h
  rw [e]; rfl
theorem cutLo_in {a b : Option Q2} {i j : Bool} {x : Q2} (ha : PosO a) (hb : PosO b) (hx : 0 < x.2) : loIn (cutLo a i b j).1 (cutLo a i b j).2 x = (loIn a i x && loIn b j x) := by
  cases a with
  | none => rfl
  | some a => cases b with
    | none => exact (Bool.and_true _).symm
    | some b =>
      show loIn (if ltq a b then (some b, j) else if eqq a b then (some a, i && j) else (some a, i)).1 (if ltq a b then (some b, j) else if eqq a b then (some a, i && j) else (some a, i)).2 x = ((ltq a x || (i && eqq a x)) && (ltq b x || (j && eqq b x)))
      rcases lt_tri a b with ⟨h1, h2, h3⟩ | ⟨h1, h2, h3⟩ | ⟨h1, h2, h3⟩
      · rw [h1]
        show (ltq b x || (j && eqq b x)) = _
        cases e : (ltq b x || (j && eqq b x)) with
        | false => simp
        | true => rw [loIn_up ha hb hx h1 e]; rfl
      · rw [h1, h2]
        show (ltq a x || (i && j && eqq a x)) = _
        have r := eqq_re ha hb h2
        rw [← ltq_congr r (Re.refl hx), ← eqq_congr r (Re.refl hx)]
        cases ltq a x <;> cases eqq a x <;> cases i <;> cases j <;> rfl
      · rw [h1, h2]
        show (ltq a x || (i && eqq a x)) = _
        cases e : (ltq a x || (i && eqq a x)) with
        | false => rfl
        | true => rw [loIn_up hb ha hx h3 e]; rfl
theorem cutHi_in {a b : Option Q2} {i j : Bool} {x : Q2} (ha : PosO a) (hb : PosO b) (hx : 0 < x.2) : hiIn (cutHi a i b j).1 (cutHi a i b j).2 x = (hiIn a i x && hiIn b j x) := by
  cases a with
  | none => rfl
  | some a => cases b with
    | none => exact (Bool.and_true _).symm
    | some b =>
      show hiIn (if ltq b a then (some b, j) else if eqq a b then (some a, i && j) else (some a, i)).1 (if ltq b a then (some b, j) else if eqq a b then (some a, i && j) else (some a, i)).2 x = ((ltq x a || (i && eqq x a)) && (ltq x b || (j && eqq x b)))
      rcases lt_tri a b with ⟨h1, h2, h3⟩ | ⟨h1, h2, h3⟩ | ⟨h1, h2, h3⟩
      · rw [h3, h2]
        show (ltq x a || (i && eqq x a)) = _
        cases e : (ltq x a || (i && eqq x a)) with
        | false => rfl
        | true => rw [hiIn_up hb ha hx h1 e]; rfl
      · rw [h3, h2]
        show (ltq x a || (i && j && eqq x a)) = _
        have r := eqq_re ha hb h2
        rw [← ltq_congr (Re.refl hx) r, ← eqq_congr (Re.refl hx) r]
        cases ltq x a <;> cases eqq x a <;> cases i <;> cases j <;> rfl
      · rw [h3]
        show (ltq x b || (j && eqq x b)) = _
        cases e : (ltq x b || (j && eqq x b)) with
        | false => simp
        | true => rw [hiIn_up ha hb hx h3 e]; rfl
/-! ### sums, once more, by the size of the new bottom -/
def sp_bin2 (C : Addr) (f g : Int → Int → Int → Int → Int) : Sp := fun vs H Q _ => ∃ (p q : Addr) (t u t' u' : Int), vs = [.ref p, .ref q] ∧ MAt C H p t u ∧ MAt C H q t' u' ∧ 0 < u ∧ 0 < u' ∧ Sz 100000 t ∧ Sz 100000 u ∧ Sz 100000 t' ∧ Sz 100000 u' ∧ Sz 9000 (u * u') ∧
  ∀ (r : Addr) (t2 u2 : Int) (H' : Hp), H r = none → Same H H' → MAt C H' r t2 u2 → Fr t2 u2 (f t u t' u') (g t u t' u') → Q (.ref r) H'
def sp_part2 (C : Addr) : Sp := fun vs H Q _ => ∃ (p : Addr) (t u m : Int), vs = [.ref p, .int m] ∧ MAt C H p t u ∧ 0 < u ∧ m ≠ 0 ∧ Sz 100000 t ∧ Sz 100000 u ∧ Sz 100000 m ∧ Sz 9000 (u * m) ∧
  ∀ (r : Addr) (t2 u2 : Int) (H' : Hp), H r = none → Same H H' → MAt C H' r t2 u2 → Fr t2 u2 t (u * m) → Q (.ref r) H'
/-- a Measure that the stretch holds -/
structure Held (CM : Addr) (H : Hp) (r : Addr) (x : Q2) (lo hi : Option Q2) (li hj : Bool) : Prop where
  at_ : MAt CM H r x.1 x.2
  pos : 0 < x.2
  s1 : Sz 15000 x.1
  s2 : Sz 15000 x.2
  low : loIn lo li x = true
  high : hiIn hi hj x = true
def sp_somem (CM CS : Addr) : Sp := fun vs H Q _ => ∃ (p : Addr) (lo hi : Option Q2) (li hj : Bool), vs = [.ref p] ∧ StAt CM CS H p lo hi li hj ∧ someB lo hi li hj = true ∧
  ∀ (r : Addr) (x : Q2) (H' : Hp), Same H H' → Held CM H' r x lo hi li hj → Q (.ref r) H'
def sp_meets (CM CS : Addr) : Sp := fun vs H Q _ => ∃ (p q : Addr) (m1 m2 n1 n2 : Option Q2) (i1 i2 j1 j2 : Bool), vs = [.ref p, .ref q] ∧ StAt CM CS H p m1 m2 i1 i2 ∧ StAt CM CS H q n1 n2 j1 j2 ∧
  ∀ H' : Hp, Same H H' → Q (.bl (someB (cutLo m1 i1 n1 j1).1 (cutHi m2 i2 n2 j2).1 (cutLo m1 i1 n1 j1).2 (cutHi m2 i2 n2 j2).2)) H'
/-- a Measure in both, or None -/
def ShV (CM : Addr) (H : Hp) (v : V) (m1 m2 n1 n2 : Option Q2) (i1 i2 j1 j2 : Bool) : Prop :=
  (someB (cutLo m1 i1 n1 j1).1 (cutHi m2 i2 n2 j2).1 (cutLo m1 i1 n1 j1).2 (cutHi m2 i2 n2 j2).2 = true ∧ ∃ r x, v = .ref r ∧ Held CM H r x m1 m2 i1 i2 ∧ Held CM H r x n1 n2 j1 j2) ∨
  (someB (cutLo m1 i1 n1 j1).1 (cutHi m2 i2 n2 j2).1 (cutLo m1 i1 n1 j1).2 (cutHi m2 i2 n2 j2).2 = false ∧ v = .non)
theorem Held.same {CM r : Addr} {H H' : Hp} {x : Q2} {lo hi : Option Q2} {li hj : Bool} (a : Held CM H r x lo hi li hj) (s : Same H H') : Held CM H' r x lo hi li hj := ⟨a.at_.same s, a.pos, a.s1, a.s2, a.low, a.high⟩
theorem ShV.same {CM : Addr} {H H' : Hp} {v : V} {m1 m2 n1 n2 : Option Q2} {i1 i2 j1 j2 : Bool} (a : ShV CM H v m1 m2 n1 n2 i1 i2 j1 j2) (s : Same H H') : ShV CM H' v m1 m2 n1 n2 i1 i2 j1 j2 := by
  rcases a with ⟨e, r, x, h1, h2, h3⟩ | h
  · exact .inl ⟨e, r, x, h1, h2.same s, h3.same s⟩
  · exact .inr h
def sp_shared (CM CS : Addr) : Sp := fun vs H Q _ => ∃ (p q : Addr) (m1 m2 n1 n2 : Option Q2) (i1 i2 j1 j2 : Bool), vs = [.ref p, .ref q] ∧ StAt CM CS H p m1 m2 i1 i2 ∧ StAt CM CS H q n1 n2 j1 j2 ∧
  ∀ (v : V) (H' : Hp), Same H H' → ShV CM H' v m1 m2 n1 n2 i1 i2 j1 j2 → Q v H'
theorem held_cut {CM r : Addr} {H : Hp} {x : Q2} {m1 m2 n1 n2 : Option Q2} {i1 i2 j1 j2 : Bool} (p1 : PosO m1) (p2 : PosO m2) (p3 : PosO n1) (p4 : PosO n2)
    (h : Held CM H r x (cutLo m1 i1 n1 j1).1 (cutHi m2 i2 n2 j2).1 ((cutLo m1 i1 n1 j1).2 && (cutLo m1 i1 n1 j1).1.isSome) ((cutHi m2 i2 n2 j2).2 && (cutHi m2 i2 n2 j2).1.isSome)) : Held CM H r x m1 m2 i1 i2 ∧ Held CM H r x n1 n2 j1 j2 := by
  have e1 : loIn (cutLo m1 i1 n1 j1).1 ((cutLo m1 i1 n1 j1).2 && (cutLo m1 i1 n1 j1).1.isSome) x = loIn (cutLo m1 i1 n1 j1).1 (cutLo m1 i1 n1 j1).2 x := by
    generalize cutLo m1 i1 n1 j1 = c
    obtain ⟨c, i⟩ := c
    cases c with
    | none => rfl
    | some a => show (ltq a x || ((i && true) && eqq a x)) = _; rw [Bool.and_true]; rfl
  have e2 : hiIn (cutHi m2 i2 n2 j2).1 ((cutHi m2 i2 n2 j2).2 && (cutHi m2 i2 n2 j2).1.isSome) x = hiIn (cutHi m2 i2 n2 j2).1 (cutHi m2 i2 n2 j2).2 x := by
    generalize cutHi m2 i2 n2 j2 = c
    obtain ⟨c, i⟩ := c
    cases c with
    | none => rfl
    | some a => show (ltq x a || ((i && true) && eqq x a)) = _; rw [Bool.and_true]; rfl
  have h1 := h.low
  have h2 := h.high
  rw [e1, cutLo_in p1 p3 h.pos] at h1
  rw [e2, cutHi_in p2 p4 h.pos] at h2
  obtain ⟨a1, a2⟩ := Bool.and_eq_true_iff.mp h1
  obtain ⟨b1, b2⟩ := Bool.and_eq_true_iff.mp h2
  exact ⟨⟨h.at_, h.pos, h.s1, h.s2, a1, b1⟩, ⟨h.at_, h.pos, h.s1, h.s2, a2, b2⟩⟩
def sp_lin : Sp := fun vs H Q _ => ∃ (p : Addr) (v va vb : V) (ea eb : Option Q2) (ia ib : Bool) (x : Q2), vs = [.ref p, v] ∧ H p = some (.tup [va, vb, .bl ia, .bl ib]) ∧ EndV 140 H va ea ∧ EndV 140 H vb eb ∧ EndV 20000 H v (some x) ∧ Q (.bl (loIn ea ia x && hiIn eb ib x)) H
theorem one_one {t u : Int} (f : Fr t u 1 1) : t = u := by have := f.eq; omega
theorem below_one {b : Q2} {t u t2 u2 : Int} (hb : 0 < b.2) (f : Fr t u 1 1) (g : Fr t2 u2 (b.1 * u - t * b.2) (b.2 * u)) : ltq (t2, u2) b = true := by
  have e := one_one f
  subst e
  have ht := f.pos
  have hp : 0 < b.2 * t := Int.mul_pos hb ht
  rw [ltq_congr (g.re hp) (Re.refl hb)]
  refine decide_eq_true ?_
  show (b.1 * t - t * b.2) * b.2 < b.1 * (b.2 * t)
  have h1 : 0 < t * b.2 * b.2 := Int.mul_pos (Int.mul_pos ht hb) hb
  have h2 : (b.1 * t - t * b.2) * b.2 = b.1 * (b.2 * t) - t * b.2 * b.2 := by grind
  omega
theorem above_one {a : Q2} {t u t2 u2 : Int} (ha : 0 < a.2) (f : Fr t u 1 1) (g : Fr t2 u2 (a.1 * u + t * a.2) (a.2 * u)) : ltq a (t2, u2) = true := by
  have e := one_one f
  subst e
  have ht := f.pos
  have hp : 0 < a.2 * t := Int.mul_pos ha ht
  rw [ltq_congr (Re.refl ha) (g.re hp)]
  refine decide_eq_true ?_
  show a.1 * (a.2 * t) < (a.1 * t + t * a.2) * a.2
  have h1 : 0 < t * a.2 * a.2 := Int.mul_pos (Int.mul_pos ht ha) ha
  have h2 : (a.1 * t + t * a.2) * a.2 = a.1 * (a.2 * t) + t * a.2 * a.2 := by grind
  omega
theorem mid_lt {a b : Q2} {t2 u2 t3 u3 : Int} (ha : 0 < a.2) (hb : 0 < b.2) (h : ltq a b = true) (g : Fr t2 u2 (a.1 * b.2 + b.1 * a.2) (a.2 * b.2)) (g3 : Fr t3 u3 t2 (u2 * 2)) : ltq a (t3, u3) = true ∧ ltq (t3, u3) b = true := by
  have hu := g.pos
  have hp : 0 < a.2 * b.2 := Int.mul_pos ha hb
  have e2 := g.eq
  have r1 : Re (t3, u3) (t2, u2 * 2) := g3.re (by omega)
  have r2 : Re (t2, u2 * 2) (a.1 * b.2 + b.1 * a.2, a.2 * b.2 * 2) := ⟨by show 0 < u2 * 2; omega, by show 0 < a.2 * b.2 * 2; omega, by
    show t2 * (a.2 * b.2 * 2) = (a.1 * b.2 + b.1 * a.2) * (u2 * 2)
    grind⟩
  have r := r1.trans r2
  have h := of_decide_eq_true h
  constructor
  · rw [ltq_congr (Re.refl ha) r]
    refine decide_eq_true ?_
    show a.1 * (a.2 * b.2 * 2) < (a.1 * b.2 + b.1 * a.2) * a.2
    have k := Int.mul_lt_mul_of_pos_right h ha
    have e1 : a.1 * (a.2 * b.2 * 2) = a.1 * b.2 * a.2 + a.1 * b.2 * a.2 := by grind
    have e3 : (a.1 * b.2 + b.1 * a.2) * a.2 = a.1 * b.2 * a.2 + b.1 * a.2 * a.2 := by grind
    omega
  · rw [ltq_congr r (Re.refl hb)]
    refine decide_eq_true ?_
    show (a.1 * b.2 + b.1 * a.2) * b.2 < b.1 * (a.2 * b.2 * 2)
    have k := Int.mul_lt_mul_of_pos_right h hb
    have e1 : b.1 * (a.2 * b.2 * 2) = b.1 * a.2 * b.2 + b.1 * a.2 * b.2 := by grind
    have e3 : (a.1 * b.2 + b.1 * a.2) * b.2 = a.1 * b.2 * b.2 + b.1 * a.2 * b.2 := by grind
    omega
theorem eqq_self (a : Q2) : eqq a a = true := decide_eq_true rfl
/-! ### lists of points, made in comprehensions -/
/-- all but lists stays -/
def Nl (H H' : Hp) : Prop := ∀ c o, H c = some o → notHand o = true → H' c = some o
theorem Nl.of {H H' : Hp} (s : Same H H') : Nl H H' := fun c o e _ => s c o e
theorem Nl.put {H : Hp} {l : Addr} {xs : List V} {u : HO} (h : H l = some (.lst xs)) : Nl H (upd H l u) := fun c o e no => up2 h e no
theorem EndV.nl {k : Nat} {H H' : Hp} {v : V} : ∀ {e : Option Q2}, EndV k H v e → Nl H H' → EndV k H' v e
  | none, h, _ => h
  | some _, ⟨p, h1, h2, h3⟩, s => ⟨p, h1, s _ _ h2 rfl, h3⟩
def PtV (k : Nat) (H : Hp) (v : V) : Prop := ∃ a : Q2, EndV k H v (some a)
theorem PtV.nl {k : Nat} {H H' : Hp} {v : V} (h : PtV k H v) (s : Nl H H') : PtV k H' v := by
  obtain ⟨a, h⟩ := h
  exact ⟨a, h.nl s⟩
theorem lcp {K : PySem.W.Frag} {a : Addr} {xs : List V} {g : TG} {tt : TT} {te : TE} {vs : List Nat} {σ : L2.St} {H1 : Hp} {D : Addr} {Qd : Hp → Prop} (R : Hp → V → Prop) (hR : ∀ H H' y, R H y → Nl H H' → R H' y) (hz : xs.length < sizeLine) (hS : SqL K H1 a xs) (hD : H1 D = none)
    (hs : ∀ (i : Nat) (x : V) (H : Hp) (N : VK) (M : Hp → Prop), xs[i]? = some x → Same H1 H → (∀ y H4, Same H H4 → R H4 y → N y H4) → M H → g x (wipe σ vs) H fun σ2 H2 => wipe σ2 vs = wipe σ vs ∧ tt σ2 H2 fun b H3 => if b = true then te σ2 H3 N else M H3)
    (hd : ∀ H ys, Same H1 H → H D = some (.lst ys) → ys.length ≤ xs.length → (∀ y ∈ ys, R H y) → Qd H) :
    ∃ W : Nat → Nat → Hp → Prop, (∃ m, W 0 m (upd H1 D (.lst []))) ∧ ∀ i m H, W i m H →
      ((Itl K a).stop i H ∧ Qd H) ∨ ((Itl K a).go i H ∧ ∃ Nx : Hp → Prop, (∀ H', Nx H' → ∃ m', m' < m ∧ W (i + 1) m' H') ∧ ∀ x H', (Itl K a).yld i H x H' → g x (wipe σ vs) H' fun σ2 H2 => wipe σ2 vs = wipe σ vs ∧ tt σ2 H2 fun b H3 =>
        if b = true then te σ2 H3 fun y H4 => ∃ acc, H4 D = some (.lst acc) ∧ acc.length < sizeLine ∧ Nx (upd H4 D (.lst (acc ++ [y]))) else Nx H3) := by
  refine lc_list (fun i H => Same H1 H ∧ ∃ ys, H D = some (.lst ys) ∧ ys.length ≤ i ∧ ∀ y ∈ ys, R H y) ⟨same1 hD, [], upd_same, Nat.le_refl _, fun y hy => nomatch hy⟩ (fun i H _ p => p.1.seq hS) (fun i x H hx p => ?_) (fun H p => ?_)
  · have hi : i < xs.length := (List.getElem?_eq_some_iff.mp hx).1
    obtain ⟨s1, ys, h1, h2, h3⟩ := p
    refine hs i x H _ _ hx s1 (fun y H4 s4 r4 => ⟨ys, s4 _ _ h1, by omega, ?_, ys ++ [y], upd_same, ?_, ?_⟩) ⟨s1, ys, h1, by omega, h3⟩
    · intro c o e
      rw [upd_ne (ne_of_none e hD)]
      exact s4 _ _ (s1 _ _ e)
    · rw [List.length_append, List.length_singleton]; omega
    · intro z hz
      have n4 : Nl H4 (upd H4 D (.lst (ys ++ [y]))) := Nl.put (s4 _ _ h1)
      rcases List.mem_append.mp hz with hz | hz
      · exact hR _ _ _ (hR _ _ _ (h3 z hz) (Nl.of s4)) n4
      · have : z = y := by simpa using hz
        subst this
        exact hR _ _ _ r4 n4
  · obtain ⟨s1, ys, h1, h2, h3⟩ := p
    exact hd H ys s1 h1 h2 h3
theorem lcpT {K : PySem.W.Frag} {a : Addr} {xs : List V} {g : TG} {tt : TT} {te : TE} {vs : List Nat} {σ : L2.St} {H1 : Hp} {D : Addr} {Qd : Hp → Prop} (R : Hp → V → Prop) (hR : ∀ H H' y, R H y → Nl H H' → R H' y) (hz : xs.length < sizeLine) (hS : SqT K H1 a xs) (hD : H1 D = none)
    (hs : ∀ (i : Nat) (x : V) (H : Hp) (N : VK) (M : Hp → Prop), xs[i]? = some x → Same H1 H → (∀ y H4, Same H H4 → R H4 y → N y H4) → M H → g x (wipe σ vs) H fun σ2 H2 => wipe σ2 vs = wipe σ vs ∧ tt σ2 H2 fun b H3 => if b = true then te σ2 H3 N else M H3)
    (hd : ∀ H ys, Same H1 H → H D = some (.lst ys) → ys.length ≤ xs.length → (∀ y ∈ ys, R H y) → Qd H) :
    ∃ W : Nat → Nat → Hp → Prop, (∃ m, W 0 m (upd H1 D (.lst []))) ∧ ∀ i m H, W i m H →
      ((Itt K a).stop i H ∧ Qd H) ∨ ((Itt K a).go i H ∧ ∃ Nx : Hp → Prop, (∀ H', Nx H' → ∃ m', m' < m ∧ W (i + 1) m' H') ∧ ∀ x H', (Itt K a).yld i H x H' → g x (wipe σ vs) H' fun σ2 H2 => wipe σ2 vs = wipe σ vs ∧ tt σ2 H2 fun b H3 =>
        if b = true then te σ2 H3 fun y H4 => ∃ acc, H4 D = some (.lst acc) ∧ acc.length < sizeLine ∧ Nx (upd H4 D (.lst (acc ++ [y]))) else Nx H3) := by
  refine lc_tup (fun i H => Same H1 H ∧ ∃ ys, H D = some (.lst ys) ∧ ys.length ≤ i ∧ ∀ y ∈ ys, R H y) ⟨same1 hD, [], upd_same, Nat.le_refl _, fun y hy => nomatch hy⟩ (fun i H _ p => p.1.sqt hS) (fun i x H hx p => ?_) (fun H p => ?_)
  · have hi : i < xs.length := (List.getElem?_eq_some_iff.mp hx).1
    obtain ⟨s1, ys, h1, h2, h3⟩ := p
    refine hs i x H _ _ hx s1 (fun y H4 s4 r4 => ⟨ys, s4 _ _ h1, by omega, ?_, ys ++ [y], upd_same, ?_, ?_⟩) ⟨s1, ys, h1, by omega, h3⟩
    · intro c o e
      rw [upd_ne (ne_of_none e hD)]
      exact s4 _ _ (s1 _ _ e)
    · rw [List.length_append, List.length_singleton]; omega
    · intro z hz
      have n4 : Nl H4 (upd H4 D (.lst (ys ++ [y]))) := Nl.put (s4 _ _ h1)
      rcases List.mem_append.mp hz with hz | hz
      · exact hR _ _ _ (hR _ _ _ (h3 z hz) (Nl.of s4)) n4
      · have : z = y := by simpa using hz
        subst this
        exact hR _ _ _ r4 n4
  · obtain ⟨s1, ys, h1, h2, h3⟩ := p
    exact hd H ys s1 h1 h2 h3
def sp_beside : Sp := fun vs H Q _ => ∃ (v : V) (a : Q2) (s : Int), vs = [v, .int s] ∧ EndV 140 H v (some a) ∧ 0 < s ∧ Sz 140 s ∧
  ∀ (l : Addr) (xs : List V) (H' : Hp), Same H H' → H' l = some (.lst xs) → xs.length = 2 → (∀ x ∈ xs, PtV 1000 H' x) → Q (.ref l) H'
def sp_points (sq : Hp → Addr → List V → Prop) : Sp := fun vs H Q _ => ∃ (h p : Addr) (n : Nat) (xs : List V), vs = [.ref h, .ref p] ∧ HandAt H h n ∧ n < 1000 ∧ sq H p xs ∧ xs.length ≤ 6 ∧ (∀ x ∈ xs, ∃ e, EndV 140 H x e) ∧
  ∀ (l : Addr) (ys : List V) (H' : Hp), H' l = some (.lst ys) → ys.length ≤ 100 → (∀ y ∈ ys, PtV 1000 H' y) → l ≠ h → HandAt H' h (n + 9) → Kp h H H' → Q (.ref l) H'
def sp_holds (CM CS : Addr) : Sp := fun vs H Q _ => ∃ (p q : Addr) (x : Q2) (lo hi : Option Q2) (li hj : Bool), vs = [.ref p, .ref q] ∧ StAt CM CS H p lo hi li hj ∧ MAt CM H q x.1 x.2 ∧ 0 < x.2 ∧ Sz 9000 x.1 ∧ Sz 9000 x.2 ∧ Q (.bl (loIn lo li x && hiIn hi hj x)) H
theorem lessA_eq (a b : Q2) (i : Bool) : lessA a.1 a.2 b.1 b.2 i = (ltq a b || (i && eqq a b)) := rfl
end My
namespace My
open PySem PySem.Spec PyProof.Rows L2
/-! ### errors -/
section
variable {P : Program} {w : World} {K : PySem.W.Frag} {mg : Str → Option Value} {base : Heap} {k : Nat} {f : Addr} {fd : FuncData} {ps : List Str}
/-- a def that lets nothing out keeps its promise where more may be let out -/
theorem lift {CX : CXT} {sp : Sp} (F : FnOk P w K mg base CX0 k f fd ps sp) : FnOk P w K mg base CX k f fd ps sp :=
  ⟨F.len, fun A outer s H args us vs Q E hr he hb hv hs => codeAny_mono (F.run A outer s H args us vs Q E hr he hb hv hs) fun r s' hq => by
    cases r with
    | error e => exact False.elim hq
    | ok fl => cases fl <;> exact hq⟩
theorem either {CX : CXT} {sp sp' : Sp} (F : FnOk P w K mg base CX k f fd ps sp) (G : FnOk P w K mg base CX k f fd ps sp') : FnOk P w K mg base CX k f fd ps (fun vs H Q E => sp vs H Q E ∨ sp' vs H Q E) :=
  ⟨fun vs H Q E h => h.elim (F.len vs H Q E) (G.len vs H Q E), fun A outer s H args us vs Q E hr he hb hv hs => hs.elim (F.run A outer s H args us vs Q E hr he hb hv) (G.run A outer s H args us vs Q E hr he hb hv)⟩
end
section
variable {X : Cx} {CX : CXT} {k : Nat} {f C : Addr} {fd : FuncData} {ps : List Str} {sp : Sp} {dvs : List V} {ds : List Value} {x : Str} {p pos : Pos} {e : Expr} {es : List Expr} {t : TA} {E : L2.St → XK}
/-- C(e, ..) in a body from which an error may come -/
def tMakeS (C : Addr) (sp : Sp) (dvs : List V) (E : L2.St → XK) (t : TA) : TE := fun σ H Q => t σ H fun vs H1 => ∀ x dx, H1 x = none → H1 dx = none → dx ≠ x →
  sp (.ref x :: (vs ++ dvs)) (upd (upd H1 dx (.own x)) x (.ins C dx [])) (fun v H2 => v = .non ∧ Q (.ref x) H2) (E σ)
theorem pe_makeS (M : Mk X.K C f) (F : FnOk X.prog X.w X.K X.mg X.base CX k f fd ps sp) (hr : Room (k + 1) X.A) (hg : Gl X x) (hm : X.mg x = some (.ref C)) (hb : Binds X.K fd ps ds) (hd : Vals dvs ds) (hx : ∀ σ, PassesAt CX X σ (E σ))
    (ha : PA X (e :: es) t) (hdb : (x == ("__debug__" : Str)) = false := by decide) (he : starEach (e :: es) X.env = (false, eval e X.env) :: starEach es X.env := by rfl) (hpl : (backTo pos (starEach es X.env)).any (·.1) = false := by rfl) :
    PE X (.Call (.Name x p) (e :: es) [] pos) (tMakeS C sp dvs E t) := by
  refine ⟨fun pins s0 σ H0 Q I0 h => ?_⟩
  refine wpAny_Call_Name_kw (ld_glob I0 hg hm ?_ hdb)
  refine PySem.W.callWith_K (h₀ := X.base) I0.ok.mod.kin M.kp (thn (ha.run pos pins s0 σ H0 _ I0 h) fun us s ⟨vs, H, I, r, q⟩ => ⟨I.kIn, ?_⟩) he hpl
  have hq := q (s.heap.objs.size + 1) s.heap.objs.size (I.hok.fresh (Nat.le_succ _)) (I.hok.fresh (Nat.le_refl _)) (Nat.ne_of_lt (Nat.lt_succ_self _))
  have I2 := Inv.made (C := C) I
  have r2 : Vals (V.ref (s.heap.objs.size + 1) :: (vs ++ dvs)) (Value.ref (s.heap.objs.size + 1) :: (us ++ ds)) := .cons rfl (r.append hd)
  have hl : (Value.ref (s.heap.objs.size + 1) :: us ++ ds).length = ps.length := by
    have z := r2.length
    rw [F.len _ _ _ _ hq] at z
    exact z.symm
  refine wpAny_call (make_map (f := f) I.kIn M.makes M.init (beq_iff_eq.mp M.fn) (codeAny_mono (F.run _ X.stack _ _ ⟨Value.ref (s.heap.objs.size + 1) :: us, []⟩ (Value.ref (s.heap.objs.size + 1) :: (us ++ ds)) _ _ (E σ) (hr.make C us [])
    (I2.env0.make C us []) (hb _ (Value.ref (s.heap.objs.size + 1) :: us) I2.kIn hl) r2 hq) fun r s' hq' => ?_))
  cases r with
  | error e => exact hx σ pins _ _ e s' I2 hq'
  | ok fl =>
    cases fl with
    | ret u =>
      obtain ⟨v, H', I3, rv, ev, q3⟩ := I2.after hq'
      subst ev
      exact ⟨rv, ⟨V.ref (s.heap.objs.size + 1), H', I3, rfl, q3⟩⟩
    | next => exact False.elim hq'
    | brk => exact False.elim hq'
    | cont => exact False.elim hq'
end
/-- isinstance(e, c) of the error that a suite holds, whatever it is -/
def rIsX (K : PySem.W.Frag) (cls : Value) (d : Option Addr) (a : Addr) : List V → Hp → VK → Prop := fun xs H Q => ∃ D, cls = .ref D ∧ d = none ∧ ExcC K D ∧ rIsE K D a xs H Q
theorem isX {X : Cx} {K : PySem.W.Frag} {a : Addr} {cls : Value} {d : Option Addr} {oe : Obj} {pn : List (Addr × Obj)} (hz : Zc cls d oe) (hf : ∃ vs, oe.data = .fields vs) (hK : X.K = K := by rfl) : CallR (X.suite a ((a, oe) :: pn)) (.builtin "isinstance") (rIsX K cls d a) := by
  subst hK
  intro pins s σ H xs us Q I r h
  obtain ⟨D, rfl, rfl, c, h⟩ := h
  exact call_isE c hz hf pins s σ H xs us Q I r h
def rIsXT (K : PySem.W.Frag) (cls : Value) (d : Option Addr) (a : Addr) : List V → Hp → VK → Prop := fun xs H Q => ∃ (D tp : Addr) (cs : List V) (us : List Value) (b : Bool), cls = .ref D ∧ d = none ∧ ExcC K D ∧ xs = [.ref a, .ref tp] ∧ H tp = some (.tup cs) ∧ Paired ClsV cs us ∧ PySem.W.kitAny K (.ref D) us = some b ∧ Q (.bl b) H
theorem isXT {X : Cx} {K : PySem.W.Frag} {a : Addr} {cls : Value} {d : Option Addr} {oe : Obj} {pn : List (Addr × Obj)} (hz : Zc cls d oe) (hf : ∃ vs, oe.data = .fields vs) (hK : X.K = K := by rfl) : CallR (X.suite a ((a, oe) :: pn)) (.builtin "isinstance") (rIsXT K cls d a) := by
  subst hK
  intro pins s σ H xs us Q I r h
  obtain ⟨D, tp, cs, ws, b, rfl, rfl, c, rfl, hT, kk, e, q⟩ := h
  obtain ⟨u1, u2, rfl, r1, r2⟩ := vals2 r
  cases (show u1 = Value.ref a from r1)
  cases (show u2 = Value.ref tp from r2)
  obtain ⟨hget, _⟩ := I.pin (a, oe) (List.mem_append.mpr (.inl List.mem_cons_self))
  obtain ⟨vs, hv⟩ := hf
  have J : PySem.W.InstAt s.heap a oe D none := by
    obtain ⟨oc, od, oda, osl⟩ := oe
    obtain ⟨h1, h2⟩ := hz
    dsimp only at h1 h2 hv
    subst h1 h2 hv
    exact ⟨hget, rfl, rfl, trivial⟩
  obtain ⟨_, its, rv, o, h1, h2, n, h3⟩ := (show ObjOk X.prog X.w H s.heap tp (.tup cs) from I.hok tp _ hT)
  have e3 := ClsV.all kk rv
  subst e3
  obtain ⟨oc, od, dt, sl⟩ := o
  simp only at h2 h3
  subst h2 h3
  exact PySem.W.kia_tup (PySem.W.handS_kitx_exc c.hg c.hk c.hs c.hd c.ha c.hn c.ht c.hm) I.kIn J h1 e (fun z => nomatch z) fun tk => ⟨.bl b, H, I.kept (t' := tk) fun _ _ z => z, rfl, q⟩
/-! ### several clauses, each with the error by the same name; nothing leaves -/
/-- behind a suite the name is gone -/
def endsAs (i : Nat) (D : Ends) : Ends where
  nx := fun τ G => D.nx (τ.set i none) G
  rt := D.rt
  bk := fun τ G => D.bk (τ.set i none) G
  ct := fun τ G => D.ct (τ.set i none) G
def wAll (K : PySem.W.Frag) (i : Nat) (D : Ends) : List (Value × (Addr → Value → Option Addr → TS)) → WX
  | [] => fun _ _ _ _ => False
  | (c, ts) :: r => fun cls d τ G => ∃ b, PySem.W.exmOne K cls c = some b ∧ (b = true → ∀ q, G q = none → ts q cls d (endsAs i D) (τ.set i (some (.ref q))) G) ∧ (b = false → wAll K i D r cls d τ G)
inductive Clauses (X : Cx) (n : Str) : List ExceptHandler → List (Value × (Addr → Value → Option Addr → TS)) → Prop
  | none : Clauses X n [] []
  | more {x : Str} {c : Value} {ts : Addr → Value → Option Addr → TS} {b : Stmt} {bs : List Stmt} {px ph : Pos} {hs : List ExceptHandler} {l : List (Value × (Addr → Value → Option Addr → TS))} (nm : Names X x c)
      (su : ∀ (q : Addr) (oq : Obj) (cls : Value) (d : Option Addr) (pn : List (Addr × Obj)), Zc cls d oq → (∃ vs, oq.data = .fields vs) → PSs (X.suite q ((q, oq) :: pn)) (b :: bs) (ts q cls d)) (r : Clauses X n hs l) :
      Clauses X n (.ExceptHandler (some (.Name x px)) (some n) (b :: bs) ph :: hs) ((c, ts) :: l)
theorem ps_tryAll {X : Cx} {n : Str} {i : Nat} {body : List Stmt} {h0 : ExceptHandler} {hs : List ExceptHandler} {l : List (Value × (Addr → Value → Option Addr → TS))} {pos : Pos} {tb : WX → TS}
    (stk : X.stack = X.env :: X.outer) (frm : X.env.frame = some X.env.locals) (nd : X.N.Nodup) (at_ : X.N[i]? = some n) (loc : X.env.kindOf n = some .local)
    (bd : ∀ (W : WX) (pn : List (Addr × Obj)) (xe : Value → Shared → Prop), Takes (X.tr pn xe) W → PassesOwn (model X.prog X.w) X.A X.env xe → PSs (X.tr pn xe) body (tb W)) (cl : Clauses X n (h0 :: hs) l) :
    PS X (.Try body (h0 :: hs) [] [] pos) (fun D σ H => tb (wAll X.K i D l) D σ H) := by
  refine ⟨fun pz s σ H D I hw => ?_⟩
  have okX := I.ok
  have frs_ : X.A.frames = some (X.env :: X.outer) := by rw [okX.frames, stk]
  have lc : Loc X.env.scope n := .inl loc
  refine wpAny_Try_except (wpAny_mono ((bd (wAll X.K i D l) (X.pn ++ pz) (fun e z => wpAny (model X.prog X.w) X.A (noteFrame e X.env) (fun _ z2 => wpAny (model X.prog X.w) X.A (setFlight e none)
    (fun _ z3 => wpAny (model X.prog X.w) X.A (handleBy e X.env (h0 :: hs)) (SP X pz D) X.xe z3) X.xe z2) X.xe z) (fun u z xx => ?_) PassesOwn.looking).run [] s σ H D (I.toTry _) hw) (fun fl z q => ?_) fun _ _ z => z)
  · obtain ⟨q, G0, sJ, pz', τ, G, cls, d, rfl, J', nb, up, sky, nq, os, ag, w⟩ := xx
    have J : Inv X pz τ G sJ := J'.ofTry okX
    have sk2 : Sky G0 (X.env :: X.outer) q (Zc cls d) X.env.locals z.heap := stk ▸ sky
    refine Sky.land Zc.steady frs_ frm sk2 fun g3 f3 u3 => ?_
    have J3 : Inv X pz τ G { z with heap := g3 } := J.landed nb f3.1 (up.trans u3) os ag
    obtain ⟨o3, v3, e3, z3, d3⟩ := f3.there
    have out : q ∉ frs (X.env :: X.outer) := fun hm => by
      obtain ⟨_, o', e', no⟩ := f3.2.2.1.mem hm
      rw [e3] at e'; cases e'; exact no _ d3
    have nL : q ≠ X.env.locals := fun e => out (List.mem_filterMap.mpr ⟨X.env, List.mem_cons_self, by rw [frm, e]⟩)
    have nF : q ∉ X.fs := fun hm => by
      obtain ⟨e, he, e2⟩ := List.mem_filterMap.mp hm; exact out (List.mem_filterMap.mpr ⟨e, List.mem_cons_of_mem _ he, e2⟩)
    have S3 := J3.suite e3 d3 nq nL nF
    have LT : PySem.W.Looks (model X.prog X.w) g3 (typeOf (.ref q)) cls := fun _ _ _ _ k r => wpAny_typeOf_ref (k _ _ e3) (by rw [z3.1]; exact r)
    have go : ∀ {hs2 : List ExceptHandler} {l2 : List (Value × (Addr → Value → Option Addr → TS))}, Clauses X n hs2 l2 → wAll X.K i D l2 cls d τ G → wpAny (model X.prog X.w) X.A (handleBy (.ref q) X.env hs2) (SP X pz D) X.xe { z with heap := g3 } := by
      intro hs2 l2 ck
      induction ck with
      | none => exact fun w => w.elim
      | @more x c ts b bs px ph hs3 l3 nm su r ih =>
        rintro ⟨ans, ea, yes, no⟩
        refine wpAny_handleBy_cons (codeAny_handlers_test ?_) (fun k => nomatch k)
        have LM := PySem.W.exm_one (M := model X.prog X.w) J3.kIn LT ea
        have nameIs : ∀ {R F : Value → Shared → Prop}, R c { z with heap := g3 } → wpAny (model X.prog X.w) (X.A.mark (some (.ref q))) (eval (.Name x px) X.env) R F { z with heap := g3 } := fun {R F} k => by
          obtain ⟨gl, db, m1 | ⟨m1, m2, m3⟩⟩ := nm
          · exact ld_glob (X := X.suite q ((q, o3) :: (X.pn ++ pz))) S3 gl m1 k db
          · exact ld_blt (X := X.suite q ((q, o3) :: (X.pn ++ pz))) S3 gl m1 m2 k m3 db
        refine nameIs (LM.here ?_)
        cases ans with
        | false => exact ih (no rfl)
        | true =>
          refine codeAny_handlers_suite_as (HandSPX.lands_againZ f3 fun g4 f4 u4 => ?_)
          have J4 : Inv X pz τ G { z with heap := g4 } := J.landed nb f4.1 ((up.trans u3).trans u4) os ag
          obtain ⟨o4, v4, e4, z4, d4⟩ := f4.there
          refine store_ok (X := X.suite q ((q, o4) :: (X.pn ++ pz))) (v := .ref q) (J4.suite e4 d4 nq nL nF) nd at_ lc rfl (fun s5 S5 => ?_) (.inr loc)
          refine wpAny_mono ((su q o4 cls d (X.pn ++ pz) z4 ⟨_, d4⟩).run [] s5 _ G _ S5 (yes rfl q nq)) (fun fl s6 k => ?_) fun _ _ k => k.elim
          have bye : ∀ {τ6 : L2.St} {G6 : Hp} {R : Shared → Prop}, Inv (X.suite q ((q, o4) :: (X.pn ++ pz))) [] τ6 G6 s6 → (∀ s7, Inv X pz (τ6.set i none) G6 s7 → R s7) →
              wpAny (model X.prog X.w) X.A (do bindName X.env n .none; unbindBehindTheSuite X.env n ph) (fun _ s7 => R s7) X.xe s6 := fun S6 k => gone_ok (S6.unsuite okX) nd at_ loc k
          cases fl with
          | next => obtain ⟨_, _, S6, k⟩ := k; exact bye S6 fun s7 J7 => ⟨_, _, J7, k⟩
          | brk => obtain ⟨_, _, S6, k⟩ := k; exact bye S6 fun s7 J7 => ⟨_, _, J7, k⟩
          | cont => obtain ⟨_, _, S6, k⟩ := k; exact bye S6 fun s7 J7 => ⟨_, _, J7, k⟩
          | ret u => obtain ⟨_, _, _, S6, r6, k⟩ := k; exact bye S6 fun s7 J7 => ⟨_, _, _, J7, r6, k⟩
    exact go cl w
  · cases fl with
    | next => obtain ⟨_, _, J', k⟩ := q; exact wpAny_execs_nil ⟨_, _, J'.ofTry okX, k⟩
    | brk => obtain ⟨_, _, J', k⟩ := q; exact ⟨_, _, J'.ofTry okX, k⟩
    | cont => obtain ⟨_, _, J', k⟩ := q; exact ⟨_, _, J'.ofTry okX, k⟩
    | ret u => obtain ⟨_, _, _, J', r, k⟩ := q; exact ⟨_, _, _, J'.ofTry okX, r, k⟩
/-! ### facts of error classes -/
def excCB (x : Str) : PySem.W.Frag → Bool := fun K => He.eqO (PySem.W.findIn K (.ref (He.ga K x)) "__getattribute__") (some (some (.builtin "BaseException.__getattribute__"))) && (He.eqO (PySem.W.findIn K (.ref (He.ga K x)) "__getattr__") (some none) &&
  (decide (PySem.W.subIn K (.ref (He.ga K x)) (.type "BaseException") = some true) && (PySem.W.hasDictIn K (He.ga K x) && isCB x K)))
theorem excC_ok {x : Str} {K : PySem.W.Frag} (c : excCB x K = true) : ExcC K (He.ga K x) := by
  obtain ⟨c1, c⟩ := He.ba c
  obtain ⟨c2, c⟩ := He.ba c
  obtain ⟨c3, c⟩ := He.ba c
  obtain ⟨c4, c5⟩ := He.ba c
  have z := isC_ok c5
  exact ⟨He.eqO_ok c1, He.eqO_ok c2, of_decide_eq_true c3, c4, z.ha, z.hn, z.htk, z.hm⟩
/-- an error class without an __init__ of its own, made and raised -/
structure ExcF (K : PySem.W.Frag) (C : Addr) (bm : List Value) (nw : String) : Prop where
  e : PySem.W.excIn K C bm nw = true
  k : PySem.W.keepIn K (.ref C) = true
  b : PySem.W.subIn K (.ref C) (.type "BaseException") = some true
  t : PySem.W.typeIn K (.ref C) = some (.type "type")
def excFB (x : Str) (bm : List Value) (nw : String) : PySem.W.Frag → Bool := fun K => PySem.W.excIn K (He.ga K x) bm nw && (PySem.W.keepIn K (.ref (He.ga K x)) && (decide (PySem.W.subIn K (.ref (He.ga K x)) (.type "BaseException") = some true) && decide (PySem.W.typeIn K (.ref (He.ga K x)) = some (.type "type"))))
theorem excF_ok {x : Str} {bm : List Value} {nw : String} {K : PySem.W.Frag} (c : excFB x bm nw K = true) : ExcF K (He.ga K x) bm nw := by
  obtain ⟨c1, c⟩ := He.ba c
  obtain ⟨c2, c⟩ := He.ba c
  obtain ⟨c3, c4⟩ := He.ba c
  exact ⟨c1, c2, of_decide_eq_true c3, of_decide_eq_true c4⟩
def exmB (x y : Str) (r : Bool) : PySem.W.Frag → Bool := fun K => decide (PySem.W.exmOne K (.ref (He.ga K x)) (.ref (He.ga K y)) = some r)
theorem exm_ok {x y : Str} {r : Bool} {K : PySem.W.Frag} (c : exmB x y r K = true) : PySem.W.exmOne K (.ref (He.ga K x)) (.ref (He.ga K y)) = some r := of_decide_eq_true c
/-! ### things of any kind -/
/-- a thing that is no Measure and no Stretch; h: not the hand -/
def Thing (h : Addr) (H : Hp) (v : V) : Prop := v = .non ∨ (∃ b, v = .bl b) ∨ (∃ i, v = .int i) ∨ (∃ z, v = .str z) ∨ (∃ a xs, v = .ref a ∧ a ≠ h ∧ H a = some (.lst xs)) ∨ (∃ a xs, v = .ref a ∧ H a = some (.tup xs)) ∨ (∃ a kvs, v = .ref a ∧ H a = some (.dK kvs))
theorem Thing.same {h : Addr} {H H' : Hp} {v : V} (t : Thing h H v) (s : Same H H') : Thing h H' v := by
  rcases t with t | t | t | t | ⟨a, xs, e, n, t⟩ | ⟨a, xs, e, t⟩ | ⟨a, xs, e, t⟩
  · exact .inl t
  · exact .inr (.inl t)
  · exact .inr (.inr (.inl t))
  · exact .inr (.inr (.inr (.inl t)))
  · exact .inr (.inr (.inr (.inr (.inl ⟨a, xs, e, n, s _ _ t⟩))))
  · exact .inr (.inr (.inr (.inr (.inr (.inl ⟨a, xs, e, s _ _ t⟩)))))
  · exact .inr (.inr (.inr (.inr (.inr (.inr ⟨a, xs, e, s _ _ t⟩)))))
theorem Thing.kp {h : Addr} {n : Nat} {H H' : Hp} {v : V} (t : Thing h H v) (hh : HandAt H h n) (s : Kp h H H') : Thing h H' v := by
  rcases t with t | t | t | t | ⟨a, xs, e, n, t⟩ | ⟨a, xs, e, t⟩ | ⟨a, xs, e, t⟩
  · exact .inl t
  · exact .inr (.inl t)
  · exact .inr (.inr (.inl t))
  · exact .inr (.inr (.inr (.inl t)))
  · exact .inr (.inr (.inr (.inr (.inl ⟨a, xs, e, n, s _ _ t n⟩))))
  · exact .inr (.inr (.inr (.inr (.inr (.inl ⟨a, xs, e, s.get hh t rfl⟩)))))
  · exact .inr (.inr (.inr (.inr (.inr (.inr ⟨a, xs, e, s.get hh t rfl⟩)))))
/-- its class, as isinstance asks it -/
theorem Thing.ty {K : PySem.W.Frag} {h : Addr} {H : Hp} {v : V} (t : Thing h H v) : ∃ n : String, TyX K H v (.type n) ∧ (n = "NoneType" ∨ n = "bool" ∨ n = "int" ∨ n = "str" ∨ n = "list" ∨ n = "tuple" ∨ n = "dict") := by
  rcases t with rfl | ⟨b, rfl⟩ | ⟨i, rfl⟩ | ⟨z, rfl⟩ | ⟨a, xs, rfl, n, t⟩ | ⟨a, xs, rfl, t⟩ | ⟨a, xs, rfl, t⟩
  · exact ⟨_, .base .non, .inl rfl⟩
  · exact ⟨_, .base (.bl b), .inr (.inl rfl)⟩
  · exact ⟨_, .base (.int i), .inr (.inr (.inl rfl))⟩
  · exact ⟨_, .base (.str z), .inr (.inr (.inr (.inl rfl)))⟩
  · exact ⟨_, .base (.lst t), .inr (.inr (.inr (.inr (.inl rfl))))⟩
  · exact ⟨_, .base (.tup t), .inr (.inr (.inr (.inr (.inr (.inl rfl)))))⟩
  · exact ⟨_, .base (.dK t), .inr (.inr (.inr (.inr (.inr (.inr rfl)))))⟩
theorem Thing.of_lst {h a : Addr} {H : Hp} {xs : List V} (n : a ≠ h) (e : H a = some (.lst xs)) : Thing h H (.ref a) := .inr (.inr (.inr (.inr (.inl ⟨a, xs, rfl, n, e⟩))))
theorem Thing.of_tup {h a : Addr} {H : Hp} {xs : List V} (e : H a = some (.tup xs)) : Thing h H (.ref a) := .inr (.inr (.inr (.inr (.inr (.inl ⟨a, xs, rfl, e⟩)))))
theorem Thing.of_dct {h a : Addr} {H : Hp} {xs : List (Key × V)} (e : H a = some (.dK xs)) : Thing h H (.ref a) := .inr (.inr (.inr (.inr (.inr (.inr ⟨a, xs, rfl, e⟩)))))
/-- nested: a list or a tuple, new -/
def sp_nest : Sp := fun vs H Q _ => ∃ n : Int, vs = [.int n] ∧ 1 ≤ n ∧ n ≤ 1000 ∧ ∀ (a : Addr) (xs : List V) (H' : Hp), Same H H' → H a = none → (H' a = some (.lst xs) ∨ H' a = some (.tup xs)) → Q (.ref a) H'
def sp_thing : Sp := fun vs H Q _ => ∃ (h : Addr) (n : Nat), vs = [.ref h] ∧ HandAt H h n ∧ n < 10000 ∧ ∀ (v : V) (H' : Hp), Thing h H' v → (∀ i, v ≠ .int i) → HandAt H' h (n + 2) → Kp h H H' → Q v H'
end My
namespace My
open PySem PySem.Spec PyProof.Rows L2
/-! ### == and != by an own __eq__, beside things of any kind -/
section
open AutoSeq1 (wpAny_loadPart')
theorem noEq_int (b : Int) (u : Tok) (l C dx : Addr) : Meets (Builtin.«int.__eq__» ⟨[.int b u, .ref l], []⟩) (fun _ R s => s.heap.get? l = some (PySem.W.instObj C dx) ∧ R (.ok (.ret .notImplemented)) s) :=
  .of_wp fun prog w A R s h => by
    obtain ⟨hp, g, d, tk, os⟩ := s
    obtain ⟨hl, h⟩ := h
    unfold PySem.W.instObj at hl
    wp_walk using wpAny_loadPart' hl, wpAny_load hl
    exact ⟨_, rfl, h⟩
theorem noEq_bool (b : Bool) (l C dx : Addr) : Meets (Builtin.«int.__eq__» ⟨[.bool b, .ref l], []⟩) (fun _ R s => s.heap.get? l = some (PySem.W.instObj C dx) ∧ R (.ok (.ret .notImplemented)) s) :=
  .of_wp fun prog w A R s h => by
    obtain ⟨hp, g, d, tk, os⟩ := s
    obtain ⟨hl, h⟩ := h
    unfold PySem.W.instObj at hl
    wp_walk using wpAny_loadPart' hl, wpAny_load hl
    exact ⟨_, rfl, h⟩
theorem noEq_str (b : Str) (u : Tok) (l C dx : Addr) : Meets (Builtin.«str.__eq__» ⟨[.str b u, .ref l], []⟩) (fun _ R s => s.heap.get? l = some (PySem.W.instObj C dx) ∧ R (.ok (.ret .notImplemented)) s) :=
  .of_wp fun prog w A R s h => by
    obtain ⟨hp, g, d, tk, os⟩ := s
    obtain ⟨hl, h⟩ := h
    unfold PySem.W.instObj at hl
    wp_walk using wpAny_loadPart' hl, wpAny_load hl
    exact ⟨_, rfl, h⟩
variable {prog : Program} {w : World} {A : Around} {E : Value → Shared → Prop} {s : Shared}
theorem noEq_list {l y : Addr} {R : Result → Shared → Prop} (L : PySem.W.Looks (model prog w) s.heap (isInstance (.ref y) (.type "list")) false) (h : R (.ok (.ret .notImplemented)) s) :
    wpAny (model prog w) A.in1 (Builtin.«list.__eq__» ⟨[.ref l, .ref y], []⟩) (GQ.FinOf prog w A R) (fun e s' => R (.error e) s') s := by
  obtain ⟨hp, g, d, tk, os⟩ := s
  wp_walk using L.at
  exact h
theorem noEq_tuple {l y : Addr} {R : Result → Shared → Prop} (L : PySem.W.Looks (model prog w) s.heap (isInstance (.ref y) (.type "tuple")) false) (h : R (.ok (.ret .notImplemented)) s) :
    wpAny (model prog w) A.in1 (Builtin.«tuple.__eq__» ⟨[.ref l, .ref y], []⟩) (GQ.FinOf prog w A R) (fun e s' => R (.error e) s') s := by
  obtain ⟨hp, g, d, tk, os⟩ := s
  wp_walk using L.at
  exact h
end
/-- a value of a built-in kind -/
inductive Bk (H : Hp) : V → String → Prop where
  | non : Bk H .non "NoneType"
  | bl (b : Bool) : Bk H (.bl b) "bool"
  | int (i : Int) : Bk H (.int i) "int"
  | str (z : Str) : Bk H (.str z) "str"
  | lst {a : Addr} {xs : List V} (e : H a = some (.lst xs)) : Bk H (.ref a) "list"
  | tup {a : Addr} {xs : List V} (e : H a = some (.tup xs)) : Bk H (.ref a) "tuple"
theorem Bk.ty {K : PySem.W.Frag} {H : Hp} {x : V} {T : String} (b : Bk H x T) : TyX K H x (.type T) := by
  cases b with
  | non => exact .base .non
  | bl b => exact .base (.bl b)
  | int i => exact .base (.int i)
  | str z => exact .base (.str z)
  | lst e => exact .base (.lst e)
  | tup e => exact .base (.tup e)
theorem Bk.same {H H' : Hp} {x : V} {T : String} (b : Bk H x T) (s : Same H H') : Bk H' x T := by
  cases b with
  | non => exact .non
  | bl b => exact .bl b
  | int i => exact .int i
  | str z => exact .str z
  | lst e => exact .lst (s _ _ e)
  | tup e => exact .tup (s _ _ e)
/-- the kinds that no own class stands under -/
def kinds : List String := ["NoneType", "bool", "int", "str", "list", "tuple"]
theorem Bk.mem {H : Hp} {x : V} {T : String} (b : Bk H x T) : T ∈ kinds := by
  cases b <;> simp [kinds]
/-- what == and != ask of a class with an own __eq__ and no own __ne__ -/
structure EqC (K : PySem.W.Frag) (C : Addr) : Prop where
  ne : PySem.W.findIn K (.ref C) "__ne__" = some (some (.builtin "object.__ne__"))
  ob : PySem.W.mroIn K C (.type "object") = some true
  sub : ∀ T, T ∈ kinds → PySem.W.subIn K (.ref C) (.type T) = some false
  nf : ∀ T, T ∈ kinds → PySem.W.notFirst K C (.type T) = true
  kit : ∀ T, T ∈ kinds → PySem.W.kitOne K (.type T) (.ref C) = some false
def eqCB (x : Str) : PySem.W.Frag → Bool := fun K => He.eqO (PySem.W.findIn K (.ref (He.ga K x)) "__ne__") (some (some (.builtin "object.__ne__"))) && (decide (PySem.W.mroIn K (He.ga K x) (.type "object") = some true) &&
  ((kinds.all fun T => decide (PySem.W.subIn K (.ref (He.ga K x)) (.type T) = some false)) && ((kinds.all fun T => PySem.W.notFirst K (He.ga K x) (.type T)) && (kinds.all fun T => decide (PySem.W.kitOne K (.type T) (.ref (He.ga K x)) = some false)))))
theorem eqC_ok {x : Str} {K : PySem.W.Frag} (c : eqCB x K = true) : EqC K (He.ga K x) := by
  obtain ⟨c1, c⟩ := He.ba c
  obtain ⟨c2, c⟩ := He.ba c
  obtain ⟨c3, c⟩ := He.ba c
  obtain ⟨c4, c5⟩ := He.ba c
  exact ⟨He.eqO_ok c1, of_decide_eq_true c2, fun T h => of_decide_eq_true (List.all_eq_true.mp c3 T h), fun T h => List.all_eq_true.mp c4 T h, fun T h => of_decide_eq_true (List.all_eq_true.mp c5 T h)⟩
/-- a first class beside a second one: the second is none below the first -/
def nfB (x y : Str) : PySem.W.Frag → Bool := fun K => PySem.W.notFirst K (He.ga K x) (.ref (He.ga K y))
theorem nf_ok {x y : Str} {K : PySem.W.Frag} (c : nfB x y K = true) : PySem.W.notFirst K (He.ga K x) (.ref (He.ga K y)) = true := c
section
variable {X : Cx} {pins : List (Addr × Obj)} {σ : L2.St} {H : Hp} {s : Shared} {A : Around} {E : Value → Shared → Prop}
theorem Bk.declines {x : V} {u : Value} {T : String} {y C dx : Addr} {fs : List (Str × V)} (b : Bk H x T) (I : Inv X pins σ H s) (rx : RelV x u) (hy : H y = some (.ins C dx fs)) (c : EqC X.K C) :
    s.TypeIs u T ∧ ∃ id, Slot T "__eq__" id ∧ ∀ Q' : Value → Shared → Prop, Q' .notImplemented s → wpAny (model X.prog X.w) A (call (.builtin id) [u, .ref y]) Q' E s := by
  obtain ⟨_, _, _, hg, _⟩ := (show ObjOk X.prog X.w H s.heap y (.ins C dx fs) from I.hok y _ hy)
  obtain ⟨mA, J, _⟩ := ins_get I.hok hy
  obtain ⟨od, J, _⟩ := J.look
  have sub : ∀ T, T ∈ kinds → PySem.W.Looks (model X.prog X.w) s.heap (isInstance (.ref y) (.type T)) false := fun T h => (J.type).andThen (PySem.W.looks_subIn I.kIn (c.sub T h))
  cases b with
  | non =>
    cases (show u = Value.none from rx)
    have t : s.TypeIs Value.none "NoneType" := by exact rfl
    exact ⟨t, _, F.slot_NoneType_eq, fun Q' q => call_gives F.slot_NoneType_eq t F.entry_NoneType_eq (F.args_NoneType_eq_2 _ _) (SeqAt.NoneType___eq___none_ref_0 y) q⟩
  | bl b =>
    cases (show u = Value.bool b from rx)
    have t : s.TypeIs (Value.bool b) "bool" := by exact rfl
    exact ⟨t, _, F.slot_bool_eq, fun Q' q => call_meets F.slot_bool_eq t F.entry_int_eq (F.args_int_eq_2 _ _) (noEq_bool b y C dx) ⟨hg, q⟩⟩
  | int i =>
    obtain ⟨t, e⟩ := (show ∃ t, u = Value.int i t from rx)
    subst e
    exact ⟨typeIs_int s i t, _, F.slot_int_eq, fun Q' q => call_meets F.slot_int_eq (typeIs_int s i t) F.entry_int_eq (F.args_int_eq_2 _ _) (noEq_int i t y C dx) ⟨hg, q⟩⟩
  | str z =>
    obtain ⟨t, e⟩ := (show ∃ t, u = Value.str z t from rx)
    subst e
    exact ⟨typeIs_str s z t, _, F.slot_str_eq, fun Q' q => call_meets F.slot_str_eq (typeIs_str s z t) F.entry_str_eq (F.args_str_eq_2 _ _) (noEq_str z t y C dx) ⟨hg, q⟩⟩
  | @lst a xs e =>
    cases (show u = Value.ref a from rx)
    obtain ⟨_, its, n, _, h1⟩ := (show ObjOk X.prog X.w H s.heap a (.lst xs) from I.hok a _ e)
    exact ⟨⟨_, h1, rfl⟩, _, F.slot_list_eq, fun Q' q => GQ.call_here F.slot_list_eq ⟨_, h1, rfl⟩ F.entry_list_eq (F.args_list_eq_2 _ _) (noEq_list (sub _ (by simp [kinds])) q)⟩
  | @tup a xs e =>
    cases (show u = Value.ref a from rx)
    obtain ⟨_, its, _, o, h1, h2, _⟩ := (show ObjOk X.prog X.w H s.heap a (.tup xs) from I.hok a _ e)
    exact ⟨⟨o, h1, h2⟩, _, F.slot_tuple_eq, fun Q' q => GQ.call_here F.slot_tuple_eq ⟨o, h1, h2⟩ F.entry_tuple_eq (F.args_tuple_eq_2 _ _) (noEq_tuple (sub _ (by simp [kinds])) q)⟩
end
/-- how == answers: x == y tells b, and nothing changes -/
abbrev Eqb := V → V → Hp → Bool → Prop
def RcB (X : Cx) (n : Nat) (D : Eqb) : Prop := ∀ (A : Around) (pins : List (Addr × Obj)) (s : Shared) (σ : L2.St) (H : Hp) (x y : V) (u v : Value) (b : Bool), Sub X n A → Inv X pins σ H s → RelV x u → RelV y v → D x y H b →
  wpAny (model X.prog X.w) A (richCompare .Eq u v) (fun r s' => r = .bool b ∧ Inv X pins σ H s') X.xe s
def EqB (X : Cx) (n : Nat) (D : Eqb) : Prop := ∀ (A : Around) (pins : List (Addr × Obj)) (s : Shared) (σ : L2.St) (H : Hp) (x y : V) (u v : Value) (b : Bool), Sub X n A → Inv X pins σ H s → RelV x u → RelV y v → D x y H b →
  wpAny (model X.prog X.w) A (eqBool u v) (fun r s' => r = b ∧ Inv X pins σ H s') X.xe s
def spEqB (R : Eqb) : Sp := fun vs H Q _ => ∃ x y b, vs = [x, y] ∧ R x y H b ∧ Q (.bl b) H
/-- the own object first -/
def DOwn (K : PySem.W.Frag) (C : Addr) (R : Eqb) : Eqb := fun x y H b => ∃ a dx fs tb, x = .ref a ∧ H a = some (.ins C dx fs) ∧ TyX K H y tb ∧ PySem.W.notFirst K C tb = true ∧ (x = y → b = true) ∧ R x y H b
/-- the own object behind a thing of a built-in kind -/
def DRef (C : Addr) (R : Eqb) : Eqb := fun x y H b => ∃ a dx fs T, y = .ref a ∧ H a = some (.ins C dx fs) ∧ Bk H x T ∧ (x = y → b = true) ∧ R y x H b
def DOr (D D' : Eqb) : Eqb := fun x y H b => D x y H b ∨ D' x y H b
theorem rel_ref {y : V} {a : Addr} (r : RelV y (.ref a)) : y = .ref a := by
  cases y with
  | ref b => exact congrArg V.ref (Value.ref.inj (show Value.ref a = Value.ref b from r)).symm
  | non => exact nomatch (show Value.ref a = Value.none from r)
  | bl b => exact nomatch (show Value.ref a = Value.bool b from r)
  | int i => obtain ⟨t, e⟩ := (show ∃ t, Value.ref a = Value.int i t from r); exact nomatch e
  | str z => obtain ⟨t, e⟩ := (show ∃ t, Value.ref a = Value.str z t from r); exact nomatch e
  | flt z => obtain ⟨t, e⟩ := (show ∃ t, Value.ref a = Value.float z t from r); exact nomatch e
  | byt z => obtain ⟨t, e⟩ := (show ∃ t, Value.ref a = Value.bytes z t from r); exact nomatch e
  | ty z => exact nomatch (show Value.ref a = Value.type z from r)
section
variable {X : Cx} {n : Nat} {CX : CXT} {C f : Addr} {fd : FuncData} {ps : List Str} {R D D' : Eqb} {E : XK}
theorem RcB.mono {m : Nat} (h : RcB X n D) (l : n ≤ m) : RcB X m D := fun A pins s σ H x y u v b sb I rx ry d => h A pins s σ H x y u v b (sb.mono l) I rx ry d
theorem EqB.mono {m : Nat} (h : EqB X n D) (l : n ≤ m) : EqB X m D := fun A pins s σ H x y u v b sb I rx ry d => h A pins s σ H x y u v b (sb.mono l) I rx ry d
theorem RcB.or (h : RcB X n D) (h' : RcB X n D') : RcB X n (DOr D D') := fun A pins s σ H x y u v b sb I rx ry d => d.elim (h A pins s σ H x y u v b sb I rx ry) (h' A pins s σ H x y u v b sb I rx ry)
theorem EqB.or (h : EqB X n D) (h' : EqB X n D') : EqB X n (DOr D D') := fun A pins s σ H x y u v b sb I rx ry d => d.elim (h A pins s σ H x y u v b sb I rx ry) (h' A pins s σ H x y u v b sb I rx ry)
theorem eqFn_at (F : FnOk X.prog X.w X.K X.mg X.base CX n f fd ps (spEqB R)) (hb : Binds X.K fd ps []) (hx : Passes CX X E) {A : Around} {pins : List (Addr × Obj)} {s : Shared} {σ : L2.St} {H : Hp} {x y : V} {u v : Value} {b : Bool}
    (sb : Sub X n A) (I : Inv X pins σ H s) (rx : RelV x u) (ry : RelV y v) (d : R x y H b) : wpAny (model X.prog X.w) A (call (.ref f) [u, v]) (fun r s' => r = .bool b ∧ Inv X pins σ H s') X.xe s := by
  have hsp : spEqB R [x, y] H (fun z H' => z = .bl b ∧ H' = H) E := ⟨x, y, b, rfl, d, rfl, rfl⟩
  have e := I.env0
  have e0 : Env0 X.prog X.w X.K X.mg X.base A X.stack s H := ⟨by rw [sb.fr]; exact e.frames, e.mod, e.bs, e.bsz, e.funs, e.frf, e.hok, e.bare⟩
  have hl := F.len _ _ _ _ hsp
  have r2 : Vals [x, y] [u, v] := .cons rx (.cons ry .nil)
  have hbs := hb s [u, v] I.kIn (by simpa using hl)
  rw [List.append_nil] at hbs
  refine wpAny_call (codeAny_mono (F.run A X.stack s H ⟨[u, v], []⟩ [u, v] [x, y] _ E sb.room e0 hbs r2 hsp) fun r s' hq => ?_)
  cases r with
  | error e => exact hx pins σ H s e s' I hq
  | ok fl =>
    cases fl with
    | ret w =>
      obtain ⟨z, H', I', rz, ez, eh⟩ := I.after hq
      subst ez eh
      exact ⟨rz, I'⟩
    | next => exact False.elim hq
    | brk => exact False.elim hq
    | cont => exact False.elim hq
theorem rcB_own (F : FnOk X.prog X.w X.K X.mg X.base CX n f fd ps (spEqB R)) (hm : Meth X.K C "__eq__" f) (hb : Binds X.K fd ps []) (hx : Passes CX X E) : RcB X n (DOwn X.K C R) := by
  intro A pins s σ H x y u v b sb I rx ry d
  obtain ⟨a, dx, fs, tb, rfl, ha, ty, nf, _, d⟩ := d
  cases rx
  obtain ⟨mA, J, _⟩ := ins_get I.hok ha
  obtain ⟨od, J, _⟩ := J.look
  obtain ⟨m, hF⟩ := I.fr
  obtain ⟨P, Z, p, _⟩ := kit_of I ry ty
  refine PySem.W.cmp_K (op := .Eq) (tb := tb) sb.room.units0 hF I.ok.mod.kin J (Z.ty _ _ I.kIn p) nf hm.at_ hm.fn ?_
  refine thn (eqFn_at F hb hx sb I (x := V.ref a) rfl ry d) fun r s' q => ?_
  obtain ⟨rfl, I'⟩ := q
  exact ⟨rfl, I'⟩
theorem rcB_ref (F : FnOk X.prog X.w X.K X.mg X.base CX n f fd ps (spEqB R)) (hm : Meth X.K C "__eq__" f) (c : EqC X.K C) (hb : Binds X.K fd ps []) (hx : Passes CX X E) : RcB X n (DRef C R) := by
  intro A pins s σ H x y u v b sb I rx ry d
  obtain ⟨a, dx, fs, T, rfl, ha, bk, _, d⟩ := d
  cases ry
  obtain ⟨mA, J, _⟩ := ins_get I.hok ha
  obtain ⟨od, J, _⟩ := J.look
  obtain ⟨ht, id, sl, dec⟩ := bk.declines (A := A) (E := X.xe) I rx ha c
  unfold richCompare
  simp only [ht.oneThing_none]
  refine wpAny_holding (wpAny_bind (wpAny_cRoomFor sb.room.units0 ?_))
  refine wpAny_bind (wpAny_typeOf ht (wpAny_bind (J.type.here ?_)))
  have e1 : (Value.type T != Value.ref C) = true := by rfl
  simp only [e1, if_true]
  refine wpAny_bind ((PySem.W.looks_subIn I.kIn (c.sub T bk.mem)).here ?_)
  simp only [Bool.false_eq_true, if_false, Bool.not_false, if_true]
  refine wpAny_bind (m := tryCompare u _ (.ref a)) (wpAny_tryCompare_declines ht sl (dec _ ⟨rfl, ?_⟩))
  refine wpAny_bind (m := tryCompare (.ref a) _ u) ?_
  unfold tryCompare
  refine wpAny_bind (PySem.W.ifBound_K I.kIn J hm.at_ hm.fn (thn (eqFn_at F hb hx sb I (x := V.ref a) rfl rx d) fun r s' q => ?_))
  obtain ⟨rfl, I'⟩ := q
  exact wpAny_pure (wpAny_pure ⟨rfl, I'⟩)
theorem eqB_own (h : RcB X n (DOwn X.K C R)) : EqB X n (DOwn X.K C R) := by
  intro A pins s σ H x y u v b sb I rx ry d
  have d0 := d
  obtain ⟨a, dx, fs, tb, rfl, ha, ty, nf, xy, _⟩ := d
  cases rx
  unfold eqBool
  refine wpAny_holding ?_
  refine wpAny_ite_split (fun e => ?_) (fun e => ?_)
  · have e : Value.ref a = v := eq_of_beq e
    subst e
    have e2 := rel_ref ry
    exact wpAny_bind (wpAny_rule (wpAny_pure ⟨(xy e2.symm).symm, I⟩))
  · refine wpAny_bind (thn (h A pins s σ H (.ref a) y _ v b sb I rfl ry d0) fun r s' q => ?_)
    obtain ⟨rfl, I'⟩ := q
    exact wpAny_truthy_bool ⟨rfl, I'⟩
theorem eqB_ref (h : RcB X n (DRef C R)) : EqB X n (DRef C R) := by
  intro A pins s σ H x y u v b sb I rx ry d
  have d0 := d
  obtain ⟨a, dx, fs, T, rfl, ha, bk, xy, _⟩ := d
  cases ry
  unfold eqBool
  refine wpAny_holding ?_
  refine wpAny_ite_split (fun e => ?_) (fun e => ?_)
  · have e : u = Value.ref a := eq_of_beq e
    subst e
    have e2 := rel_ref rx
    exact wpAny_bind (wpAny_rule (wpAny_pure ⟨(xy e2).symm, I⟩))
  · have go : wpAny (model X.prog X.w) A (richCompare .Eq u (.ref a) >>= fun r => truthOfDropped r) (fun r s' => r = b ∧ Inv X pins σ H s') X.xe s := by
      refine wpAny_bind (thn (h A pins s σ H x (.ref a) u _ b sb I rx rfl d0) fun r s' q => ?_)
      obtain ⟨rfl, I'⟩ := q
      exact wpAny_truthy_bool ⟨rfl, I'⟩
    cases u <;> exact go
def rEqB (D : Eqb) : R2 := fun x y H Q => ∃ b, D x y H b ∧ Q (.bl b) H
theorem op_eqB (h : RcB X n D) (hr : Room n X.A) : OpR X (compareOp .Eq) (rEqB D) := by
  intro pins s σ H x y u v Q I rx ry hq
  obtain ⟨b, d, q⟩ := hq
  show wpAny (model X.prog X.w) X.A (richCompare .Eq u v) (EP X pins σ Q) X.xe s
  refine thn (h X.A pins s σ H x y u v b ⟨hr, rfl⟩ I rx ry d) fun r s' z => ?_
  obtain ⟨rfl, I'⟩ := z
  exact ⟨.bl b, H, I', rfl, q⟩
/-- x != y, by the own == of x turned about -/
theorem op_neB (F : FnOk X.prog X.w X.K X.mg X.base CX n f fd ps (spEqB R)) (hm : Meth X.K C "__eq__" f) (c : EqC X.K C) (hb : Binds X.K fd ps []) (hx : Passes CX X E) (hr : Room (n + 1) X.A) :
    OpR X (compareOp .NotEq) (fun x y H Q => ∃ b, DOwn X.K C R x y H b ∧ Q (.bl (!b)) H) := by
  intro pins s σ H x y u v Q I rx ry hq
  obtain ⟨b, ⟨a, dx, fs, tb, rfl, ha, ty, nf, _, d⟩, q⟩ := hq
  cases rx
  show wpAny (model X.prog X.w) X.A (richCompare .NotEq (.ref a) v) (EP X pins σ Q) X.xe s
  obtain ⟨mA, J, _⟩ := ins_get I.hok ha
  obtain ⟨od, J, _⟩ := J.look
  obtain ⟨P, Z, p, _⟩ := kit_of I ry ty
  have sb : Sub X (n + 1) X.A := ⟨hr, rfl⟩
  have call1 : wpAny (model X.prog X.w) X.A (call (.builtin "object.__ne__") [.ref a, v]) (fun r s' => r = .bool (!b) ∧ Inv X pins σ H s') X.xe s := by
    refine wpAny_call (codeAny_call_builtin PySem.F.slot_object_ne.plain PySem.F.cmpEntry_ne (PySem.W.check_slot PySem.F.cmpKind_ne PySem.F.cmpSplit_ne (J.type.andThen (PySem.W.looks_mroIn I.kIn c.ob)) (PySem.F.cmpArgs_ne _ _) ?_))
    unfold Builtin.«object.__ne__»
    refine wpAny_bind (wpAny_pure ?_)
    refine wpAny_bind (wpAny_cRoomFor sb.in1.room.units0 ?_)
    refine wpAny_bind (PySem.W.ifBound_K I.kIn J hm.at_ hm.fn (thn (eqFn_at F hb hx sb.in1 I (x := V.ref a) rfl ry d) fun r s' q => ?_))
    obtain ⟨rfl, I'⟩ := q
    exact wpAny_bind (wpAny_truthy_bool (wpAny_pure ⟨rfl, I'⟩))
  have one : wpAny (model X.prog X.w) X.A (tryCompare (.ref a) (cmpInfo .NotEq).2.1 v) (fun r s' => r = some (.bool (!b)) ∧ Inv X pins σ H s') X.xe s := by
    unfold tryCompare
    refine wpAny_bind (m := callSpecialIfBound? (.ref a) _ [v]) ?_
    simp only [callSpecialIfBound?, bindSpecialIfBound?]
    refine wpAny_holding (wpAny_bind (wpAny_bind (wpAny_bind (J.type.here ((PySem.W.looks_findIn I.kIn c.ne).here ?_)))))
    refine wpAny_bind (wpAny_askSetting (wpAny_ite ?_))
    have fin : wpAny (model X.prog X.w) X.A (call (.builtin "object.__ne__") ([.ref a] ++ [v]) >>= fun z => pure (some z)) (fun o s1 => wpAny (model X.prog X.w) X.A (match o with | some .notImplemented | none => pure none | some z => pure (some z)) (fun r s' => r = some (.bool (!b)) ∧ Inv X pins σ H s') X.xe s1) X.xe s := by
      refine wpAny_bind (thn call1 fun r s' z => ?_)
      obtain ⟨rfl, I'⟩ := z
      exact wpAny_pure (wpAny_pure ⟨rfl, I'⟩)
    split
    · exact wpAny_bind ((PySem.W.Looks.of_pure (PySem.F.slot_object_ne.bind (.ref a))).here (wpAny_pure (by exact fin)))
    · exact wpAny_tryCatch (wpAny_bind ((PySem.W.Looks.of_pure (PySem.F.slot_object_ne.bind (.ref a))).here (wpAny_pure (by exact fin))))
  unfold richCompare
  simp only [oneThing_ref]
  refine wpAny_holding (wpAny_bind (wpAny_cRoomFor hr.units0 ?_))
  refine wpAny_bind (J.type.here (wpAny_bind ((Z.ty _ _ I.kIn p).here ?_)))
  have ends : ∀ s', Inv X pins σ H s' → EP X pins σ Q (.bool (!b)) s' := fun s' I' => ⟨.bl (!b), H, I', rfl, q⟩
  split
  · rename_i z
    have e : PySem.W.subIn X.K tb (.ref C) = some false := by
      rcases Bool.or_eq_true_iff.mp nf with e | e
      · rw [beq_iff_eq.mp e] at z; simp at z
      · exact beq_iff_eq.mp e
    refine wpAny_bind ((PySem.W.looks_subIn I.kIn e).here ?_)
    simp only [Bool.false_eq_true, if_false]
    refine wpAny_bind (thn one fun r s' z => ?_)
    obtain ⟨rfl, I'⟩ := z
    exact wpAny_pure (ends s' I')
  · refine wpAny_bind (wpAny_pure ?_)
    simp only [Bool.false_eq_true, if_false]
    refine wpAny_bind (thn one fun r s' z => ?_)
    obtain ⟨rfl, I'⟩ := z
    exact wpAny_pure (ends s' I')
/-! ### in, by an own == -/
def InB (D : Eqb) (x : V) (H : Hp) : List V → Bool → Prop
  | [], b => b = false
  | y :: r, b => (D y x H true ∧ b = true) ∨ (D y x H false ∧ InB D x H r b)
open AutoSeq1 (wpAny_loadPart') in
theorem inB_loop (h : EqB X n D) {A : Around} (sb : Sub X (n + 1) A) {pins : List (Addr × Obj)} {σ : L2.St} {H : Hp} {x : V} {u : Value} {l : Addr} {xs : List V} {R : Result → Shared → Prop} (hl : SqL X.K H l xs) (rx : RelV x u) (b : Bool)
    (fin : ∀ s, Inv X pins σ H s → R (.ok (.ret (.bool b))) s) (bad : ∀ e s, X.xe e s → R (.error e) s) : ∀ (ys : List V) (i : Nat), xs.drop i = ys → InB D x H ys b → ∀ s, Inv X pins σ H s →
      wpAny (model X.prog X.w) A.in1 (Builtin.«list.__contains__.loop» ⟨[.ref l, u, rawInt i], []⟩) (GQ.FinOf X.prog X.w A R) (fun e s' => R (.error e) s') s := by
  intro ys
  induction ys with
  | nil =>
    intro i hd q s I
    have q : b = false := q
    subst q
    obtain ⟨its, r, ⟨o, k, ho, hc, hs, hda⟩, _⟩ := I.list hl
    obtain ⟨oc, od, oda, osl⟩ := o
    dsimp only at hc hs hda
    subst hc hda
    have hlen : its.toArray.size ≤ i := by
      rw [List.size_toArray, ← r.length]
      exact List.drop_eq_nil_iff.mp hd
    have hi : its.toArray[((i : Nat) : Int).toNat]? = none := by
      rw [Array.getElem?_eq_none]
      simpa using hlen
    have hR := fin s I
    obtain ⟨hp, g, d, tk, os⟩ := s
    wp_walk using wpAny_loadPart' ho
    rw [hi]
    wp_walk
    exact hR
  | cons y r ih =>
    intro i hd q s I
    obtain ⟨its, rv, ⟨o, k, ho, hc, hs, hda⟩, _⟩ := I.list hl
    obtain ⟨oc, od, oda, osl⟩ := o
    dsimp only at hc hs hda
    subst hc hda
    have hx : xs[i]? = some y := by
      have e := congrArg List.head? hd
      rw [List.head?_drop] at e
      exact e
    obtain ⟨v, hv, ry⟩ := rv.get hx
    have hi : its.toArray[((i : Nat) : Int).toNat]? = some v := by simpa using hv
    have hd2 : xs.drop (i + 1) = r := by
      have e := congrArg List.tail hd
      rw [List.tail_drop] at e
      exact e
    have step : ∀ t, D y x H t → wpAny (model X.prog X.w) A.in1 (eqBool v u) (fun z s' => z = t ∧ Inv X pins σ H s') (fun e s' => R (.error e) s') s := fun t dt => wpAny_mono (h A.in1 pins s σ H y x v u t sb.in1 I ry rx dt) (fun _ _ z => z) bad
    have cc : ((i : Int) + 1) = ((i + 1 : Nat) : Int) := by omega
    rcases q with ⟨d, rfl⟩ | ⟨d, q⟩
    · have st := step _ d
      obtain ⟨hp, g, dd, tk, os⟩ := s
      wp_walk using wpAny_loadPart' ho
      rw [hi]
      refine wpAny_bind (thn st fun z s2 q2 => ?_)
      obtain ⟨rfl, I2⟩ := q2
      have hR := fin s2 I2
      wp_walk
      exact hR
    · have st := step _ d
      obtain ⟨hp, g, dd, tk, os⟩ := s
      wp_walk using wpAny_loadPart' ho
      rw [hi]
      refine wpAny_bind (thn st fun z s2 q2 => ?_)
      obtain ⟨rfl, I2⟩ := q2
      have go := ih (i + 1) hd2 q s2 I2
      wp_walk
      rw [cc]
      exact ⟨plainId_quiet MeetsSeq.plain_contains_loop _, codeAny_builtin MeetsSeq.entry_contains_loop (by
        rw [Around.under_plainId MeetsSeq.plain_contains_loop _]
        exact go)⟩
/-- x in [..] -/
theorem op_inBl (h : EqB X n D) (hr : Room (n + 1) X.A) : OpR X (compareOp .In) (fun x y H Q => ∃ p xs b, y = .ref p ∧ SqL X.K H p xs ∧ InB D x H xs b ∧ Q (.bl b) H) := by
  intro pins s σ H x y u v Q I rx ry hq
  obtain ⟨p, xs, b, rfl, hl, q, k⟩ := hq
  cases ry
  obtain ⟨its, r, ⟨o, m, ho, hc, hs, hda⟩, _⟩ := I.list hl
  have hT : s.TypeIs (.ref p) "list" := ⟨o, ho, hc⟩
  have sb : Sub X (n + 1) X.A := ⟨hr, rfl⟩
  show wpAny _ X.A (do return .bool (← contains (.ref p) u)) (EP X pins σ Q) X.xe s
  refine wpAny_bind (wpAny_contains_slot hT PySem.F.slot_list_contains (GQ.call_here PySem.F.slot_list_contains hT PySem.F.entry_list_contains (PySem.F.args_list_contains_2 _ _) ?_))
  have go := inB_loop (A := X.A) (R := wants (fun v s' => wpAny (model X.prog X.w) X.A (truthy v) (fun t s'' => wpAny (model X.prog X.w) X.A (pure (Value.bool t)) (EP X pins σ Q) X.xe s'') X.xe s') X.xe) h sb hl rx b
    (fun s' I' => wpAny_truthy_bool (wpAny_pure ⟨.bl b, H, I', rfl, k⟩)) (fun e s' z => z) xs 0 rfl q s I
  obtain ⟨hp, g, dd, tk, os⟩ := s
  wp_walk
  exact ⟨plainId_quiet MeetsSeq.plain_contains_loop _, codeAny_builtin MeetsSeq.entry_contains_loop (by
    rw [Around.under_plainId MeetsSeq.plain_contains_loop _]
    exact go)⟩
open AutoSeq1 (wpAny_loadPart') in
theorem inB_tup (h : EqB X n D) {A : Around} (sb : Sub X (n + 1) A) {pins : List (Addr × Obj)} {σ : L2.St} {H : Hp} {x : V} {u : Value} {l : Addr} {xs : List V} {R : Result → Shared → Prop} (hl : SqT X.K H l xs) (rx : RelV x u) (b : Bool)
    (fin : ∀ s, Inv X pins σ H s → R (.ok (.ret (.bool b))) s) (bad : ∀ e s, X.xe e s → R (.error e) s) (q : InB D x H xs b) (s : Shared) (I : Inv X pins σ H s) :
      wpAny (model X.prog X.w) A.in1 (Builtin.«tuple.__contains__» ⟨[.ref l, u], []⟩) (GQ.FinOf X.prog X.w A R) (fun e s' => R (.error e) s') s := by
  obtain ⟨its, rv, ⟨o, ho, hc, k, hda⟩, _⟩ := I.tuple hl
  obtain ⟨oc, od, oda, osl⟩ := o
  dsimp only at hc hda
  subst hc hda
  have I0 := I
  have rv2 : Vals xs its.toArray.toList := by simpa using rv
  generalize its.toArray = items at ho rv2
  obtain ⟨hp, g, d, tk, os⟩ := s
  wp_walk using wpAny_loadPart' ho, MeetsSeq2.wpAny_forIn_array _ (fun rest c s' => c.1 = none ∧ Inv X pins σ H s' ∧ ∃ ys, Vals ys rest ∧ InB D x H ys b) _
  case turn =>
    rintro v rest c s' ⟨hb, I1, ys, rr, qq⟩
    cases rr with
    | @cons y _ yr _ ry r2 =>
      have step : ∀ t, D y x H t → wpAny (model X.prog X.w) A.in1 (eqBool v u) (fun z s' => z = t ∧ Inv X pins σ H s') (fun e s' => R (.error e) s') s' := fun t dt => wpAny_mono (h A.in1 pins s' σ H y x v u t sb.in1 I1 ry rx dt) (fun _ _ z => z) bad
      rcases qq with ⟨dt, rfl⟩ | ⟨dt, qq⟩
      · refine wpAny_bind (thn (step _ dt) fun z s2 q2 => ?_)
        obtain ⟨rfl, I2⟩ := q2
        have hR := fin s2 I2
        wp_walk
        exact hR
      · refine wpAny_bind (thn (step _ dt) fun z s2 q2 => ?_)
        obtain ⟨rfl, I2⟩ := q2
        wp_walk
        exact ⟨rfl, I2, yr, r2, qq⟩
  case fin =>
    rintro ⟨b1, b2⟩ s' ⟨hb, I1, ys, rr, qq⟩
    simp only at hb
    subst hb
    cases rr
    have qq : b = false := qq
    subst qq
    have hR := fin s' I1
    wp_walk
    exact hR
  case h =>
    exact ⟨rfl, I0, xs, rv2, q⟩
theorem op_inBt (h : EqB X n D) (hr : Room (n + 1) X.A) : OpR X (compareOp .In) (fun x y H Q => ∃ p xs b, y = .ref p ∧ SqT X.K H p xs ∧ InB D x H xs b ∧ Q (.bl b) H) := by
  intro pins s σ H x y u v Q I rx ry hq
  obtain ⟨p, xs, b, rfl, hl, q, k⟩ := hq
  cases ry
  obtain ⟨its, r, ⟨o, ho, hc, m, hda⟩, _⟩ := I.tuple hl
  have hT : s.TypeIs (.ref p) "tuple" := ⟨o, ho, hc⟩
  have sb : Sub X (n + 1) X.A := ⟨hr, rfl⟩
  show wpAny _ X.A (do return .bool (← contains (.ref p) u)) (EP X pins σ Q) X.xe s
  refine wpAny_bind (wpAny_contains_slot hT PySem.F.slot_tuple_contains (GQ.call_here PySem.F.slot_tuple_contains hT PySem.F.entry_tuple_contains (PySem.F.args_tuple_contains_2 _ _) ?_))
  exact inB_tup (A := X.A) (R := wants (fun v s' => wpAny (model X.prog X.w) X.A (truthy v) (fun t s'' => wpAny (model X.prog X.w) X.A (pure (Value.bool t)) (EP X pins σ Q) X.xe s'') X.xe s') X.xe) h sb hl rx b
    (fun s' I' => wpAny_truthy_bool (wpAny_pure ⟨.bl b, H, I', rfl, k⟩)) (fun e s' z => z) q s I
/-- a text beside a thing of a built-in kind -/
def DTxt : Eqb := fun x y H b => ∃ (z : Str) (T : String), x = .str z ∧ Bk H y T ∧ b = decide (y = .str z)
theorem eqB_txt (hu : ∀ A, Sub X n A → A.units < cLine := fun _ z => z.room.units0) : EqB X n DTxt := by
  intro A pins s σ H x y u v b sb I rx ry d
  obtain ⟨z, T, rfl, bk, rfl⟩ := d
  obtain ⟨t, e⟩ := (show ∃ t, u = Value.str z t from rx)
  subst e
  have hu := hu A sb
  cases bk with
  | non =>
    cases (show v = Value.none from ry)
    exact SeqAt.EqAt.str_none z t X.prog X.w X.xe _ ⟨rfl, I⟩
  | bl c =>
    cases (show v = Value.bool c from ry)
    exact SeqAt.EqAt.str_bool z t c X.prog X.w X.xe _ ⟨rfl, I⟩
  | int i =>
    obtain ⟨t2, e⟩ := (show ∃ t, v = Value.int i t from ry)
    subst e
    exact SeqAt.EqAt.str_int z t i t2 X.prog X.w X.xe _ ⟨rfl, I⟩
  | str y =>
    obtain ⟨t2, e⟩ := (show ∃ t, v = Value.str y t from ry)
    subst e
    refine SeqAt.EqAt.str_str z t y t2 X.prog X.w X.xe _ ⟨?_, I⟩
    by_cases e : y = z
    · subst e; simp
    · have e2 : ¬ z = y := fun q => e q.symm
      have e3 : ¬ V.str y = V.str z := fun q => e (V.str.inj q)
      rw [decide_eq_false e3]
      exact beq_eq_false_iff_ne.mpr e2
  | @lst a xs e =>
    cases (show v = Value.ref a from ry)
    obtain ⟨_, its, k, _, h1⟩ := (show ObjOk X.prog X.w H s.heap a (.lst xs) from I.hok a _ e)
    exact SeqAt.EqAt.str_list z t ⟨_, h1, rfl, _, rfl⟩ hu X.prog X.w X.xe _ ⟨rfl, I⟩
  | @tup a xs e =>
    cases (show v = Value.ref a from ry)
    obtain ⟨_, its, _, h1⟩ := (show ObjOk X.prog X.w H s.heap a (.tup xs) from I.hok a _ e)
    exact SeqAt.EqAt.str_tuple z t h1 hu X.prog X.w X.xe _ ⟨rfl, I⟩
end
/-! ### Measures alike, beside Measures and things of built-in kinds -/
def REq (K : PySem.W.Frag) (C : Addr) : Eqb := fun x y H b => ∃ p t u, x = .ref p ∧ MAt C H p t u ∧ ((∃ q t' u', y = .ref q ∧ MAt C H q t' u' ∧ b = (decide (t = t') && decide (u = u'))) ∨ ∃ tv, TyX K H y tv ∧ PySem.W.kitOne K tv (.ref C) = some false ∧ b = false)
inductive Like (C : Addr) (H : Hp) (p : Addr) : V → Bool → Prop where
  | ms {q : Addr} {t u t' u' : Int} (a : MAt C H p t u) (b : MAt C H q t' u') : Like C H p (.ref q) (decide (t = t') && decide (u = u'))
  | kd {y : V} {T : String} {t u : Int} (a : MAt C H p t u) (b : Bk H y T) : Like C H p y false
theorem Like.same {C p : Addr} {H H' : Hp} {y : V} {b : Bool} (h : Like C H p y b) (s : Same H H') : Like C H' p y b := by
  cases h with
  | ms a b => exact .ms (a.same s) (b.same s)
  | kd a k => exact .kd (a.same s) (k.same s)
theorem mf_inj {t u t' u' : Int} (h : mf t u = mf t' u') : t = t' ∧ u = u' := by
  unfold mf at h
  injection h with h1 h2
  injection h2 with h3 _
  exact ⟨V.int.inj (congrArg Prod.snd h1), V.int.inj (congrArg Prod.snd h3)⟩
theorem MAt.uniq {C p : Addr} {H : Hp} {t u t' u' : Int} (a : MAt C H p t u) (b : MAt C H p t' u') : t = t' ∧ u = u' := by
  obtain ⟨d, a⟩ := a
  obtain ⟨d', b⟩ := b
  rw [a] at b
  have e := HO.ins.inj (Option.some.inj b)
  exact mf_inj e.2.2
theorem Bk.notIns {C p dx : Addr} {H : Hp} {T : String} {fs : List (Str × V)} (b : Bk H (.ref p) T) (e : H p = some (.ins C dx fs)) : False := by
  cases b with
  | lst z => rw [z] at e; cases e
  | tup z => rw [z] at e; cases e
section
variable {K : PySem.W.Frag} {C p : Addr} {H : Hp} {y : V} {b : Bool}
theorem nf_self : PySem.W.notFirst K C (.ref C) = true := by simp [PySem.W.notFirst]
theorem Like.fwd (cl : Cls K C) (ii : IsC K C) (ec : EqC K C) (h : Like C H p y b) : DOwn K C (REq K C) (.ref p) y H b := by
  cases h with
  | @ms q t u t' u' a b =>
    obtain ⟨da, ha⟩ := _root_.id a
    obtain ⟨db, hb⟩ := _root_.id b
    refine ⟨p, da, _, _, rfl, ha, tyM hb cl ii, nf_self, fun e => ?_, p, t, u, rfl, a, .inl ⟨q, t', u', rfl, b, rfl⟩⟩
    cases e
    obtain ⟨rfl, rfl⟩ := a.uniq b
    simp
  | @kd _ T t u a k =>
    obtain ⟨da, ha⟩ := _root_.id a
    refine ⟨p, da, _, _, rfl, ha, k.ty, ec.nf T k.mem, fun e => ?_, p, t, u, rfl, a, .inr ⟨_, k.ty, ec.kit T k.mem, rfl⟩⟩
    subst e
    exact (k.notIns ha).elim
theorem Like.bwd (cl : Cls K C) (ii : IsC K C) (ec : EqC K C) (h : Like C H p y b) : DOr (DOwn K C (REq K C)) (DRef C (REq K C)) y (.ref p) H b := by
  cases h with
  | @ms q t u t' u' a b =>
    obtain ⟨da, ha⟩ := _root_.id a
    obtain ⟨db, hb⟩ := _root_.id b
    have e2 : (decide (t = t') && decide (u = u')) = (decide (t' = t) && decide (u' = u)) := by
      rw [decide_eq_decide.mpr (eq_comm (a := t)), decide_eq_decide.mpr (eq_comm (a := u))]
    rw [e2]
    refine .inl ⟨q, db, _, _, rfl, hb, tyM ha cl ii, nf_self, fun e => ?_, q, t', u', rfl, b, .inl ⟨p, t, u, rfl, a, rfl⟩⟩
    cases e
    obtain ⟨rfl, rfl⟩ := a.uniq b
    simp
  | @kd _ T t u a k =>
    obtain ⟨da, ha⟩ := _root_.id a
    refine .inr ⟨p, da, _, T, rfl, ha, k, fun e => ?_, p, t, u, rfl, a, .inr ⟨_, k.ty, ec.kit T k.mem, rfl⟩⟩
    subst e
    exact (k.notIns ha).elim
theorem Like.non (ec : EqC K C) (h : Like C H p y b) : DOr (DOwn K C (REq K C)) (DRef C (REq K C)) .non (.ref p) H false := by
  have go : ∀ {t u : Int}, MAt C H p t u → DOr (DOwn K C (REq K C)) (DRef C (REq K C)) .non (.ref p) H false := fun {t u} a => by
    obtain ⟨da, ha⟩ := _root_.id a
    exact .inr ⟨p, da, _, _, rfl, ha, .non, (fun e => nomatch e), p, t, u, rfl, a, .inr ⟨_, (Bk.non (H := H)).ty, ec.kit _ (Bk.non (H := H)).mem, rfl⟩⟩
  cases h with
  | ms a _ => exact go a
  | kd a _ => exact go a
/-- one in [None, y] -/
theorem Like.inl (cl : Cls K C) (ii : IsC K C) (ec : EqC K C) (h : Like C H p y b) : InB (DOr (DOwn K C (REq K C)) (DRef C (REq K C))) (.ref p) H [.non, y] b := by
  refine .inr ⟨h.non ec, ?_⟩
  cases b with
  | true => exact .inl ⟨h.bwd cl ii ec, rfl⟩
  | false => exact .inr ⟨h.bwd cl ii ec, rfl⟩
/-- y in (one, z) -/
theorem Like.inr {z : Str} (cl : Cls K C) (ii : IsC K C) (ec : EqC K C) (h : Like C H p y b) (hz : y ≠ .str z) : InB (DOr (DOr (DOwn K C (REq K C)) (DRef C (REq K C))) DTxt) y H [.ref p, .str z] b := by
  have key : ∀ {c : Bool}, Like C H p y c → DOr (DOr (DOwn K C (REq K C)) (DRef C (REq K C))) DTxt (.str z) y H false := fun {c} h => by
    cases h with
    | @ms q t u t' u' a b =>
      obtain ⟨dq, hq⟩ := _root_.id b
      exact .inl (.inr ⟨q, dq, _, _, rfl, hq, .str z, (fun e => nomatch e), q, t', u', rfl, b, .inr ⟨_, (Bk.str (H := H) z).ty, ec.kit _ (Bk.str (H := H) z).mem, rfl⟩⟩)
    | @kd _ T t u a k => exact .inr ⟨z, T, rfl, k, (decide_eq_false hz).symm⟩
  cases b with
  | true => exact .inl ⟨.inl (.inl (h.fwd cl ii ec)), rfl⟩
  | false => exact .inr ⟨.inl (.inl (h.fwd cl ii ec)), .inr ⟨key h, rfl⟩⟩
end
end My
namespace My
open PySem PySem.Spec PyProof.Rows L2
/-! ### texts: str and repr of own objects, pieces of f-strings, divmod -/
section
variable {X : Cx} {n : Nat} {CX : CXT} {C f : Addr} {fd : FuncData} {ps : List Str} {sp : Sp} {E : XK}
/-- an own def is called from within a built-in one -/
theorem fn_at (F : FnOk X.prog X.w X.K X.mg X.base CX n f fd ps sp) (hb : Binds X.K fd ps []) (hx : Passes CX X E) {A : Around} {pins : List (Addr × Obj)} {s : Shared} {σ : L2.St} {H : Hp} {vs : List V} {us : List Value} {Q : VK}
    (sb : Sub X n A) (I : Inv X pins σ H s) (r : Vals vs us) (h : sp vs H Q E) : wpAny (model X.prog X.w) A (call (.ref f) us) (fun u s' => ∃ v H', Inv X pins σ H' s' ∧ RelV v u ∧ Q v H') X.xe s := by
  have e := I.env0
  have e0 : Env0 X.prog X.w X.K X.mg X.base A X.stack s H := ⟨by rw [sb.fr]; exact e.frames, e.mod, e.bs, e.bsz, e.funs, e.frf, e.hok, e.bare⟩
  have hl := F.len _ _ _ _ h
  have hbs := hb s us I.kIn (by rw [List.append_nil, ← r.length]; exact hl)
  rw [List.append_nil] at hbs
  refine wpAny_call (codeAny_mono (F.run A X.stack s H ⟨us, []⟩ us vs _ E sb.room e0 hbs r h) fun r s' hq => ?_)
  cases r with
  | error e => exact hx pins σ H s e s' I hq
  | ok fl =>
    cases fl with
    | ret w =>
      obtain ⟨z, H', I', rz, q⟩ := I.after hq
      exact ⟨z, H', I', rz, q⟩
    | next => exact False.elim hq
    | brk => exact False.elim hq
    | cont => exact False.elim hq
/-- what a text of an own object asks: the def tells a text -/
def tOwn (C : Addr) (sp : Sp) (E : XK) : V → Hp → VK → Prop := fun x H Q => ∃ a dx fs, x = .ref a ∧ H a = some (.ins C dx fs) ∧ sp [.ref a] H (fun v H' => ∃ z : Str, v = .str z ∧ Q (.str z) H') E
theorem call_strO (F : FnOk X.prog X.w X.K X.mg X.base CX n f fd ps sp) (hm : Meth X.K C "__str__" f) (hb : Binds X.K fd ps []) (hx : Passes CX X E) (hr : Room (n + 2) X.A) : CallR X (.type "str") (fun xs H Q => ∃ x, xs = [x] ∧ tOwn C sp E x H Q) := by
  intro pins s σ H xs us Q I r h
  obtain ⟨x, rfl, a, dx, fs, rfl, ha, h⟩ := h
  obtain ⟨u, rfl, r1⟩ := vals1 r
  cases (show u = Value.ref a from r1)
  obtain ⟨mA, J, _⟩ := ins_get I.hok ha
  obtain ⟨od, J, _⟩ := J.look
  have sb : Sub X (n + 2) X.A := ⟨hr, rfl⟩
  refine PySem.W.kso_call sb.in1.in1.room.units0 I.kIn J hm.at_ hm.fn ?_
  refine thn (fn_at F hb hx sb.in1.in1 I (vs := [.ref a]) (.cons rfl .nil) h) fun u s' q => ?_
  obtain ⟨v, H', I', rv, z, rfl, q⟩ := q
  obtain ⟨t, rfl⟩ := rv
  exact ⟨.str z, H', I', ⟨t, rfl⟩, q⟩
theorem call_reprO (F : FnOk X.prog X.w X.K X.mg X.base CX n f fd ps sp) (hm : Meth X.K C "__repr__" f) (hb : Binds X.K fd ps []) (hx : Passes CX X E) (hr : Room (n + 1) X.A) : CallR X (.builtin "repr") (fun xs H Q => ∃ x, xs = [x] ∧ ((x = .non ∧ Q (.str "None") H) ∨ tOwn C sp E x H Q)) := by
  intro pins s σ H xs us Q I r h
  obtain ⟨x, rfl, ⟨rfl, q⟩ | ⟨a, dx, fs, rfl, ha, h⟩⟩ := h
  · obtain ⟨u, rfl, r1⟩ := vals1 r
    cases (show u = Value.none from r1)
    exact PySem.P.repr_of_none ⟨.str "None", H, I.tok _, ⟨_, rfl⟩, q⟩
  obtain ⟨u, rfl, r1⟩ := vals1 r
  cases (show u = Value.ref a from r1)
  obtain ⟨mA, J, _⟩ := ins_get I.hok ha
  obtain ⟨od, J, _⟩ := J.look
  obtain ⟨m, hF⟩ := I.fr
  have sb : Sub X (n + 1) X.A := ⟨hr, rfl⟩
  refine PySem.W.repr_K sb.in1.room.units0 hF I.ok.mod.kin J hm.at_ hm.fn ?_
  refine thn (fn_at F hb hx sb.in1 I (vs := [.ref a]) (.cons rfl .nil) h) fun u s' q => ?_
  obtain ⟨v, H', I', rv, z, rfl, q⟩ := q
  obtain ⟨t, rfl⟩ := rv
  exact ⟨.str z, H', I', ⟨t, rfl⟩, q⟩
/-- {x!r}, x an own object or None -/
def tFmtRO (C : Addr) (sp : Sp) (E : XK) (te : TE) : TE := fun σ H Q => te σ H fun x H1 => (x = .non ∧ Q (.str "None") H1) ∨ tOwn C sp E x H1 (fun v H2 => (∃ z : Str, v = .str z ∧ z.length ≤ sizeLine) ∧ Q v H2)
theorem pe_fmtRO {e : Expr} {te : TE} {pos : Pos} (F : FnOk X.prog X.w X.K X.mg X.base CX n f fd ps sp) (hm : Meth X.K C "__repr__" f) (hb : Binds X.K fd ps []) (hx : Passes CX X E) (hr : Room n X.A) (he : PE X e te) : PE X (.FormattedValue e 114 none pos) (tFmtRO C sp E te) := by
  refine ⟨fun pins s σ H Q I h => ?_⟩
  refine wpAny_FormattedValue_repr (thn (he.run pins s σ H _ I h) fun v s1 hv => ?_)
  obtain ⟨x, H1, I1, r1, ⟨rfl, q⟩ | ⟨a, dx, fs, rfl, ha, q⟩⟩ := hv
  · cases (show v = Value.none from r1)
    exact pyReprObj_none (wpAny_formatField_str ⟨.str "None", H1, I1.tok _, ⟨_, rfl⟩, q⟩ ⟨.str "None", H1, I1.tok _, ⟨_, rfl⟩, q⟩ (by rw [sizeLine_eq]; decide))
  cases (show v = Value.ref a from r1)
  obtain ⟨mA, J, _⟩ := ins_get I1.hok ha
  obtain ⟨od, J, _⟩ := J.look
  have sb : Sub X n X.A := ⟨hr, rfl⟩
  unfold pyReprObj
  refine wpAny_bind (wpAny_cRoomFor sb.room.units0 ?_)
  refine wpAny_bind (wpAny_bind (J.type.here ((PySem.W.looks_findIn I1.kIn hm.at_).here ?_)))
  show wpAny _ _ (if (some (Value.ref f)).isNone = true then _ else _) _ _ _
  rw [if_neg (by simp)]
  refine wpAny_bind (PySem.W.ifBound_K I1.kIn J hm.at_ hm.fn (thn (fn_at F hb hx sb I1 (vs := [.ref a]) (.cons rfl .nil) q) fun u s2 q2 => ?_))
  obtain ⟨w, H2, I2, rw, z, rfl, ⟨z2, ez, hz⟩, q3⟩ := q2
  cases ez
  obtain ⟨t, rfl⟩ := rw
  refine wpAny_bind (wpAny_isInstance (typeIs_str _ _ _) isSubtype_str_str ?_)
  have go := wpAny_formatField_str (prog := X.prog) (w := X.w) (A := X.A) (E := X.xe) (s := s2) (x := z) (t := t) (Q := EP X pins σ Q) ⟨.str z, H2, I2, ⟨t, rfl⟩, q3⟩ ⟨.str z, H2, I2.tok _, ⟨_, rfl⟩, q3⟩ hz
  first
    | exact wpAny_pure go
    | (rw [if_pos rfl]; exact wpAny_pure go)
    | (simp only [if_true]; exact wpAny_pure go)
/-- {x}, x a truth -/
def bTxt (b : Bool) : Str := if b then "True" else "False"
def tFmtB (te : TE) : TE := fun σ H Q => te σ H fun x H1 => ∃ b, x = .bl b ∧ Q (.str (bTxt b)) H1
theorem pe_fmtB {e : Expr} {te : TE} {pos : Pos} (he : PE X e te) : PE X (.FormattedValue e (-1) none pos) (tFmtB te) := by
  refine ⟨fun pins s σ H Q I h => ?_⟩
  refine wpAny_FormattedValue_plain (thn (he.run pins s σ H _ I h) fun v s1 hv => ?_)
  obtain ⟨x, H1, I1, r1, b, rfl, q⟩ := hv
  cases (show v = Value.bool b from r1)
  exact wpAny_formatField_bool ⟨.str (bTxt b), H1, I1.tok _, ⟨_, by cases b <;> rfl⟩, q⟩
theorem call_str_bool : CallR X (.type "str") (fun xs H Q => ∃ b, xs = [.bl b] ∧ Q (.str (bTxt b)) H) := by
  intro pins s σ H xs us Q I r h
  obtain ⟨b, rfl, q⟩ := h
  obtain ⟨u, rfl, r1⟩ := vals1 r
  cases (show u = Value.bool b from r1)
  exact PySem.P.str_of_bool ⟨.str (bTxt b), H, I.tok _, ⟨_, by cases b <;> rfl⟩, q⟩
theorem call_dm : CallR X (.builtin "divmod") (fun xs H Q => ∃ i j, xs = [.int i, .int j] ∧ 0 < j ∧ j.natAbs.log2 < 9000 ∧ ∀ p, H p = none → Q (.ref p) (upd H p (.tup [.int (i / j), .int (i % j)]))) := by
  intro pins s σ H xs us Q I r h
  obtain ⟨i, j, rfl, h1, h2, q⟩ := h
  obtain ⟨u, w', rfl, ⟨t, rfl⟩, ⟨t', rfl⟩⟩ := vals2 r
  refine divmod_int (by omega) ?_ (.inl (PyProof.noPylong_of_log2 h2))
  rw [Int.fdiv_eq_ediv_of_nonneg i (by omega), Int.fmod_eq_emod_of_nonneg i (by omega)]
  have hn : H s.heap.objs.size = none := I.hok.fresh (Nat.le_refl _)
  refine ⟨.ref s.heap.objs.size, _, ?_, rfl, q _ hn⟩
  refine I.laid (fun b o e => Heap.get?_push_of_some _ e) (Nat.le_refl _) ⟨by show 2 ≤ sizeLine; rw [sizeLine_eq]; decide, [.int (i / j) s.toks, .int (i % j) (s.toks + 1)], .cons ⟨_, rfl⟩ (.cons ⟨_, rfl⟩ .nil), ?_⟩
  exact ⟨_, Heap.get?_push_size s.heap rfl, rfl, 0, rfl⟩
/-- a text so often -/
theorem op_repS : OpR X (binaryOp .Mult) (fun x y H Q => ∃ (a : Str) (b : Bool), x = .str a ∧ y = .int (if b then 1 else 0) ∧ a.length ≤ 1000 ∧ Q (.str (if b then a else "")) H) := by
  intro pins s σ H x y v u Q I rx ry h
  obtain ⟨a, b, rfl, rfl, hz, q⟩ := h
  obtain ⟨t, rfl⟩ := rx
  obtain ⟨t', rfl⟩ := ry
  cases b with
  | true => exact SB.mul (n := 1) ⟨by decide, fun _ z => (by simp at z), fun _ z => (by simp at z)⟩ fun _ _ => ⟨.str a, H, I.tok _, ⟨_, rfl⟩, q⟩
  | false => exact SB.mul (n := 0) ⟨by decide, fun z => absurd (by decide) z, fun z => absurd (by decide) z⟩ fun _ _ => ⟨.str "", H, I.tok _, ⟨_, rfl⟩, q⟩
theorem bnil {K : PySem.W.Frag} {fd : FuncData} {ps : List Str} {ds : List Value} (v : Vals [] ds) (b : Binds K fd ps ds) : Binds K fd ps [] := by
  cases v
  exact b
end
/-! ### the text of a number, of a Measure -/
def iT (i : Int) : Str := Str.ofString (toString i)
theorem Sz.log' {a : Nat} {x : Int} (h : Sz a x) (h0 : 0 < a) (l : a ≤ 1920) : x.natAbs.log2 < 1920 := Nat.lt_of_lt_of_le (PySem.Flt.log2_lt_of h0 h) l
theorem iT_len {i : Int} (h : Sz 1900 i) : (iT i).length ≤ 1921 := by
  have e := int_text_length_le (k := 1920) (by decide) (h.log' (by decide) (by decide))
  unfold iT
  rw [PySem.ofString_length]
  omega
def wTxt (a u : Int) : Str := if a % u = 0 then iT (a / u) else if a / u = 0 then Str.empty ++ iT (a % u) ++ "/" ++ iT u else Str.empty ++ iT (a / u) ++ " " ++ iT (a % u) ++ "/" ++ iT u
def mTxt (t u : Int) : Str := if t < 0 then Str.empty ++ "-" ++ wTxt (-t) u else wTxt t u
def mRep (t u : Int) : Str := Str.empty ++ "Measure(" ++ iT t ++ ", " ++ iT u ++ ")"
theorem Sz.ediv {k : Nat} {a u : Int} (h : Sz k a) (h0 : 0 ≤ a) (hu : 0 < u) : Sz k (a / u) := h.le (by
  have h1 := Int.ediv_nonneg h0 (Int.le_of_lt hu)
  have h2 := Int.ediv_le_self u h0
  omega)
theorem Sz.emod {k : Nat} {a u : Int} (h : Sz k u) (hu : 0 < u) : Sz k (a % u) := h.le (by
  have h1 := Int.emod_nonneg a (show u ≠ 0 by omega)
  have h2 := Int.emod_lt_of_pos a hu
  omega)
theorem wTxt_len {a u : Int} (ha : Sz 1900 a) (hu : Sz 1900 u) (h0 : 0 ≤ a) (h1 : 0 < u) : (wTxt a u).length ≤ 6000 := by
  have l1 := iT_len (ha.ediv h0 h1)
  have l2 := iT_len (hu.emod (a := a) h1)
  have l3 := iT_len hu
  have e0 : Str.empty.length = 0 := rfl
  have e1 : (Str.ofString "/").length = 1 := rfl
  have e2 : (Str.ofString " ").length = 1 := rfl
  unfold wTxt
  split
  · omega
  · split
    · simp only [Str.length_append]; omega
    · simp only [Str.length_append]; omega
theorem mTxt_len {t u : Int} (ha : Sz 1900 t) (hu : Sz 1900 u) (h1 : 0 < u) : (mTxt t u).length ≤ 6001 := by
  have e0 : Str.empty.length = 0 := rfl
  have e1 : (Str.ofString "-").length = 1 := rfl
  unfold mTxt
  split
  · have := wTxt_len ha.neg hu (by omega) h1
    simp only [Str.length_append]; omega
  · have := wTxt_len ha hu (by omega) h1
    omega
theorem mRep_len {t u : Int} (ha : Sz 1900 t) (hu : Sz 1900 u) : (mRep t u).length ≤ 4000 := by
  have l1 := iT_len ha
  have l2 := iT_len hu
  have e0 : Str.empty.length = 0 := rfl
  have e1 : (Str.ofString "Measure(").length = 8 := rfl
  have e2 : (Str.ofString ", ").length = 2 := rfl
  have e3 : (Str.ofString ")").length = 1 := rfl
  unfold mRep
  simp only [Str.length_append]; omega
theorem join_eq (sep : Str) (l : List Str) : Txt.join sep l = Str.join sep l := eq_of_beq (PyProof.Rows.join_plain_closes sep l)
theorem join_len (sep : Str) : ∀ l : List Str, (Txt.join sep l).length ≤ (l.map (·.length)).sum + l.length * sep.length := fun l => by
  rw [join_eq]
  induction l with
  | nil => exact Nat.zero_le _
  | cons x r ih =>
    cases r with
    | nil => show x.length ≤ x.length + 0 + 1 * sep.length; omega
    | cons y r =>
      have e : (Str.join sep (x :: y :: r)).length = x.length + sep.length + (Str.join sep (y :: r)).length := by
        show (x ++ sep ++ Str.join sep (y :: r)).length = _
        simp only [Str.length_append]
      have e2 : ((x :: y :: r).map (·.length)).sum = x.length + ((y :: r).map (·.length)).sum := rfl
      have e3 : (x :: y :: r).length * sep.length = (y :: r).length * sep.length + sep.length := by
        rw [List.length_cons, Nat.add_mul, Nat.one_mul]
      rw [e, e2, e3]
      omega
/-- the text as the laws write it: words, a blank between -/
theorem law_txt {t u : Int} (hu : 0 < u) : (if decide (t < 0) = true then ("-" : Str) else "") ++ Txt.join " " ((if u ≤ (t.natAbs : Int) ∨ (t.natAbs : Int) = 0 then [iT ((t.natAbs : Int) / u)] else []) ++ (if 0 < (t.natAbs : Int) % u then [iT ((t.natAbs : Int) % u) ++ "/" ++ iT u] else [])) = mTxt t u := by
  have w : ∀ A : Int, 0 ≤ A → Txt.join " " ((if u ≤ A ∨ A = 0 then [iT (A / u)] else []) ++ (if 0 < A % u then [iT (A % u) ++ "/" ++ iT u] else [])) = wTxt A u := fun A h0 => by
    have m0 := Int.emod_nonneg A (show u ≠ 0 by omega)
    have m1 := Int.emod_lt_of_pos A hu
    have de := Int.emod_add_mul_ediv A u
    have d0 := Int.ediv_nonneg h0 (Int.le_of_lt hu)
    rw [join_eq]
    unfold wTxt
    by_cases e : A % u = 0
    · have c : u ≤ A ∨ A = 0 := by
        rcases Int.lt_or_le 0 (A / u) with z | z
        · left
          have : u * 1 ≤ u * (A / u) := Int.mul_le_mul_of_nonneg_left (by omega) (by omega)
          omega
        · right
          have : A / u = 0 := by omega
          rw [this] at de
          omega
      rw [if_pos c, if_neg (by omega), if_pos e]
      rfl
    · rw [if_neg e, if_pos (show 0 < A % u by omega)]
      by_cases z : A / u = 0
      · have c : ¬ (u ≤ A ∨ A = 0) := by
          rw [z] at de
          omega
        rw [if_neg c, if_pos z, Str.empty_append]
        rfl
      · have c : u ≤ A ∨ A = 0 := by
          left
          have : u * 1 ≤ u * (A / u) := Int.mul_le_mul_of_nonneg_left (by omega) (by omega)
          omega
        rw [if_pos c, if_neg z, Str.empty_append]
        show iT (A / u) ++ " " ++ (iT (A % u) ++ "/" ++ iT u) = _
        simp only [Str.append_assoc]
  rw [w _ (by omega)]
  unfold mTxt
  by_cases e : t < 0
  · rw [if_pos e, if_pos (decide_eq_true e), Str.empty_append]
    have : (t.natAbs : Int) = -t := by omega
    rw [this]
  · rw [if_neg e, if_neg (by simpa using e)]
    have : (t.natAbs : Int) = t := by omega
    rw [this]
    exact Str.empty_append _
theorem iT_dig {n : Int} (h : 0 ≤ n) : ∀ c ∈ TL.tl (iT n), 48 ≤ c ∧ c ≤ 57 := by
  obtain ⟨m, rfl⟩ := Int.eq_ofNat_of_zero_le h
  have e : iT (m : Int) = ⟨((Nat.toDigits 10 m).map Char.toNat).toArray⟩ := PyProof.Rows.text_ofNat m
  intro c hc
  rw [e] at hc
  have hc : c ∈ (Nat.toDigits 10 m).map Char.toNat := by simpa [TL.tl] using hc
  obtain ⟨ch, h1, rfl⟩ := List.mem_map.mp hc
  exact PyProof.Rows.digit_range (Nat.isDigit_of_mem_toDigits (by decide) (by decide) h1)
theorem mTxt_x {t u : Int} (hu : 0 < u) : mTxt t u ≠ "x" := by
  intro e
  have key : ∀ (s : Str) (c : Nat), s = "x" → c ∈ TL.tl s → c = 120 := fun s c e1 e2 => by
    rw [e1] at e2
    have e3 : TL.tl (Str.ofString "x") = [120] := by decide +kernel
    rw [e3] at e2
    simpa using e2
  have wd : ∀ a : Int, 0 ≤ a → wTxt a u ≠ "x" := fun a h0 e => by
    unfold wTxt at e
    have sl : 47 ∈ TL.tl (Str.ofString "/") := by decide +kernel
    split at e
    · have d0 := Int.ediv_nonneg h0 (Int.le_of_lt hu)
      have h120 : 120 ∈ TL.tl (iT (a / u)) := by
        rw [e]
        decide +kernel
      have := iT_dig d0 _ h120
      omega
    · split at e
      · have := key _ 47 e (by simp only [TL.tl_append, List.mem_append]; exact .inl (.inr sl))
        omega
      · have := key _ 47 e (by simp only [TL.tl_append, List.mem_append]; exact .inl (.inr sl))
        omega
  unfold mTxt at e
  split at e
  · have := key _ 45 e (by simp only [TL.tl_append, List.mem_append]; exact .inl (.inr (by decide +kernel)))
    omega
  · exact wd t (by omega) e
theorem eqv_pair {a b c d : Int} : PyData.eqv (.tuple [.int a, .int b]) (.tuple [.int c, .int d]) = (decide (a = c) && decide (b = d)) := by
  show ((a == c) && ((b == d) && true)) = _
  rw [Bool.and_true, Bool.beq_eq_decide_eq, Bool.beq_eq_decide_eq]
theorem fr_uniq {t u t' u' a b : Int} (f : Fr t u a b) (g : Fr t' u' a b) (hb : b ≠ 0) (sa : Sz 4000 a) (sb : Sz 4000 b) : t = t' ∧ u = u' := by
  have e : t * u' = t' * u := f.of hb g.eq.symm
  have := low_eq (a := (t, u)) (b := (t', u')) ⟨f.pos, f.co, sa.le f.lt, sb.le f.lu⟩ ⟨g.pos, g.co, sa.le g.lt, sb.le g.lu⟩ e
  exact ⟨congrArg Prod.fst this, congrArg Prod.snd this⟩
end My
namespace My
open PySem PySem.Spec PyProof.Rows L2
/-! ### texts by their signs: partings at the last and the first sign -/
abbrev St8 (l : List Nat) : Str := SX.S l
def lastSplit (c : Nat) : List Nat → Option (List Nat × List Nat)
  | [] => none
  | x :: r => match lastSplit c r with
    | some (p, q) => some (x :: p, q)
    | none => if x = c then some ([], r) else none
def firstSplit (c : Nat) : List Nat → Option (List Nat × List Nat)
  | [] => none
  | x :: r => if x = c then some ([], r) else match firstSplit c r with
    | some (p, q) => some (x :: p, q)
    | none => none
theorem lastSplit_none {c : Nat} : ∀ {l : List Nat}, lastSplit c l = none → c ∉ l
  | [], _ => List.not_mem_nil
  | x :: r, h => by
    unfold lastSplit at h
    cases e : lastSplit c r with
    | some z => rw [e] at h; cases h
    | none =>
      rw [e] at h
      have n := lastSplit_none e
      by_cases hx : x = c
      · have h : (if x = c then some (([] : List Nat), r) else none) = none := h
        rw [if_pos hx] at h; cases h
      · intro m
        rcases List.mem_cons.mp m with m | m
        · exact hx m.symm
        · exact n m
theorem lastSplit_some {c : Nat} : ∀ {l p q : List Nat}, lastSplit c l = some (p, q) → l = p ++ c :: q ∧ c ∉ q
  | [], _, _, h => nomatch h
  | x :: r, p, q, h => by
    unfold lastSplit at h
    cases e : lastSplit c r with
    | some z =>
      obtain ⟨p', q'⟩ := z
      rw [e] at h
      have h : some (x :: p', q') = some (p, q) := h
      cases h
      obtain ⟨h1, h2⟩ := lastSplit_some e
      exact ⟨by rw [h1]; rfl, h2⟩
    | none =>
      rw [e] at h
      have h : (if x = c then some (([] : List Nat), r) else none) = some (p, q) := h
      by_cases hx : x = c
      · rw [if_pos hx] at h
        cases h
        exact ⟨by rw [hx]; rfl, lastSplit_none e⟩
      · rw [if_neg hx] at h; cases h
theorem lastSplit_no {c : Nat} {l : List Nat} (h : c ∉ l) : lastSplit c l = none := by
  cases e : lastSplit c l with
  | none => rfl
  | some z =>
    obtain ⟨p, q⟩ := z
    obtain ⟨h1, _⟩ := lastSplit_some e
    exact absurd (by rw [h1]; simp) h
theorem lastSplit_app {c : Nat} : ∀ {p q : List Nat}, c ∉ q → lastSplit c (p ++ c :: q) = some (p, q)
  | [], q, h => by
    show (match lastSplit c q with | some (p, q) => some (c :: p, q) | none => if c = c then some ([], q) else none) = _
    rw [lastSplit_no h, if_pos rfl]
  | x :: p, q, h => by
    show (match lastSplit c (p ++ c :: q) with | some (p, q) => some (x :: p, q) | none => if x = c then some ([], p ++ c :: q) else none) = _
    rw [lastSplit_app h]
theorem firstSplit_none {c : Nat} : ∀ {l : List Nat}, firstSplit c l = none → c ∉ l
  | [], _ => List.not_mem_nil
  | x :: r, h => by
    unfold firstSplit at h
    by_cases hx : x = c
    · rw [if_pos hx] at h; cases h
    · rw [if_neg hx] at h
      cases e : firstSplit c r with
      | some z => rw [e] at h; cases h
      | none =>
        intro m
        rcases List.mem_cons.mp m with m | m
        · exact hx m.symm
        · exact firstSplit_none e m
theorem firstSplit_some {c : Nat} : ∀ {l p q : List Nat}, firstSplit c l = some (p, q) → l = p ++ c :: q ∧ c ∉ p
  | [], _, _, h => nomatch h
  | x :: r, p, q, h => by
    unfold firstSplit at h
    by_cases hx : x = c
    · rw [if_pos hx] at h
      cases h
      exact ⟨by rw [hx]; rfl, List.not_mem_nil⟩
    · rw [if_neg hx] at h
      cases e : firstSplit c r with
      | none => rw [e] at h; cases h
      | some z =>
        obtain ⟨p', q'⟩ := z
        rw [e] at h
        have h : some (x :: p', q') = some (p, q) := h
        cases h
        obtain ⟨h1, h2⟩ := firstSplit_some e
        refine ⟨by rw [h1]; rfl, fun m => ?_⟩
        rcases List.mem_cons.mp m with m | m
        · exact hx m.symm
        · exact h2 m
theorem firstSplit_no {c : Nat} {l : List Nat} (h : c ∉ l) : firstSplit c l = none := by
  cases e : firstSplit c l with
  | none => rfl
  | some z =>
    obtain ⟨p, q⟩ := z
    obtain ⟨h1, _⟩ := firstSplit_some e
    exact absurd (by rw [h1]; simp) h
theorem firstSplit_app {c : Nat} : ∀ {p q : List Nat}, c ∉ p → firstSplit c (p ++ c :: q) = some (p, q)
  | [], q, _ => by
    show (if c = c then some ([], q) else _) = _
    rw [if_pos rfl]
  | x :: p, q, h => by
    have hx : ¬ x = c := fun e => h (by rw [e]; simp)
    show (if x = c then some ([], p ++ c :: q) else match firstSplit c (p ++ c :: q) with | some (p, q) => some (x :: p, q) | none => none) = _
    rw [if_neg hx, firstSplit_app fun m => h (List.mem_cons_of_mem _ m)]
/-! ### x.rpartition(sep) -/
def Rp (x y : Str) : Str × Str × Str := match Builtin.Str.lastOccurrence x y 0 x.length with
  | some i => (Builtin.Str.strSub x 0 i, y, Builtin.Str.strSub x (i + y.length) x.length)
  | none => (Str.empty, Str.empty, x)
theorem mt_rpartition {X : Cx} : MtR X "str.rpartition" (fun x xs H Q => ∃ a b, x = .str a ∧ xs = [.str b] ∧ (b.length == 0) = false ∧ a.length ≤ sizeLine ∧
    ∀ p, H p = none → Q (.ref p) (upd H p (.tup [.str (Rp a b).1, .str (Rp a b).2.1, .str (Rp a b).2.2]))) := by
  intro pins s σ H x xs v us Q I rx rs h
  obtain ⟨a, b, rfl, rfl, hb, hz, h⟩ := h
  obtain ⟨t, rfl⟩ := rx
  cases rs with
  | cons r1 rs =>
    cases rs
    obtain ⟨u, rfl⟩ := r1
    refine call_meets F.slot_str_rpartition (typeIs_str _ _ _) F.entry_str_rpartition (F.args_str_rpartition_2 _ _) (meets_str_rpartition a b t u hb hz) ?_
    unfold Rp at h
    revert h
    cases Builtin.Str.lastOccurrence a b 0 a.length with
    | none => intro h; exact laid_parts I h
    | some i => intro h; exact laid_parts I h
theorem pre1 {c : Nat} {l : List Nat} {i : Nat} : TL.pre [c] (l.drop i) = true ↔ l[i]? = some c := by
  unfold TL.pre
  rw [beq_iff_eq]
  cases e : l.drop i with
  | nil =>
    have : l.length ≤ i := List.drop_eq_nil_iff.mp e
    rw [List.getElem?_eq_none this]
    simp
  | cons x r =>
    have h : l[i]? = some x := by
      have := congrArg (fun z : List Nat => z[0]?) e
      simp only [List.getElem?_drop, Nat.add_zero, List.getElem?_cons_zero] at this
      exact this
    rw [h]
    simp
theorem Rp_app {c : Nat} {p q : List Nat} (h : c ∉ q) : Rp (St8 (p ++ c :: q)) (St8 [c]) = (St8 p, St8 [c], St8 q) := by
  have hy : TL.tl (St8 [c]) ≠ [] := by simp [TL.tl]
  have at_ : ∀ i, StrLaws.At (St8 (p ++ c :: q)) (St8 [c]) (St8 (p ++ c :: q)).length i ↔ (p ++ c :: q)[i]? = some c := fun i => (TL.at_iff hy i).trans pre1
  have hp : (p ++ c :: q)[p.length]? = some c := by simp
  have hq : ∀ i, p.length < i → ¬ (p ++ c :: q)[i]? = some c := fun i hi e => by
    have e2 : (p ++ c :: q)[i]? = q[i - p.length - 1]? := by
      rw [List.getElem?_append_right (by omega)]
      have : i - p.length = (i - p.length - 1) + 1 := by omega
      rw [this, List.getElem?_cons_succ]
      rfl
    rw [e2] at e
    exact h (List.mem_of_getElem? e)
  unfold Rp
  rcases StrLaws.last_spec (St8 (p ++ c :: q)) (St8 [c]) with ⟨_, n⟩ | ⟨i, e, a, n⟩
  · exact absurd ((at_ _).mpr hp) (n _)
  · have hi : i = p.length := by
      rcases Nat.lt_trichotomy i p.length with z | z | z
      · exact absurd ((at_ _).mpr hp) (n _ z)
      · exact z
      · exact absurd ((at_ _).mp a) (hq _ z)
    subst hi
    rw [e]
    have e1 : Builtin.Str.strSub (St8 (p ++ c :: q)) 0 p.length = St8 p := TL.ext_tl (by
      rw [TL.tl_strSub, List.drop_zero, Nat.sub_zero]
      show (p ++ c :: q).take p.length = p
      rw [List.take_left'] <;> rfl)
    have e2 : Builtin.Str.strSub (St8 (p ++ c :: q)) (p.length + (St8 [c]).length) (St8 (p ++ c :: q)).length = St8 q := TL.ext_tl (by
      rw [TL.tl_strSub_end]
      show (p ++ c :: q).drop (p.length + 1) = q
      rw [← List.drop_drop, List.drop_left'] <;> rfl)
    show (_, _, _) = _
    rw [e1, e2]
theorem Rp_none {c : Nat} {l : List Nat} (h : c ∉ l) : Rp (St8 l) (St8 [c]) = (Str.empty, Str.empty, St8 l) := by
  have hy : TL.tl (St8 [c]) ≠ [] := by simp [TL.tl]
  unfold Rp
  rcases StrLaws.last_spec (St8 l) (St8 [c]) with ⟨e, _⟩ | ⟨i, e, a, _⟩
  · rw [e]
  · exact absurd (List.mem_of_getElem? (pre1.mp ((TL.at_iff hy i).mp a))) h
theorem Pt_app {c : Nat} {p q : List Nat} (h : c ∉ p) : Txt.partition (St8 (p ++ c :: q)) (St8 [c]) = (St8 p, St8 [c], St8 q) :=
  SX.partition_some (List.cons_ne_nil _ _) (SX.par_head q h)
theorem Pt_none {c : Nat} {l : List Nat} (h : c ∉ l) : Txt.partition (St8 l) (St8 [c]) = (St8 l, St8 [], St8 []) :=
  SX.partition_none (List.cons_ne_nil _ _) (SX.par_head_none h)
/-! ### a leading sign -/
theorem sub0 {c : Nat} {l : List Nat} : Builtin.Str.subAt (St8 l) (St8 [c]) 0 = true ↔ ∃ r, l = c :: r := by
  have hy : TL.tl (St8 [c]) ≠ [] := by simp [TL.tl]
  have h := TL.at_iff (x := St8 l) hy 0
  constructor
  · intro e
    have h1 : 0 + (St8 [c]).length ≤ (St8 l).length := by
      have := StrLaws.subAt_zero_le e
      omega
    have h2 := pre1.mp (h.mp ⟨h1, e⟩)
    cases l with
    | nil => simp at h2
    | cons x r =>
      have h2 : some x = some c := h2
      cases h2
      exact ⟨r, rfl⟩
  · rintro ⟨r, rfl⟩
    exact (h.mpr (pre1.mpr rfl)).2
theorem rmp_yes {c : Nat} {r : List Nat} : Txt.removeprefix (St8 (c :: r)) (St8 [c]) = St8 r := by
  rw [StrLaws.removeprefix_eq]
  have h : Builtin.Str.subAt (St8 (c :: r)) (St8 [c]) 0 = true := sub0.mpr ⟨r, rfl⟩
  have h1 : 0 + (St8 [c]).length ≤ (St8 (c :: r)).length := by
    have := StrLaws.subAt_zero_le h
    omega
  rw [h, decide_eq_true h1]
  show (⟨(((c :: r).drop 1).take ((St8 (c :: r)).length - 1)).toArray⟩ : Str) = St8 r
  have : ((c :: r).drop 1).take ((St8 (c :: r)).length - 1) = r := by
    show r.take _ = r
    refine List.take_of_length_le ?_
    rw [SX.S_len, List.length_cons]
    omega
  rw [this]
theorem rmp_no {c : Nat} {l : List Nat} (h : ∀ r, l ≠ c :: r) : Txt.removeprefix (St8 l) (St8 [c]) = St8 l := by
  rw [StrLaws.removeprefix_eq]
  have e : Builtin.Str.subAt (St8 l) (St8 [c]) 0 = false := by
    cases z : Builtin.Str.subAt (St8 l) (St8 [c]) 0 with
    | false => rfl
    | true => obtain ⟨r, e⟩ := sub0.mp z; exact absurd e (h r)
  rw [e, Bool.and_false]
  rfl
def sw (c : Nat) : List Nat → Bool
  | [] => false
  | x :: _ => decide (x = c)
theorem sw_of {c : Nat} {l : List Nat} : Txt.startswith (St8 l) (St8 [c]) = sw c l := by
  unfold Txt.startswith
  cases z : Builtin.Str.subAt (St8 l) (St8 [c]) 0 with
  | false =>
    rw [Bool.and_false]
    cases l with
    | nil => rfl
    | cons x r =>
      show false = decide (x = c)
      refine (decide_eq_false fun e => ?_).symm
      rw [sub0.mpr ⟨r, by rw [e]⟩] at z
      cases z
  | true =>
    have := StrLaws.subAt_zero_le z
    rw [decide_eq_true (by omega : 0 + (St8 [c]).length ≤ (St8 l).length)]
    obtain ⟨r, rfl⟩ := sub0.mp z
    show true = decide (c = c)
    rw [decide_eq_true rfl]
/-! ### the words of a measure's text -/
def dig (c : Nat) : Bool := decide (48 ≤ c) && decide (c ≤ 57)
def isNumL (l : List Nat) : Bool := decide (1 ≤ l.length) && (decide (l.length ≤ 12) && l.all dig)
def slashL (l : List Nat) : List Nat × List Nat := match firstSplit 47 l with
  | some z => z
  | none => (l, [])
def nwL (l : List Nat) : List Nat × List Nat × List Nat :=
  if 47 ∈ l then match lastSplit 32 l with
    | none => ([48], (slashL l).1, (slashL l).2)
    | some (w, p) => (w, (slashL p).1, (slashL p).2)
  else (l, [48], [49])
def bodyL : List Nat → List Nat
  | [] => []
  | x :: r => if x = 45 then r else x :: r
def valL (l : List Nat) : Int := ((NumText.digitsVal l : Nat) : Int)
def looseL (l : List Nat) : Option Q2 :=
  let w := nwL (bodyL l)
  if isNumL w.1 && (isNumL w.2.1 && isNumL w.2.2) then
    if valL w.2.2 = 0 then none else some ((if sw 45 l then -1 else 1) * (valL w.1 * valL w.2.2 + valL w.2.1), valL w.2.2)
  else none
theorem dig_ok {c : Nat} : dig c = true ↔ 48 ≤ c ∧ c ≤ 57 := by
  unfold dig; rw [Bool.and_eq_true, decide_eq_true_eq, decide_eq_true_eq]
theorem allDig {l : List Nat} : l.all dig = true ↔ NumText.AllDigits l := by
  rw [List.all_eq_true]
  exact ⟨fun h c hc => dig_ok.mp (h c hc), fun h c hc => dig_ok.mpr (h c hc)⟩
theorem isNum_of {l : List Nat} (h : isNumL l = true) : l ≠ [] ∧ l.length ≤ 12 ∧ NumText.AllDigits l := by
  unfold isNumL at h
  rw [Bool.and_eq_true, Bool.and_eq_true, decide_eq_true_eq, decide_eq_true_eq] at h
  exact ⟨fun e => (by rw [e] at h; exact absurd h.1 (by decide)), h.2.1, allDig.mp h.2.2⟩
theorem isNum_num {n : Nat} (h : n < 10 ^ 12) : isNumL (TL.numL n) = true := by
  unfold isNumL
  have h1 := TL.numL_len (k := 12) (by decide) h
  have h2 : 1 ≤ (TL.numL n).length := by
    cases e : TL.numL n with
    | nil => exact absurd e (TL.numL_ne n)
    | cons x r => rw [List.length_cons]; omega
  rw [decide_eq_true h1, decide_eq_true h2, allDig.mpr (TL.numL_digits n)]
  rfl
theorem val_num (n : Nat) : valL (TL.numL n) = n := by
  unfold valL; rw [TL.numL_val]
theorem body_num {n : Nat} {r : List Nat} : bodyL (TL.numL n ++ r) = TL.numL n ++ r ∧ sw 45 (TL.numL n ++ r) = false := by
  cases e : TL.numL n with
  | nil => exact absurd e (TL.numL_ne n)
  | cons x z =>
    have d := TL.numL_digits n x (by rw [e]; simp)
    have ne : ¬ x = 45 := by omega
    exact ⟨if_neg ne, decide_eq_false ne⟩
theorem nw_whole (n : Nat) : nwL (TL.numL n) = (TL.numL n, [48], [49]) := if_neg (TL.numL_free (.inl (by decide)))
theorem nw_part (n m : Nat) : nwL (TL.numL n ++ 47 :: TL.numL m) = ([48], TL.numL n, TL.numL m) := by
  unfold nwL
  have h : 32 ∉ TL.numL n ++ 47 :: TL.numL m := by
    intro z
    rcases List.mem_append.mp z with z | z
    · exact TL.numL_free (.inl (by decide)) z
    · rcases List.mem_cons.mp z with z | z
      · exact absurd z (by decide)
      · exact TL.numL_free (.inl (by decide)) z
  rw [if_pos (by simp), lastSplit_no h]
  show ([48], (slashL (TL.numL n ++ 47 :: TL.numL m)).1, (slashL (TL.numL n ++ 47 :: TL.numL m)).2) = _
  unfold slashL
  rw [firstSplit_app (TL.numL_free (.inl (by decide)))]
theorem nw_both (w n m : Nat) : nwL (TL.numL w ++ 32 :: (TL.numL n ++ 47 :: TL.numL m)) = (TL.numL w, TL.numL n, TL.numL m) := by
  unfold nwL
  have h : 32 ∉ TL.numL n ++ 47 :: TL.numL m := by
    intro z
    rcases List.mem_append.mp z with z | z
    · exact TL.numL_free (.inl (by decide)) z
    · rcases List.mem_cons.mp z with z | z
      · exact absurd z (by decide)
      · exact TL.numL_free (.inl (by decide)) z
  rw [if_pos (by simp), lastSplit_app h]
  show (TL.numL w, (slashL (TL.numL n ++ 47 :: TL.numL m)).1, (slashL (TL.numL n ++ 47 :: TL.numL m)).2) = _
  unfold slashL
  rw [firstSplit_app (TL.numL_free (.inl (by decide)))]
/-! ### the text of a Measure by its signs -/
theorem tl_iT (n : Nat) : TL.tl (iT (n : Int)) = TL.numL n := TL.tl_num n
def wL (a u : Nat) : List Nat := if a % u = 0 then TL.numL (a / u) else if a / u = 0 then TL.numL (a % u) ++ 47 :: TL.numL u else TL.numL (a / u) ++ 32 :: (TL.numL (a % u) ++ 47 :: TL.numL u)
theorem tl_wTxt {a u : Nat} : TL.tl (wTxt (a : Int) (u : Int)) = wL a u := by
  unfold wTxt wL
  have e1 : ((a : Int) % (u : Int)) = ((a % u : Nat) : Int) := by first | rfl | simp
  have e2 : ((a : Int) / (u : Int)) = ((a / u : Nat) : Int) := by first | rfl | simp
  rw [e1, e2]
  by_cases h1 : a % u = 0
  · rw [if_pos (by omega), if_pos h1]
    exact tl_iT _
  · rw [if_neg (by omega), if_neg h1]
    have es : TL.tl Str.empty = [] := rfl
    have e47 : TL.tl (Str.ofString "/") = [47] := by decide +kernel
    have e32 : TL.tl (Str.ofString " ") = [32] := by decide +kernel
    by_cases h2 : a / u = 0
    · rw [if_pos (by omega), if_pos h2]
      show TL.tl (Str.empty ++ iT _ ++ Str.ofString "/" ++ iT _) = _
      simp only [TL.tl_append, tl_iT, es, e47]
      simp
    · rw [if_neg (by omega), if_neg h2]
      show TL.tl (Str.empty ++ iT _ ++ Str.ofString " " ++ iT _ ++ Str.ofString "/" ++ iT _) = _
      simp only [TL.tl_append, tl_iT, es, e47, e32]
      simp
def mL (t u : Int) : List Nat := if t < 0 then 45 :: wL t.natAbs u.natAbs else wL t.natAbs u.natAbs
theorem tl_mTxt {t u : Int} (hu : 0 < u) : TL.tl (mTxt t u) = mL t u := by
  unfold mTxt mL
  have eu : u = ((u.natAbs : Nat) : Int) := by omega
  by_cases h : t < 0
  · rw [if_pos h, if_pos h]
    have et : -t = ((t.natAbs : Nat) : Int) := by omega
    have es : TL.tl Str.empty = [] := rfl
    have e45 : TL.tl (Str.ofString "-") = [45] := by decide +kernel
    show TL.tl (Str.empty ++ Str.ofString "-" ++ wTxt (-t) u) = _
    rw [et, TL.tl_append, TL.tl_append, es, e45]
    conv => lhs; rw [eu]
    rw [tl_wTxt]
    simp
  · rw [if_neg h, if_neg h]
    have et : t = ((t.natAbs : Nat) : Int) := by omega
    conv => lhs; rw [et, eu]
    exact tl_wTxt
theorem mTxt_S {t u : Int} (hu : 0 < u) : mTxt t u = St8 (mL t u) := TL.ext_tl (tl_mTxt hu)
theorem w_div {a u : Nat} (hu : 0 < u) (co : Nat.gcd a u = 1) (h : a % u = 0) : u = 1 := by
  have d : u ∣ a := Nat.dvd_of_mod_eq_zero h
  have : Nat.gcd a u = u := Nat.gcd_eq_right d
  omega
/-- what is written is read as it was -/
theorem loose_mL {t u : Int} (hu : 0 < u) (co : Int.gcd t u = 1) (s1 : t.natAbs / u.natAbs < 10 ^ 12) (s2 : u.natAbs < 10 ^ 12) : looseL (mL t u) = some (t, u) := by
  have hu' : 0 < u.natAbs := by omega
  have co' : Nat.gcd t.natAbs u.natAbs = 1 := co
  have eu : ((u.natAbs : Nat) : Int) = u := by omega
  -- the words of the body
  have key : ∃ W T U : Nat, nwL (wL t.natAbs u.natAbs) = (TL.numL W, TL.numL T, TL.numL U) ∧ W < 10 ^ 12 ∧ T < 10 ^ 12 ∧ U < 10 ^ 12 ∧ U = u.natAbs ∧ W * U + T = t.natAbs := by
    have dm := Nat.div_add_mod t.natAbs u.natAbs
    have lt := Nat.mod_lt t.natAbs hu'
    unfold wL
    by_cases h1 : t.natAbs % u.natAbs = 0
    · rw [if_pos h1]
      have e1 := w_div hu' co' h1
      refine ⟨t.natAbs / u.natAbs, 0, 1, nw_whole _, s1, by decide, by decide, e1.symm, ?_⟩
      rw [e1, Nat.div_one, Nat.mul_one, Nat.add_zero]
    · rw [if_neg h1]
      by_cases h2 : t.natAbs / u.natAbs = 0
      · rw [if_pos h2]
        refine ⟨0, t.natAbs % u.natAbs, u.natAbs, nw_part _ _, by decide, by omega, s2, rfl, ?_⟩
        rw [h2, Nat.mul_zero] at dm
        omega
      · rw [if_neg h2]
        refine ⟨t.natAbs / u.natAbs, t.natAbs % u.natAbs, u.natAbs, nw_both _ _ _, s1, by omega, s2, rfl, ?_⟩
        rw [Nat.mul_comm]
        exact dm
  have head : ∃ n r, wL t.natAbs u.natAbs = TL.numL n ++ r := by
    unfold wL
    split
    · exact ⟨_, [], (List.append_nil _).symm⟩
    · split
      · exact ⟨_, _, rfl⟩
      · exact ⟨_, _, rfl⟩
  obtain ⟨W, T, U, hk, w1, w2, w3, eU, eT'⟩ := key
  obtain ⟨n, r, hr⟩ := head
  have bd := body_num (n := n) (r := r)
  rw [← hr] at bd
  have fin : ∀ l s, bodyL l = wL t.natAbs u.natAbs → sw 45 l = s → ((if s then -1 else 1) * (t.natAbs : Int) = t) → looseL l = some (t, u) := by
    intro l s h1 h2 h3
    unfold looseL
    rw [h1, hk]
    show (if isNumL (TL.numL W) && (isNumL (TL.numL T) && isNumL (TL.numL U)) then if valL (TL.numL U) = 0 then none else some ((if sw 45 l then -1 else 1) * (valL (TL.numL W) * valL (TL.numL U) + valL (TL.numL T)), valL (TL.numL U)) else none) = _
    rw [isNum_num w1, isNum_num w2, isNum_num w3, val_num, val_num, val_num, h2, if_pos (by rfl), if_neg (by omega)]
    have e1 : (W : Int) * (U : Int) + (T : Int) = (t.natAbs : Int) := by
      have := congrArg (fun z : Nat => (z : Int)) eT'
      simpa using this
    rw [e1, h3, eU, eu]
  unfold mL
  by_cases h : t < 0
  · rw [if_pos h]
    exact fin (45 :: wL t.natAbs u.natAbs) true rfl rfl (by rw [if_pos rfl]; omega)
  · rw [if_neg h]
    exact fin _ false bd.1 bd.2 (by rw [if_neg (by decide)]; omega)
end My
namespace My
open PySem PySem.Spec PyProof.Rows L2
/-! ### list.count(True) of truths -/
def eqb (v : Value) : Bool := match v with
  | .bool b => b
  | _ => false
def rCntB (K : PySem.W.Frag) : V → List V → Hp → VK → Prop := fun x xs H Q => ∃ (p : Addr) (bs : List Bool), x = .ref p ∧ xs = [.bl true] ∧ SqL K H p (bs.map V.bl) ∧ Q (.int (bs.countP id : Nat)) H
theorem eqb_count : ∀ (bs : List Bool), (bs.map Value.bool).countP eqb = bs.countP id
  | [] => rfl
  | b :: r => by
    rw [List.map_cons, List.countP_cons, List.countP_cons, eqb_count r] <;> rfl
theorem mt_countB {X : Cx} : MtR X "list.count" (rCntB X.K) := by
  intro pins s σ H x xs v us Q I rx rxs h
  obtain ⟨p, bs, rfl, rfl, hs, q⟩ := h
  cases rx
  obtain ⟨u, rfl, ru⟩ := rxs.one
  cases (show u = Value.bool true from ru)
  obtain ⟨its, rv, ⟨⟨cls, dd, data, sl⟩, n, ho, hc, hdn, hd⟩, hlen⟩ := I.list hs
  simp only at hc hd
  subst hc hd
  have hi := Vals.bls rv
  subst hi
  refine call_meets PySem.F.slot_list_count ⟨_, ho, rfl⟩ PySem.F.entry_list_count (PySem.F.args_list_count_2 _ _)
    (SeqAt.list_countAt p (bs.map Value.bool).toArray n dd sl (.bool true) eqb) ⟨ho, fun y hy => ?_, ?_⟩
  · have hy : y ∈ bs.map Value.bool := by simpa using hy
    obtain ⟨b, _, rfl⟩ := List.mem_map.mp hy
    have e := SeqAt.EqAt.bool_bool (A := X.A.in1) (s := s) b true
    have e2 : (b == true) = eqb (.bool b) := by cases b <;> rfl
    rw [e2] at e
    exact e
  · have ec : (bs.map Value.bool).toArray.toList.countP eqb = bs.countP id := eqb_count bs
    refine ⟨.int (bs.countP id : Nat), H, I.tok _, ⟨s.toks, ?_⟩, q⟩
    show Value.int (((bs.map Value.bool).toArray.toList.countP eqb : Nat) : Int) s.toks = Value.int ((bs.countP id : Nat) : Int) s.toks
    rw [ec]
/-! ### Measures as fractions -/
theorem co_eq {a b : Q2} (h1 : 0 < a.2) (c1 : Int.gcd a.1 a.2 = 1) (g1 : 0 < b.2) (c2 : Int.gcd b.1 b.2 = 1) (e : a.1 * b.2 = b.1 * a.2) : a = b := by
  have d1 : a.2 ∣ b.2 := by
    have : a.2 ∣ a.1 * b.2 := ⟨b.1, by rw [e, Int.mul_comm]⟩
    exact dvd_co this (by rw [Int.gcd_comm]; exact c1)
  have d2 : b.2 ∣ a.2 := by
    have : b.2 ∣ b.1 * a.2 := ⟨a.1, by rw [← e, Int.mul_comm]⟩
    exact dvd_co this (by rw [Int.gcd_comm]; exact c2)
  have e2 : a.2 = b.2 := Int.le_antisymm (Int.le_of_dvd g1 d1) (Int.le_of_dvd h1 d2)
  rw [e2] at e
  exact Prod.ext (Int.eq_of_mul_eq_mul_right (by omega) e) e2
theorem fr_of {t u A B : Int} (hu : 0 < u) (co : Int.gcd t u = 1) (hB : 0 < B) (e : t * B = A * u) : Fr t u A B := by
  have co' : Int.gcd u t = 1 := by rw [Int.gcd_comm]; exact co
  have d2 : u ∣ B := dvd_co (b := t) ⟨A, by rw [e, Int.mul_comm]⟩ co'
  obtain ⟨k, hk⟩ := d2
  have k0 : 0 < k := by
    rcases Int.lt_or_le 0 k with z | z
    · exact z
    · have := Int.mul_nonneg_of_nonpos_of_nonpos (show -u ≤ 0 by omega) z
      have e2 : -u * k = -(u * k) := Int.neg_mul ..
      omega
  have e1 : A = t * k := by
    have : A * u = (t * k) * u := by
      rw [← e, hk]
      simp only [Int.mul_assoc, Int.mul_comm, Int.mul_left_comm]
    exact Int.eq_of_mul_eq_mul_right (by omega) this
  refine ⟨hu, e, co, ?_, ?_⟩
  · rw [e1, Int.natAbs_mul]
    exact Nat.le_mul_of_pos_right _ (by omega)
  · rw [hk, Int.natAbs_mul]
    exact Nat.le_mul_of_pos_right _ (by omega)
def qadd (x y : Q2) : Q2 := (x.1 * y.2 + y.1 * x.2, x.2 * y.2)
def qsub (x y : Q2) : Q2 := (x.1 * y.2 - y.1 * x.2, x.2 * y.2)
def qmul (x y : Q2) : Q2 := (x.1 * y.1, x.2 * y.2)
def qprt (x : Q2) (m : Int) : Q2 := (x.1 * sgn m, x.2 * (m * sgn m))
def qmk (a b : Int) : Q2 := (a * sgn b, b * sgn b)
theorem sgn_pos {m : Int} (h : m ≠ 0) : 0 < m * sgn m := by
  unfold sgn; split
  · omega
  · rw [Int.mul_neg_one]; omega
structure QAt (C : Addr) (H : Hp) (p : Addr) (k : Nat) (x : Q2) : Prop where
  ob : ∃ t u, MAt C H p t u ∧ Fr t u x.1 x.2
  pos : 0 < x.2
  s1 : Sz k x.1
  s2 : Sz k x.2
theorem QAt.same {C p : Addr} {H H' : Hp} {k : Nat} {x : Q2} (h : QAt C H p k x) (s : Same H H') : QAt C H' p k x := by
  obtain ⟨⟨t, u, m, f⟩, h1, h2, h3⟩ := h
  exact ⟨⟨t, u, m.same s, f⟩, h1, h2, h3⟩
theorem QAt.mono {C p : Addr} {H : Hp} {k j : Nat} {x : Q2} (h : QAt C H p k x) (l : k ≤ j) : QAt C H p j x := ⟨h.ob, h.pos, h.s1.mono l, h.s2.mono l⟩
theorem QAt.kp {C p hd : Addr} {H H' : Hp} {n k : Nat} {x : Q2} (h : QAt C H p k x) (hh : HandAt H hd n) (s : Kp hd H H') : QAt C H' p k x := by
  obtain ⟨⟨t, u, m, f⟩, h1, h2, h3⟩ := h
  exact ⟨⟨t, u, m.kp hh s, f⟩, h1, h2, h3⟩
theorem QAt.nl {C p : Addr} {H H' : Hp} {k : Nat} {x : Q2} (h : QAt C H p k x) (s : Nl H H') : QAt C H' p k x := by
  obtain ⟨⟨t, u, ⟨d, m⟩, f⟩, h1, h2, h3⟩ := h
  exact ⟨⟨t, u, ⟨d, s _ _ m rfl⟩, f⟩, h1, h2, h3⟩
section
variable {C p q : Addr} {H : Hp} {Q : VK} {E : XK} {k j : Nat} {x y : Q2}
theorem QAt.raw (h : QAt C H p k x) {m : Str} (h1 : ¬ m = "top") (h2 : ¬ m = "bottom") : ∃ dx fs, H p = some (.ins C dx fs) ∧ fs.lookup m = none := by
  obtain ⟨⟨t, u, ⟨d, m⟩, f⟩, _⟩ := h
  exact ⟨d, _, m, mf_no _ _ h1 h2⟩
theorem q_add (hx : QAt C H p k x) (hy : QAt C H q j y) (l : k + j ≤ 8900) (l0 : 0 < k) (l1 : 0 < j) (f : ∀ (r : Addr) (H' : Hp), Same H H' → QAt C H' r (k + j + 1) (qadd x y) → Q (.ref r) H') :
    sp_bin2 C (fun t u t' u' => t * u' + t' * u) (fun t u t' u' => u * u') [.ref p, .ref q] H Q E := by
  obtain ⟨⟨t, u, m1, f1⟩, px, a1, a2⟩ := hx
  obtain ⟨⟨t', u', m2, f2⟩, py, b1, b2⟩ := hy
  refine ⟨p, q, t, u, t', u', rfl, m1, m2, f1.pos, f2.pos, (a1.le f1.lt).mono (by omega), (a2.le f1.lu).mono (by omega), (b1.le f2.lt).mono (by omega), (b2.le f2.lu).mono (by omega), ((a2.le f1.lu).mul (b2.le f2.lu)).mono (by omega), fun r t2 u2 H' _ s m f3 => ?_⟩
  refine f r H' s ⟨⟨t2, u2, m, fr_of f3.pos f3.co (Int.mul_pos px py) ?_⟩, Int.mul_pos px py, (a1.mul b2).add ((b1.mul a2).mono (by omega)), (a2.mul b2).mono (by omega)⟩
  have e1 := f1.eq
  have e2 := f2.eq
  have e3 := f3.eq
  have z : (t2 * (x.2 * y.2)) * (u * u') = ((x.1 * y.2 + y.1 * x.2) * u2) * (u * u') := by
    have : (t2 * (x.2 * y.2)) * (u * u') = (t2 * (u * u')) * (x.2 * y.2) := by grind
    rw [this, e3]
    have w1 : (t * u' + t' * u) * u2 * (x.2 * y.2) = ((t * x.2) * u' * y.2 + (t' * y.2) * u * x.2) * u2 := by grind
    rw [w1, e1, e2]
    grind
  have pu := Int.mul_pos f1.pos f2.pos
  exact Int.eq_of_mul_eq_mul_right (by omega) z
theorem q_sub (hx : QAt C H p k x) (hy : QAt C H q j y) (l : k + j ≤ 8900) (l0 : 0 < k) (l1 : 0 < j) (f : ∀ (r : Addr) (H' : Hp), Same H H' → QAt C H' r (k + j + 1) (qsub x y) → Q (.ref r) H') :
    sp_bin2 C (fun t u t' u' => t * u' - t' * u) (fun t u t' u' => u * u') [.ref p, .ref q] H Q E := by
  obtain ⟨⟨t, u, m1, f1⟩, px, a1, a2⟩ := hx
  obtain ⟨⟨t', u', m2, f2⟩, py, b1, b2⟩ := hy
  refine ⟨p, q, t, u, t', u', rfl, m1, m2, f1.pos, f2.pos, (a1.le f1.lt).mono (by omega), (a2.le f1.lu).mono (by omega), (b1.le f2.lt).mono (by omega), (b2.le f2.lu).mono (by omega), ((a2.le f1.lu).mul (b2.le f2.lu)).mono (by omega), fun r t2 u2 H' _ s m f3 => ?_⟩
  refine f r H' s ⟨⟨t2, u2, m, fr_of f3.pos f3.co (Int.mul_pos px py) ?_⟩, Int.mul_pos px py, (a1.mul b2).sub ((b1.mul a2).mono (by omega)), (a2.mul b2).mono (by omega)⟩
  have e1 := f1.eq
  have e2 := f2.eq
  have e3 := f3.eq
  have z : (t2 * (x.2 * y.2)) * (u * u') = ((x.1 * y.2 - y.1 * x.2) * u2) * (u * u') := by
    have : (t2 * (x.2 * y.2)) * (u * u') = (t2 * (u * u')) * (x.2 * y.2) := by grind
    rw [this, e3]
    have w1 : (t * u' - t' * u) * u2 * (x.2 * y.2) = ((t * x.2) * u' * y.2 - (t' * y.2) * u * x.2) * u2 := by grind
    rw [w1, e1, e2]
    grind
  have pu := Int.mul_pos f1.pos f2.pos
  exact Int.eq_of_mul_eq_mul_right (by omega) z
theorem q_mul (hx : QAt C H p k x) (hy : QAt C H q j y) (l : k + j ≤ 8900) (l0 : 0 < k) (l1 : 0 < j) (f : ∀ (r : Addr) (H' : Hp), Same H H' → QAt C H' r (k + j + 1) (qmul x y) → Q (.ref r) H') :
    sp_bin2 C (fun t u t' u' => t * t') (fun t u t' u' => u * u') [.ref p, .ref q] H Q E := by
  obtain ⟨⟨t, u, m1, f1⟩, px, a1, a2⟩ := hx
  obtain ⟨⟨t', u', m2, f2⟩, py, b1, b2⟩ := hy
  refine ⟨p, q, t, u, t', u', rfl, m1, m2, f1.pos, f2.pos, (a1.le f1.lt).mono (by omega), (a2.le f1.lu).mono (by omega), (b1.le f2.lt).mono (by omega), (b2.le f2.lu).mono (by omega), ((a2.le f1.lu).mul (b2.le f2.lu)).mono (by omega), fun r t2 u2 H' _ s m f3 => ?_⟩
  refine f r H' s ⟨⟨t2, u2, m, fr_of f3.pos f3.co (Int.mul_pos px py) ?_⟩, Int.mul_pos px py, (a1.mul b1).mono (by omega), (a2.mul b2).mono (by omega)⟩
  have e1 := f1.eq
  have e2 := f2.eq
  have e3 := f3.eq
  have z : (t2 * (x.2 * y.2)) * (u * u') = ((x.1 * y.1) * u2) * (u * u') := by
    have : (t2 * (x.2 * y.2)) * (u * u') = (t2 * (u * u')) * (x.2 * y.2) := by grind
    rw [this, e3]
    have w1 : (t * t') * u2 * (x.2 * y.2) = (t * x.2) * (t' * y.2) * u2 := by grind
    rw [w1, e1, e2]
    grind
  have pu := Int.mul_pos f1.pos f2.pos
  exact Int.eq_of_mul_eq_mul_right (by omega) z
theorem q_prt {m : Int} (hx : QAt C H p k x) (hm : m ≠ 0) (sm : Sz j m) (l : k + j ≤ 8900) (l0 : 0 < k) (l1 : 0 < j) (f : ∀ (r : Addr) (H' : Hp), Same H H' → QAt C H' r (k + j + 1) (qprt x m) → Q (.ref r) H') :
    sp_part2 C [.ref p, .int m] H Q E := by
  obtain ⟨⟨t, u, m1, f1⟩, px, a1, a2⟩ := hx
  have pm := sgn_pos hm
  have sgnN : (sgn m).natAbs = 1 := by rcases sgn_cases m with e | e <;> rw [e] <;> rfl
  refine ⟨p, t, u, m, rfl, m1, f1.pos, hm, (a1.le f1.lt).mono (by omega), (a2.le f1.lu).mono (by omega), sm.mono (by omega), ((a2.le f1.lu).mul sm).mono (by omega), fun r t2 u2 H' _ s mm f3 => ?_⟩
  have z1 : Sz (k + j + 1) (x.1 * sgn m) := (a1.le (y := x.1 * sgn m) (by rw [Int.natAbs_mul, sgnN, Nat.mul_one]; exact Nat.le_refl _)).mono (by omega)
  have z2 : Sz j (m * sgn m) := sm.le (by rw [Int.natAbs_mul, sgnN, Nat.mul_one]; exact Nat.le_refl _)
  refine f r H' s ⟨⟨t2, u2, mm, fr_of f3.pos f3.co (Int.mul_pos px pm) ?_⟩, Int.mul_pos px pm, z1, (a2.mul z2).mono (by omega)⟩
  have e1 := f1.eq
  have e3 := f3.eq
  have hu := f1.pos
  have z : (t2 * (x.2 * (m * sgn m))) * u = ((x.1 * sgn m) * u2) * u := by
    have w0 : (t2 * (x.2 * (m * sgn m))) * u = (t2 * (u * m)) * x.2 * sgn m := by grind
    rw [w0, e3]
    have w1 : t * u2 * x.2 * sgn m = (t * x.2) * u2 * sgn m := by grind
    rw [w1, e1]
    grind
  exact Int.eq_of_mul_eq_mul_right (by omega) z
theorem q_mk {a b t u : Int} {H' : Hp} (m : MAt C H' p t u) (f : Fr t u a b) (hb : b ≠ 0) (sa : Sz k a) (sb : Sz k b) : QAt C H' p k (qmk a b) := by
  have pm := sgn_pos hb
  have sgnN : (sgn b).natAbs = 1 := by rcases sgn_cases b with e | e <;> rw [e] <;> rfl
  refine ⟨⟨t, u, m, fr_of f.pos f.co pm ?_⟩, pm, sa.le (by show (a * sgn b).natAbs ≤ _; rw [Int.natAbs_mul, sgnN, Nat.mul_one]; exact Nat.le_refl _), sb.le (by show (b * sgn b).natAbs ≤ _; rw [Int.natAbs_mul, sgnN, Nat.mul_one]; exact Nat.le_refl _)⟩
  show t * (b * sgn b) = a * sgn b * u
  have e := f.eq
  have : t * (b * sgn b) = (t * b) * sgn b := by grind
  rw [this, e]
  grind
theorem q_below {al : Bool} (hx : QAt C H p k x) (hy : QAt C H q j y) (l : k ≤ 9000) (l1 : j ≤ 9000) (f : Q (.bl (ltq x y || (al && eqq x y))) H) : sp_below C [.ref p, .ref q, .bl al] H Q E := by
  obtain ⟨⟨t, u, m1, f1⟩, px, a1, a2⟩ := hx
  obtain ⟨⟨t', u', m2, f2⟩, py, b1, b2⟩ := hy
  refine ⟨p, q, t, u, t', u', al, rfl, m1, m2, (a1.le f1.lt).mono l, (a2.le f1.lu).mono l, (b1.le f2.lt).mono l1, (b2.le f2.lu).mono l1, ?_⟩
  have r1 : Re (t, u) x := ⟨f1.pos, px, f1.eq⟩
  have r2 : Re (t', u') y := ⟨f2.pos, py, f2.eq⟩
  have e : lessA t u t' u' al = (ltq x y || (al && eqq x y)) := by
    rw [← ltq_congr r1 r2, ← eqq_congr r1 r2]
    rfl
  rw [e]
  exact f
theorem fr_eqq {t u t' u' : Int} (f1 : Fr t u x.1 x.2) (f2 : Fr t' u' y.1 y.2) (px : 0 < x.2) (py : 0 < y.2) : (decide (t = t') && decide (u = u')) = eqq x y := by
  have r1 : Re (t, u) x := ⟨f1.pos, px, f1.eq⟩
  have r2 : Re (t', u') y := ⟨f2.pos, py, f2.eq⟩
  rw [← eqq_congr r1 r2]
  unfold eqq
  by_cases e : t * u' = t' * u
  · rw [decide_eq_true (show (t, u).1 * (t', u').2 = (t', u').1 * (t, u).2 from e)]
    have z := co_eq (a := (t, u)) (b := (t', u')) f1.pos f1.co f2.pos f2.co e
    obtain ⟨rfl, rfl⟩ := Prod.mk.inj z
    simp
  · rw [decide_eq_false (show ¬ (t, u).1 * (t', u').2 = (t', u').1 * (t, u).2 from e)]
    cases z1 : decide (t = t') with
    | false => rfl
    | true =>
      cases z2 : decide (u = u') with
      | false => rfl
      | true => exact absurd (by rw [of_decide_eq_true z1, of_decide_eq_true z2]) e
theorem q_like (hx : QAt C H p k x) (hy : QAt C H q j y) : Like C H p (.ref q) (eqq x y) := by
  obtain ⟨⟨t, u, m1, f1⟩, px, _⟩ := hx
  obtain ⟨⟨t', u', m2, f2⟩, py, _⟩ := hy
  rw [← fr_eqq f1 f2 px py]
  exact .ms m1 m2
end
/-! the same, behind the arguments -/
section
variable {C p q : Addr} {H : Hp} {Q : VK} {E : XK} {k j : Nat} {x y : Q2} {σ : L2.St}
theorem q_addT (hx : QAt C H p k x) (hy : QAt C H q j y) (l : k + j ≤ 8900) (l0 : 0 < k) (l1 : 0 < j) (f : ∀ (r : Addr) (H' : Hp), Same H H' → QAt C H' r (k + j + 1) (qadd x y) → Q (.ref r) H') :
    tNil σ H (fun xs H2 => sp_bin2 C (fun t u t' u' => t * u' + t' * u) (fun t u t' u' => u * u') (.ref p :: ((.ref q :: xs) ++ [])) H2 Q E) := q_add (E := E) hx hy l l0 l1 f
theorem q_subT (hx : QAt C H p k x) (hy : QAt C H q j y) (l : k + j ≤ 8900) (l0 : 0 < k) (l1 : 0 < j) (f : ∀ (r : Addr) (H' : Hp), Same H H' → QAt C H' r (k + j + 1) (qsub x y) → Q (.ref r) H') :
    tNil σ H (fun xs H2 => sp_bin2 C (fun t u t' u' => t * u' - t' * u) (fun t u t' u' => u * u') (.ref p :: ((.ref q :: xs) ++ [])) H2 Q E) := q_sub (E := E) hx hy l l0 l1 f
theorem q_mulT (hx : QAt C H p k x) (hy : QAt C H q j y) (l : k + j ≤ 8900) (l0 : 0 < k) (l1 : 0 < j) (f : ∀ (r : Addr) (H' : Hp), Same H H' → QAt C H' r (k + j + 1) (qmul x y) → Q (.ref r) H') :
    tNil σ H (fun xs H2 => sp_bin2 C (fun t u t' u' => t * t') (fun t u t' u' => u * u') (.ref p :: ((.ref q :: xs) ++ [])) H2 Q E) := q_mul (E := E) hx hy l l0 l1 f
theorem q_prtT {m : Int} (hx : QAt C H p k x) (hm : m ≠ 0) (sm : Sz j m) (l : k + j ≤ 8900) (l0 : 0 < k) (l1 : 0 < j) (f : ∀ (r : Addr) (H' : Hp), Same H H' → QAt C H' r (k + j + 1) (qprt x m) → Q (.ref r) H') :
    tNil σ H (fun xs H2 => sp_part2 C (.ref p :: ((.int m :: xs) ++ [])) H2 Q E) := q_prt (E := E) hx hm sm l l0 l1 f
theorem q_prt2T (hx : QAt C H p k x) (l : k + 10 ≤ 8900) (l0 : 0 < k) (f : ∀ (r : Addr) (H' : Hp), Same H H' → QAt C H' r (k + 10 + 1) (qprt x 2) → Q (.ref r) H') :
    tNil σ H (fun xs H2 => sp_part2 C (.ref p :: (xs ++ [.int 2])) H2 Q E) := q_prt (E := E) (j := 10) hx (by decide) (by decide) l l0 (by decide) f
theorem q_belowT (hx : QAt C H p k x) (hy : QAt C H q j y) (l : k ≤ 9000) (l1 : j ≤ 9000) (f : Q (.bl (ltq x y)) H) :
    tNil σ H (fun xs H2 => sp_below C (.ref p :: ((.ref q :: xs) ++ [.bl false])) H2 Q E) := q_below (E := E) (al := false) hx hy l l1 (by rw [Bool.false_and, Bool.or_false]; exact f)
theorem q_belowA (hx : QAt C H p k x) (hy : QAt C H q j y) (l : k ≤ 9000) (l1 : j ≤ 9000) (f : Q (.bl (ltq x y || eqq x y)) H) :
    tCons (tC (.bl true)) tNil σ H (fun xs H2 => sp_below C (.ref p :: ((.ref q :: xs) ++ [])) H2 Q E) := q_below (E := E) (al := true) hx hy l l1 (by rw [Bool.true_and]; exact f)
end
/-! ### sums keep the order; the midst lies between -/
theorem ltq_addr {x y z : Q2} (hz : 0 < z.2) : ltq (qadd x z) (qadd y z) = ltq x y := by
  unfold ltq qadd
  refine decide_eq_decide.mpr ?_
  have p : 0 < z.2 * z.2 := Int.mul_pos hz hz
  have e1 : (x.1 * z.2 + z.1 * x.2) * (y.2 * z.2) = (x.1 * y.2) * (z.2 * z.2) + z.1 * x.2 * y.2 * z.2 := by grind
  have e2 : (y.1 * z.2 + z.1 * y.2) * (x.2 * z.2) = (y.1 * x.2) * (z.2 * z.2) + z.1 * x.2 * y.2 * z.2 := by grind
  show (x.1 * z.2 + z.1 * x.2) * (y.2 * z.2) < (y.1 * z.2 + z.1 * y.2) * (x.2 * z.2) ↔ _
  rw [e1, e2]
  constructor
  · intro h
    exact Int.lt_of_mul_lt_mul_right (Int.lt_of_add_lt_add_right h) (Int.le_of_lt p)
  · intro h
    exact Int.add_lt_add_right (Int.mul_lt_mul_of_pos_right h p) _
def qhalf (x y : Q2) : Q2 := qprt (qadd x y) 2
theorem qhalf_eq (x y : Q2) : qhalf x y = (x.1 * y.2 + y.1 * x.2, x.2 * y.2 * 2) := by
  unfold qhalf qprt qadd
  have : sgn 2 = 1 := by decide
  rw [this, Int.mul_one, Int.mul_one]
theorem half_lo {x y : Q2} (hx : 0 < x.2) (hy : 0 < y.2) : ltq x (qhalf x y) = ltq x y ∧ ltq (qhalf x y) y = ltq x y ∧ eqq (qhalf x y) x = eqq x y ∧ eqq x (qhalf x y) = eqq x y := by
  rw [qhalf_eq]
  unfold ltq eqq
  have e1 : x.1 * (x.2 * y.2 * 2) = (2 * (x.1 * y.2)) * x.2 := by grind
  have e2 : (x.1 * y.2 + y.1 * x.2) * x.2 = (x.1 * y.2 + y.1 * x.2) * x.2 := rfl
  have e3 : y.1 * (x.2 * y.2 * 2) = (2 * (y.1 * x.2)) * y.2 := by grind
  refine ⟨decide_eq_decide.mpr ?_, decide_eq_decide.mpr ?_, decide_eq_decide.mpr ?_, decide_eq_decide.mpr ?_⟩
  · show x.1 * (x.2 * y.2 * 2) < (x.1 * y.2 + y.1 * x.2) * x.2 ↔ _
    rw [e1]
    exact ⟨fun h => by have := Int.lt_of_mul_lt_mul_right h (Int.le_of_lt hx); omega, fun h => Int.mul_lt_mul_of_pos_right (by omega) hx⟩
  · show (x.1 * y.2 + y.1 * x.2) * y.2 < y.1 * (x.2 * y.2 * 2) ↔ _
    rw [e3]
    exact ⟨fun h => by have := Int.lt_of_mul_lt_mul_right h (Int.le_of_lt hy); omega, fun h => Int.mul_lt_mul_of_pos_right (by omega) hy⟩
  · show (x.1 * y.2 + y.1 * x.2) * x.2 = x.1 * (x.2 * y.2 * 2) ↔ _
    rw [e1]
    exact ⟨fun h => by have := Int.eq_of_mul_eq_mul_right (by omega) h; omega, fun h => by rw [h]; grind⟩
  · show x.1 * (x.2 * y.2 * 2) = (x.1 * y.2 + y.1 * x.2) * x.2 ↔ _
    rw [e1]
    exact ⟨fun h => by have := Int.eq_of_mul_eq_mul_right (by omega) h; omega, fun h => by rw [h]; grind⟩
theorem half_hi {x y : Q2} (hx : 0 < x.2) (hy : 0 < y.2) : ltq y (qhalf x y) = ltq y x ∧ ltq (qhalf x y) x = ltq y x := by
  rw [qhalf_eq]
  unfold ltq
  have e1 : x.1 * (x.2 * y.2 * 2) = (2 * (x.1 * y.2)) * x.2 := by grind
  have e3 : y.1 * (x.2 * y.2 * 2) = (2 * (y.1 * x.2)) * y.2 := by grind
  refine ⟨decide_eq_decide.mpr ?_, decide_eq_decide.mpr ?_⟩
  · show y.1 * (x.2 * y.2 * 2) < (x.1 * y.2 + y.1 * x.2) * y.2 ↔ _
    rw [e3]
    exact ⟨fun h => by have := Int.lt_of_mul_lt_mul_right h (Int.le_of_lt hy); omega, fun h => Int.mul_lt_mul_of_pos_right (by omega) hy⟩
  · show (x.1 * y.2 + y.1 * x.2) * x.2 < x.1 * (x.2 * y.2 * 2) ↔ _
    rw [e1]
    exact ⟨fun h => by have := Int.lt_of_mul_lt_mul_right h (Int.le_of_lt hx); omega, fun h => Int.mul_lt_mul_of_pos_right (by omega) hx⟩
theorem half_mid (x y : Q2) : eqq (qsub (qhalf x y) x) (qsub y (qhalf x y)) = true ∧ eqq (qsub (qhalf x y) y) (qsub x (qhalf x y)) = true := by
  rw [qhalf_eq]
  constructor
  · refine decide_eq_true ?_
    simp only [qsub]
    grind
  · refine decide_eq_true ?_
    simp only [qsub]
    grind
/-! ### numbers of at most twelve figures -/
theorem dval_lt : ∀ {l : List Nat} {n : Nat}, l.length ≤ n → NumText.AllDigits l → NumText.digitsVal l < 10 ^ n := by
  intro l
  suffices h : ∀ (r : List Nat) (acc : Nat) (k : Nat), acc < 10 ^ k → NumText.AllDigits r → r.foldl (fun acc c => acc * 10 + (c - 48)) acc < 10 ^ (k + r.length) by
    intro n hn hd
    have z := h l 0 0 (by decide) hd
    rw [Nat.zero_add] at z
    exact Nat.lt_of_lt_of_le z (Nat.pow_le_pow_right (by decide) hn)
  intro r
  induction r with
  | nil => intro acc k h _; simpa using h
  | cons c r ih =>
    intro acc k h hd
    have hc := hd.head
    have e : k + (c :: r).length = (k + 1) + r.length := by rw [List.length_cons]; omega
    rw [e, List.foldl_cons]
    refine ih _ _ ?_ hd.tail
    rw [Nat.pow_succ]
    omega
theorem val_lt {l : List Nat} (h : isNumL l = true) : 0 ≤ valL l ∧ valL l < 10 ^ 12 := by
  obtain ⟨_, h2, h3⟩ := isNum_of h
  have := dval_lt h2 h3
  unfold valL
  omega
theorem loose_sz {l : List Nat} {a : Q2} (h : looseL l = some a) : 0 < a.2 ∧ Sz 90 a.1 ∧ Sz 90 a.2 := by
  unfold looseL at h
  revert h
  generalize nwL (bodyL l) = w
  intro h
  by_cases c : (isNumL w.1 && (isNumL w.2.1 && isNumL w.2.2)) = true
  · have h : (if isNumL w.1 && (isNumL w.2.1 && isNumL w.2.2) then if valL w.2.2 = 0 then none else some ((if sw 45 l then -1 else 1) * (valL w.1 * valL w.2.2 + valL w.2.1), valL w.2.2) else none) = some a := h
    rw [if_pos c] at h
    rw [Bool.and_eq_true, Bool.and_eq_true] at c
    obtain ⟨a0, a1⟩ := val_lt c.1
    obtain ⟨b0, b1⟩ := val_lt c.2.1
    obtain ⟨c0, c1⟩ := val_lt c.2.2
    by_cases z : valL w.2.2 = 0
    · rw [if_pos z] at h; cases h
    · rw [if_neg z] at h
      cases h
      have s1 : Sz 40 (valL w.1) := by show (valL w.1).natAbs < 2 ^ 40; omega
      have s2 : Sz 40 (valL w.2.1) := by show (valL w.2.1).natAbs < 2 ^ 40; omega
      have s3 : Sz 40 (valL w.2.2) := by show (valL w.2.2).natAbs < 2 ^ 40; omega
      refine ⟨by show 0 < valL w.2.2; omega, ?_, s3.mono (by decide)⟩
      have s4 : Sz 81 (valL w.1 * valL w.2.2 + valL w.2.1) := (s1.mul s3).add (s2.mono (by decide))
      cases sw 45 l with
      | true =>
        show Sz 90 (-1 * (valL w.1 * valL w.2.2 + valL w.2.1))
        rw [Int.neg_one_mul]
        exact s4.neg.mono (by decide)
      | false =>
        show Sz 90 (1 * (valL w.1 * valL w.2.2 + valL w.2.1))
        rw [Int.one_mul]
        exact s4.mono (by decide)
  · have h : (if isNumL w.1 && (isNumL w.2.1 && isNumL w.2.2) then if valL w.2.2 = 0 then none else some ((if sw 45 l then -1 else 1) * (valL w.1 * valL w.2.2 + valL w.2.1), valL w.2.2) else none) = some a := h
    rw [if_neg c] at h; cases h
theorem int_num12 {l : List Nat} (h : isNumL l = true) : intText? (St8 l) = some (valL l) ∧ (St8 l).length ≤ 640 := by
  obtain ⟨h1, h2, h3⟩ := isNum_of h
  refine ⟨SX.int_S (allDig.mpr h3) h1 (by omega), ?_⟩
  rw [SX.S_len]; omega
/-! ### constants by their signs -/
theorem c_slash : Str.ofString "/" = St8 [47] := by decide +kernel
theorem c_blank : Str.ofString " " = St8 [32] := by decide +kernel
theorem c_minus : Str.ofString "-" = St8 [45] := by decide +kernel
theorem c_nil : Str.ofString "" = St8 [] := by decide +kernel
theorem c_zero : Str.ofString "0" = St8 [48] := by decide +kernel
theorem c_one : Str.ofString "1" = St8 [49] := by decide +kernel
theorem figs_dig (c : Nat) : decide (c ∈ (Str.ofString "0123456789").cps.toList) = dig c := by
  have e : (Str.ofString "0123456789").cps.toList = [48, 49, 50, 51, 52, 53, 54, 55, 56, 57] := by decide +kernel
  rw [e]
  unfold dig
  rw [← Bool.decide_and]
  refine decide_eq_decide.mpr ?_
  simp
  omega
theorem rmp_body (l : List Nat) : Txt.removeprefix (St8 l) (Str.ofString "-") = St8 (bodyL l) := by
  rw [c_minus]
  cases l with
  | nil => exact rmp_no (by simp)
  | cons x r =>
    show _ = St8 (if x = 45 then r else x :: r)
    by_cases h : x = 45
    · rw [if_pos h, h]; exact rmp_yes
    · rw [if_neg h]
      exact rmp_no fun r' e => h (List.cons.inj e).1
theorem sw_minus (l : List Nat) : Txt.startswith (St8 l) (Str.ofString "-") = sw 45 l := by rw [c_minus]; exact sw_of
theorem body_len (l : List Nat) : (bodyL l).length ≤ l.length := by
  cases l with
  | nil => exact Nat.le_refl _
  | cons x r =>
    show (if x = 45 then r else x :: r).length ≤ _
    split
    · rw [List.length_cons]; omega
    · exact Nat.le_refl _
theorem slash_len (l : List Nat) : (slashL l).1.length ≤ l.length ∧ (slashL l).2.length ≤ l.length := by
  unfold slashL
  cases e : firstSplit 47 l with
  | none => exact ⟨Nat.le_refl _, Nat.zero_le _⟩
  | some z =>
    obtain ⟨p, q⟩ := z
    obtain ⟨h, _⟩ := firstSplit_some e
    show p.length ≤ _ ∧ q.length ≤ _
    rw [h, List.length_append, List.length_cons]
    omega
theorem nw_len (l : List Nat) : (nwL l).1.length ≤ l.length + 1 ∧ (nwL l).2.1.length ≤ l.length + 1 ∧ (nwL l).2.2.length ≤ l.length + 1 := by
  unfold nwL
  split
  · cases e : lastSplit 32 l with
    | none =>
      have := slash_len l
      exact ⟨by show 1 ≤ _; omega, by show (slashL l).1.length ≤ _; omega, by show (slashL l).2.length ≤ _; omega⟩
    | some z =>
      obtain ⟨w, p⟩ := z
      obtain ⟨h, _⟩ := lastSplit_some e
      have := slash_len p
      have e2 : l.length = w.length + (p.length + 1) := by rw [h, List.length_append, List.length_cons]
      exact ⟨by show w.length ≤ _; omega, by show (slashL p).1.length ≤ _; omega, by show (slashL p).2.length ≤ _; omega⟩
  · exact ⟨by show l.length ≤ _; omega, by show 1 ≤ _; omega, by show 1 ≤ _; omega⟩
/-! ### a comprehension over a text -/
theorem lcsS {x : Str} {g : TG} {tt : TT} {te : TE} {vs : List Nat} {σ : L2.St} {H1 : Hp} {D : Addr} {Qd : Hp → Prop} (ys : List V) (hlen : ys.length = x.cps.size) (hz : ys.length < sizeLine) (hD : H1 D = none)
    (hs : ∀ (i : Nat) (c : Nat) (y : V) (H : Hp) (N : VK) (M : Hp → Prop), x.cps[i]? = some c → ys[i]? = some y → Same H1 H → (∀ H4, Same H H4 → N y H4) → g (.str ⟨#[c]⟩) (wipe σ vs) H fun σ2 H2 => wipe σ2 vs = wipe σ vs ∧ tt σ2 H2 fun b H3 => if b = true then te σ2 H3 N else M H3)
    (hd : ∀ H, Same H1 H → H D = some (.lst ys) → Qd H) :
    ∃ W : Nat → Nat → Hp → Prop, (∃ m, W 0 m (upd H1 D (.lst []))) ∧ ∀ i m H, W i m H →
      ((Its x).stop i H ∧ Qd H) ∨ ((Its x).go i H ∧ ∃ Nx : Hp → Prop, (∀ H', Nx H' → ∃ m', m' < m ∧ W (i + 1) m' H') ∧ ∀ y H', (Its x).yld i H y H' → g y (wipe σ vs) H' fun σ2 H2 => wipe σ2 vs = wipe σ vs ∧ tt σ2 H2 fun b H3 =>
        if b = true then te σ2 H3 fun y H4 => ∃ acc, H4 D = some (.lst acc) ∧ acc.length < sizeLine ∧ Nx (upd H4 D (.lst (acc ++ [y]))) else Nx H3) := by
  refine ⟨fun i m H => m = ys.length - i ∧ i ≤ ys.length ∧ Same H1 H ∧ H D = some (.lst (ys.take i)), ⟨ys.length, by omega, Nat.zero_le _, same1 hD, upd_same⟩, ?_⟩
  rintro i m H ⟨rfl, hi, s1, hl⟩
  by_cases hlt : i < ys.length
  · refine .inr ⟨by show i < x.cps.size; omega, fun H' => Same H1 H' ∧ H' D = some (.lst (ys.take (i + 1))), fun H' h => ⟨ys.length - (i + 1), by omega, rfl, by omega, h.1, h.2⟩, fun y H' hy => ?_⟩
    obtain ⟨rfl, c, hc, rfl⟩ := hy
    refine hs i c ys[i] H' _ _ hc (List.getElem?_eq_getElem hlt) s1 fun H4 s4 => ⟨_, s4 _ _ hl, ?_, ?_, ?_⟩
    · rw [List.length_take]; omega
    · intro b o e
      rw [upd_ne (ne_of_none e hD)]
      exact s4 _ _ (s1 _ _ e)
    · rw [upd_same, List.take_add_one, List.getElem?_eq_getElem hlt]
      rfl
  · refine .inl ⟨by show x.cps.size ≤ i; omega, hd H s1 ?_⟩
    have : i = ys.length := by omega
    rw [this, List.take_length] at hl
    exact hl
end My
namespace My
open PySem PySem.Spec PyProof.Rows L2
/-! ### numbers written without noughts ahead -/
theorem numL_head : ∀ n : Nat, 0 < n → sw 48 (TL.numL n) = false := by
  intro n
  induction n using Nat.strongRecOn with
  | _ n ih =>
    intro h
    by_cases h1 : n < 10
    · rw [TL.numL_lt h1]
      exact decide_eq_false (by omega)
    · rw [TL.numL_step (by omega)]
      have i := ih (n / 10) (by omega) (by omega)
      cases e : TL.numL (n / 10) with
      | nil => exact absurd e (TL.numL_ne _)
      | cons x r => rw [e] at i; exact i
theorem numL_zero : TL.numL 0 = [48] := TL.numL_lt (by decide)
theorem canon : ∀ (k : Nat) (w : List Nat), w.length = k → NumText.AllDigits w → w ≠ [] → (w = [48] ∨ sw 48 w = false) → TL.numL (NumText.digitsVal w) = w := by
  intro k
  induction k with
  | zero => intro w hl _ hn _; exact absurd (List.length_eq_zero_iff.mp hl) hn
  | succ k ih =>
    intro w hl hd hn hc
    rcases List.eq_nil_or_concat w with rfl | ⟨v, c, rfl⟩
    · exact absurd rfl hn
    · rw [List.concat_eq_append] at *
      have dc := hd c (by simp)
      have dv : NumText.AllDigits v := fun x hx => hd x (by simp [hx])
      rw [NumText.digitsVal_snoc]
      cases e : v with
      | nil =>
        have : NumText.digitsVal ([] : List Nat) = 0 := rfl
        rw [this, Nat.zero_mul, Nat.zero_add, TL.numL_lt (by omega)]
        show [48 + (c - 48)] = [c]
        rw [show 48 + (c - 48) = c by omega]
      | cons x r =>
        have lv : v.length = k := by
          rw [List.length_append, List.length_singleton] at hl
          omega
        have hx : sw 48 v = false := by
          rcases hc with hc | hc
          · rw [e] at hc
            have := congrArg List.length hc
            simp at this
          · rw [e] at hc ⊢
            exact hc
        have i := ih v lv dv (by rw [e]; simp) (.inr hx)
        have dx := dv x (by rw [e]; simp)
        have x49 : 49 ≤ x := by
          rw [e] at hx
          have := of_decide_eq_false hx
          omega
        have p : 0 < NumText.digitsVal v := by rw [e]; exact NumText.digitsVal_pos x49
        rw [← e, TL.numL_step (by omega)]
        have e1 : (NumText.digitsVal v * 10 + (c - 48)) / 10 = NumText.digitsVal v := by omega
        have e2 : (NumText.digitsVal v * 10 + (c - 48)) % 10 = c - 48 := by omega
        rw [e1, e2, i, show 48 + (c - 48) = c by omega]
/-- what the law reads as a number -/
def figL (l : List Nat) : Option Int := if (isNumL l && (decide (l = [48]) || !sw 48 l)) = true then some (valL l) else none
theorem fig_some {l : List Nat} {n : Int} (h : figL l = some n) : ∃ k : Nat, n = (k : Int) ∧ k < 10 ^ 12 ∧ l = TL.numL k := by
  unfold figL at h
  by_cases c : (isNumL l && (decide (l = [48]) || !sw 48 l)) = true
  · rw [if_pos c] at h
    cases h
    rw [Bool.and_eq_true, Bool.or_eq_true, decide_eq_true_eq, Bool.not_eq_true'] at c
    obtain ⟨h1, h2, h3⟩ := isNum_of c.1
    exact ⟨NumText.digitsVal l, rfl, dval_lt h2 h3, (canon _ l rfl h3 h1 c.2).symm⟩
  · rw [if_neg c] at h; cases h
theorem fig_num {n : Nat} (h : n < 10 ^ 12) : figL (TL.numL n) = some (n : Int) := by
  unfold figL
  have c : (isNumL (TL.numL n) && (decide (TL.numL n = [48]) || !sw 48 (TL.numL n))) = true := by
    rw [isNum_num h, Bool.true_and]
    rcases Nat.eq_zero_or_pos n with z | z
    · rw [z, numL_zero]; rfl
    · rw [numL_head n z]; simp
  rw [if_pos c, val_num]
/-- what the law reads -/
def lawB (l : List Nat) : Option (Int × Int × Bool) :=
  if 47 ∈ l then match lastSplit 32 l with
    | none => match figL (slashL l).1, figL (slashL l).2 with
      | some t, some u => if 0 < t ∧ t < u ∧ Int.gcd t u = 1 then some (t, u, true) else none
      | _, _ => none
    | some (w, p) => match figL (slashL p).1, figL (slashL p).2, figL w with
      | some t, some u, some n => if n = 0 then none else if 0 < t ∧ t < u ∧ Int.gcd t u = 1 then some (n * u + t, u, true) else none
      | _, _, _ => none
  else match figL l with
    | some n => some (n, 1, false)
    | none => none
def lawL (l : List Nat) : Option Q2 := match lawB (bodyL l) with
  | some (a, b, f) => if sw 45 l && (!f && decide (a = 0)) then none else some (a * (if sw 45 l then -1 else 1), b)
  | none => none
/-- what is read so, is written so -/
theorem lawB_some {l : List Nat} {a b : Int} {f : Bool} (h : lawB l = some (a, b, f)) : 0 ≤ a ∧ 0 < b ∧ Int.gcd a b = 1 ∧ a.natAbs / b.natAbs < 10 ^ 12 ∧ b.natAbs < 10 ^ 12 ∧ l = wL a.natAbs b.natAbs ∧ (f = true → 0 < a) := by
  unfold lawB at h
  by_cases m : 47 ∈ l
  · rw [if_pos m] at h
    cases e : lastSplit 32 l with
    | none =>
      rw [e] at h
      have h : (match figL (slashL l).1, figL (slashL l).2 with
        | some t, some u => if 0 < t ∧ t < u ∧ Int.gcd t u = 1 then some (t, u, true) else none
        | _, _ => none) = some (a, b, f) := h
      cases e1 : figL (slashL l).1 with
      | none => rw [e1] at h; cases h
      | some t =>
        cases e2 : figL (slashL l).2 with
        | none => rw [e1, e2] at h; cases h
        | some u =>
          rw [e1, e2] at h
          have h : (if 0 < t ∧ t < u ∧ Int.gcd t u = 1 then some (t, u, true) else none) = some (a, b, f) := h
          by_cases c : 0 < t ∧ t < u ∧ Int.gcd t u = 1
          · rw [if_pos c] at h
            cases h
            obtain ⟨k1, hk1, b1, w1⟩ := fig_some e1
            obtain ⟨k2, hk2, b2, w2⟩ := fig_some e2
            subst hk1 hk2
            have hl : l = TL.numL k1 ++ 47 :: TL.numL k2 := by
              rw [← w1, ← w2]
              unfold slashL
              cases e3 : firstSplit 47 l with
              | none => exact absurd m (firstSplit_none e3)
              | some z => exact (firstSplit_some e3).1
            refine ⟨by omega, by omega, c.2.2, ?_, by omega, ?_, fun _ => c.1⟩
            · show k1 / k2 < 10 ^ 12
              exact Nat.lt_of_le_of_lt (Nat.div_le_self _ _) b1
            · show l = wL k1 k2
              have lt : k1 < k2 := by omega
              unfold wL
              rw [Nat.mod_eq_of_lt lt, Nat.div_eq_of_lt lt, if_neg (by omega), if_pos rfl]
              exact hl
          · rw [if_neg c] at h; cases h
    | some z =>
      obtain ⟨w, p⟩ := z
      rw [e] at h
      have h : (match figL (slashL p).1, figL (slashL p).2, figL w with
        | some t, some u, some n => if n = 0 then none else if 0 < t ∧ t < u ∧ Int.gcd t u = 1 then some (n * u + t, u, true) else none
        | _, _, _ => none) = some (a, b, f) := h
      obtain ⟨hl, _⟩ := lastSplit_some e
      cases e1 : figL (slashL p).1 with
      | none => rw [e1] at h; cases h
      | some t =>
        cases e2 : figL (slashL p).2 with
        | none => rw [e1, e2] at h; cases h
        | some u =>
          cases e3 : figL w with
          | none => rw [e1, e2, e3] at h; cases h
          | some n =>
            rw [e1, e2, e3] at h
            have h : (if n = 0 then none else if 0 < t ∧ t < u ∧ Int.gcd t u = 1 then some (n * u + t, u, true) else none) = some (a, b, f) := h
            by_cases z : n = 0
            · rw [if_pos z] at h; cases h
            · rw [if_neg z] at h
              by_cases c : 0 < t ∧ t < u ∧ Int.gcd t u = 1
              · rw [if_pos c] at h
                cases h
                obtain ⟨k1, hk1, b1, w1⟩ := fig_some e1
                obtain ⟨k2, hk2, b2, w2⟩ := fig_some e2
                obtain ⟨k3, hk3, b3, w3⟩ := fig_some e3
                subst hk1 hk2 hk3
                have hp : p = TL.numL k1 ++ 47 :: TL.numL k2 := by
                  rw [← w1, ← w2]
                  unfold slashL
                  cases e4 : firstSplit 47 p with
                  | none =>
                    exfalso
                    have : (slashL p).2 = [] := by unfold slashL; rw [e4]
                    rw [this] at w2
                    exact TL.numL_ne k2 w2.symm
                  | some z => exact (firstSplit_some e4).1
                have lt : k1 < k2 := by omega
                have ea : ((k3 : Int) * (k2 : Int) + (k1 : Int)).natAbs = k3 * k2 + k1 := by
                  rw [show (k3 : Int) * (k2 : Int) + (k1 : Int) = ((k3 * k2 + k1 : Nat) : Int) by simp]
                  exact Int.natAbs_natCast _
                have ed : (k3 * k2 + k1) / k2 = k3 := by
                  rw [Nat.mul_comm, Nat.mul_add_div (by omega), Nat.div_eq_of_lt lt, Nat.add_zero]
                have em : (k3 * k2 + k1) % k2 = k1 := by
                  rw [Nat.mul_comm, Nat.mul_add_mod, Nat.mod_eq_of_lt lt]
                have p0 : 0 ≤ (k3 : Int) * (k2 : Int) := Int.mul_nonneg (by omega) (by omega)
                refine ⟨by omega, by omega, ?_, ?_, by omega, ?_, fun _ => by omega⟩
                · rw [Int.gcd_comm, Int.add_comm, Int.mul_comm]
                  have g := Int.gcd_add_mul_left_right (m := (k2 : Int)) (n := (k1 : Int)) (k := (k3 : Int))
                  have g2 : Int.gcd (k2 : Int) (k1 : Int) = 1 := by rw [Int.gcd_comm]; exact c.2.2
                  first
                    | (rw [g]; exact g2)
                    | (rw [Int.mul_comm, g]; exact g2)
                · rw [ea]
                  show (k3 * k2 + k1) / k2 < _
                  rw [ed]; exact b3
                · rw [ea]
                  show l = wL (k3 * k2 + k1) k2
                  unfold wL
                  rw [ed, em, if_neg (by omega), if_neg (by omega), hl, hp, w3]
              · rw [if_neg c] at h; cases h
  · rw [if_neg m] at h
    cases e : figL l with
    | none => rw [e] at h; cases h
    | some n =>
      rw [e] at h
      cases h
      obtain ⟨k1, hk1, b1, w1⟩ := fig_some e
      subst hk1
      refine ⟨by omega, by decide, Int.gcd_one_right .., ?_, by decide, ?_, fun z => nomatch z⟩
      · show k1 / 1 < _
        rw [Nat.div_one]; exact b1
      · show l = wL k1 1
        unfold wL
        rw [Nat.mod_one, if_pos rfl, Nat.div_one]
        exact w1
theorem law_some {l : List Nat} {x : Q2} (h : lawL l = some x) : 0 < x.2 ∧ Int.gcd x.1 x.2 = 1 ∧ looseL l = some x ∧ mL x.1 x.2 = l := by
  unfold lawL at h
  cases e : lawB (bodyL l) with
  | none => rw [e] at h; cases h
  | some z =>
    obtain ⟨a, b, f⟩ := z
    rw [e] at h
    have h : (if sw 45 l && (!f && decide (a = 0)) then none else some (a * (if sw 45 l then -1 else 1), b)) = some x := h
    obtain ⟨h1, h2, h3, h4, h5, h6, h7⟩ := lawB_some e
    cases s : sw 45 l with
    | false =>
      rw [s] at h
      have h : some (a * 1, b) = some x := h
      cases h
      rw [Int.mul_one]
      have hb : bodyL l = l := by
        cases l with
        | nil => rfl
        | cons c r =>
          have : ¬ c = 45 := of_decide_eq_false s
          exact if_neg this
      rw [hb] at h6
      have hm : mL a b = l := by
        unfold mL
        rw [if_neg (by omega)]
        exact h6.symm
      have hz := loose_mL h2 h3 h4 h5
      rw [hm] at hz
      exact ⟨h2, h3, hz, hm⟩
    | true =>
      rw [s] at h
      have h : (if !f && decide (a = 0) then none else some (a * -1, b)) = some x := h
      have a0 : 0 < a := by
        cases f with
        | true => exact h7 rfl
        | false =>
          rcases Int.lt_or_eq_of_le h1 with z | z
          · exact z
          · rw [← z] at h
            cases h
      have hf : (!f && decide (a = 0)) = false := by
        rw [decide_eq_false (by omega), Bool.and_false]
      rw [hf] at h
      have h : some (a * -1, b) = some x := h
      cases h
      have hb : l = 45 :: bodyL l := by
        cases l with
        | nil => cases s
        | cons c r =>
          have : c = 45 := of_decide_eq_true s
          subst this
          rfl
      have ea : (a * -1).natAbs = a.natAbs := by omega
      have hm : mL (a * -1) b = l := by
        unfold mL
        rw [if_pos (by omega), ea, ← h6]
        exact hb.symm
      have g : Int.gcd (a * -1) b = 1 := by
        rw [Int.mul_neg_one, Int.neg_gcd]; exact h3
      have hz := loose_mL (t := a * -1) h2 g (by rw [ea]; exact h4) h5
      rw [hm] at hz
      exact ⟨h2, g, hz, hm⟩
/-- what is written is so read by the law -/
theorem lawB_wL {a u : Nat} (hu : 0 < u) (co : Nat.gcd a u = 1) (s1 : a / u < 10 ^ 12) (s2 : u < 10 ^ 12) : ∃ f, lawB (wL a u) = some ((a : Int), (u : Int), f) ∧ (f = false → u = 1) := by
  have dm := Nat.div_add_mod a u
  have lt := Nat.mod_lt a hu
  have n32 : ∀ n m : Nat, 32 ∉ TL.numL n ++ 47 :: TL.numL m := by
    intro n m z
    rcases List.mem_append.mp z with z | z
    · exact TL.numL_free (.inl (by decide)) z
    · rcases List.mem_cons.mp z with z | z
      · exact absurd z (by decide)
      · exact TL.numL_free (.inl (by decide)) z
  have sl : ∀ n m : Nat, slashL (TL.numL n ++ 47 :: TL.numL m) = (TL.numL n, TL.numL m) := by
    intro n m
    unfold slashL
    rw [firstSplit_app (TL.numL_free (.inl (by decide)))]
  have gm : Nat.gcd (a % u) u = 1 := by
    rw [← Nat.gcd_rec, Nat.gcd_comm]; exact co
  unfold wL
  by_cases h1 : a % u = 0
  · rw [if_pos h1]
    have e1 := w_div hu co h1
    refine ⟨false, ?_, fun _ => e1⟩
    unfold lawB
    rw [if_neg (TL.numL_free (.inl (by decide))), fig_num s1, e1, Nat.div_one]
    rfl
  · rw [if_neg h1]
    have c : 0 < ((a % u : Nat) : Int) ∧ ((a % u : Nat) : Int) < (u : Int) ∧ Int.gcd ((a % u : Nat) : Int) (u : Int) = 1 := ⟨by omega, by omega, gm⟩
    by_cases h2 : a / u = 0
    · rw [if_pos h2]
      refine ⟨true, ?_, fun z => nomatch z⟩
      unfold lawB
      rw [if_pos (by simp), lastSplit_no (n32 _ _)]
      show (match figL (slashL (TL.numL (a % u) ++ 47 :: TL.numL u)).1, figL (slashL (TL.numL (a % u) ++ 47 :: TL.numL u)).2 with
        | some t, some u => if 0 < t ∧ t < u ∧ Int.gcd t u = 1 then some (t, u, true) else none
        | _, _ => none) = _
      rw [sl, fig_num (show a % u < 10 ^ 12 by omega), fig_num s2]
      show (if 0 < ((a % u : Nat) : Int) ∧ ((a % u : Nat) : Int) < (u : Int) ∧ Int.gcd ((a % u : Nat) : Int) (u : Int) = 1 then some (((a % u : Nat) : Int), (u : Int), true) else none) = _
      rw [if_pos c]
      rw [h2, Nat.mul_zero, Nat.zero_add] at dm
      rw [dm]
    · rw [if_neg h2]
      refine ⟨true, ?_, fun z => nomatch z⟩
      unfold lawB
      rw [if_pos (by simp), lastSplit_app (n32 _ _)]
      show (match figL (slashL (TL.numL (a % u) ++ 47 :: TL.numL u)).1, figL (slashL (TL.numL (a % u) ++ 47 :: TL.numL u)).2, figL (TL.numL (a / u)) with
        | some t, some u, some n => if n = 0 then none else if 0 < t ∧ t < u ∧ Int.gcd t u = 1 then some (n * u + t, u, true) else none
        | _, _, _ => none) = _
      rw [sl, fig_num (show a % u < 10 ^ 12 by omega), fig_num s2, fig_num s1]
      show (if ((a / u : Nat) : Int) = 0 then none else if 0 < ((a % u : Nat) : Int) ∧ ((a % u : Nat) : Int) < (u : Int) ∧ Int.gcd ((a % u : Nat) : Int) (u : Int) = 1 then some (((a / u : Nat) : Int) * (u : Int) + ((a % u : Nat) : Int), (u : Int), true) else none) = _
      rw [if_neg (by omega), if_pos c]
      have e : ((a / u : Nat) : Int) * (u : Int) + ((a % u : Nat) : Int) = (a : Int) := by
        have := congrArg (fun z : Nat => (z : Int)) dm
        simp only [Int.natCast_add, Int.natCast_mul] at this
        rw [Int.mul_comm]
        exact this
      rw [e]
theorem law_mL {t u : Int} (hu : 0 < u) (co : Int.gcd t u = 1) (s1 : t.natAbs / u.natAbs < 10 ^ 12) (s2 : u.natAbs < 10 ^ 12) : lawL (mL t u) = some (t, u) := by
  have hu' : 0 < u.natAbs := by omega
  obtain ⟨f, hB, hf⟩ := lawB_wL hu' co s1 s2
  have eu : ((u.natAbs : Nat) : Int) = u := by omega
  rw [eu] at hB
  have head : ∃ n r, wL t.natAbs u.natAbs = TL.numL n ++ r := by
    unfold wL
    split
    · exact ⟨_, [], (List.append_nil _).symm⟩
    · split
      · exact ⟨_, _, rfl⟩
      · exact ⟨_, _, rfl⟩
  obtain ⟨n, r, hr⟩ := head
  have bd := body_num (n := n) (r := r)
  rw [← hr] at bd
  unfold mL lawL
  by_cases h : t < 0
  · rw [if_pos h]
    have e1 : bodyL (45 :: wL t.natAbs u.natAbs) = wL t.natAbs u.natAbs := rfl
    have e2 : sw 45 (45 :: wL t.natAbs u.natAbs) = true := rfl
    rw [e1, hB, e2]
    show (if true && (!f && decide ((t.natAbs : Int) = 0)) then none else some ((t.natAbs : Int) * -1, u)) = _
    rw [decide_eq_false (by omega), Bool.and_false, Bool.and_false]
    show some ((t.natAbs : Int) * -1, u) = _
    rw [show (t.natAbs : Int) * -1 = t by omega]
  · rw [if_neg h, bd.1, hB, bd.2]
    show some ((t.natAbs : Int) * 1, u) = _
    rw [show (t.natAbs : Int) * 1 = t by omega]
/-- read loosely, and shown so: then the law reads it -/
theorem law_of {l : List Nat} {a : Q2} {t u : Int} (h : looseL l = some a) (f : Fr t u a.1 a.2) (e : mL t u = l) : lawL l = some (t, u) := by
  have hu := f.pos
  have hu' : 0 < u.natAbs := by omega
  have lt := Nat.mod_lt t.natAbs hu'
  have small : ∀ n : Nat, isNumL (TL.numL n) = true → n < 10 ^ 12 := fun n h => by
    obtain ⟨_, h2, h3⟩ := isNum_of h
    have := dval_lt h2 h3
    rw [TL.numL_val] at this
    exact this
  have bs : bodyL l = wL t.natAbs u.natAbs := by
    rw [← e]
    unfold mL
    by_cases h : t < 0
    · rw [if_pos h]; rfl
    · rw [if_neg h]
      have head : ∃ n r, wL t.natAbs u.natAbs = TL.numL n ++ r := by
        unfold wL
        split
        · exact ⟨_, [], (List.append_nil _).symm⟩
        · split
          · exact ⟨_, _, rfl⟩
          · exact ⟨_, _, rfl⟩
      obtain ⟨n, r, hr⟩ := head
      have bd := body_num (n := n) (r := r)
      rw [← hr] at bd
      exact bd.1
  have num : isNumL (nwL (bodyL l)).1 = true ∧ isNumL (nwL (bodyL l)).2.1 = true ∧ isNumL (nwL (bodyL l)).2.2 = true := by
    unfold looseL at h
    revert h
    generalize nwL (bodyL l) = w
    intro h
    by_cases c : (isNumL w.1 && (isNumL w.2.1 && isNumL w.2.2)) = true
    · rw [Bool.and_eq_true, Bool.and_eq_true] at c
      exact c
    · have h : (if isNumL w.1 && (isNumL w.2.1 && isNumL w.2.2) then if valL w.2.2 = 0 then none else some ((if sw 45 l then -1 else 1) * (valL w.1 * valL w.2.2 + valL w.2.1), valL w.2.2) else none) = some a := h
      rw [if_neg c] at h; cases h
  rw [bs] at num
  have sz : t.natAbs / u.natAbs < 10 ^ 12 ∧ u.natAbs < 10 ^ 12 := by
    unfold wL at num
    by_cases h1 : t.natAbs % u.natAbs = 0
    · rw [if_pos h1, nw_whole] at num
      have e1 := w_div hu' f.co h1
      exact ⟨small _ num.1, by omega⟩
    · rw [if_neg h1] at num
      by_cases h2 : t.natAbs / u.natAbs = 0
      · rw [if_pos h2, nw_part] at num
        exact ⟨by omega, small _ num.2.2⟩
      · rw [if_neg h2, nw_both] at num
        exact ⟨small _ num.1, small _ num.2.2⟩
  rw [← e]
  exact law_mL hu f.co sz.1 sz.2
/-! ### rules: a sign so often, filtered signs, texts beside none, keywords in a try, replace -/
section
variable {X : Cx}
theorem fold_rep (c : Nat) : ∀ (n : Nat) (a : Array Nat), ((List.replicate n #[c]).foldl (· ++ ·) a).toList = a.toList ++ List.replicate n c
  | 0, a => by simp
  | n + 1, a => by
    rw [List.replicate_succ, List.foldl_cons, fold_rep c n]
    rw [Array.toList_append, List.append_assoc]
    rfl
theorem mul_S (c n : Nat) : Txt.mul (St8 [c]) (n : Int) = St8 (List.replicate n c) := by
  unfold Txt.mul
  by_cases h : (n : Int) < 1
  · rw [if_pos h]
    have : n = 0 := by omega
    subst this
    rfl
  · rw [if_neg h]
    by_cases h1 : ((n : Int) == 1 || (St8 [c]).length == 0) = true
    · rw [if_pos h1]
      have : n = 1 := by
        rw [Bool.or_eq_true] at h1
        rcases h1 with h1 | h1
        · have := eq_of_beq h1
          omega
        · exact absurd h1 (by rw [SX.S_len]; simp)
      subst this
      rfl
    · rw [if_neg h1]
      refine TL.ext_tl ?_
      show ((List.replicate (n : Int).toNat #[c]).foldl (· ++ ·) #[]).toList = List.replicate n c
      rw [fold_rep]
      simp
theorem op_mulS : OpR X (binaryOp .Mult) (fun x y H Q => ∃ (c n : Nat), x = .str (St8 [c]) ∧ y = .int (n : Int) ∧ n ≤ 100000 ∧ Q (.str (St8 (List.replicate n c))) H) := by
  intro pins s σ H x y v u Q I rx ry h
  obtain ⟨c, n, rfl, rfl, hz, q⟩ := h
  obtain ⟨t, rfl⟩ := rx
  obtain ⟨t', rfl⟩ := ry
  refine SB.mul (n := (n : Int)) ⟨?_, fun h1 h2 => ?_, fun h1 h2 => ?_⟩ fun t2 k => ⟨.str (St8 (List.replicate n c)), H, I.tok _, ⟨t2, by rw [mul_S]⟩, q⟩
  · rw [Bool.or_eq_false_iff]
    exact ⟨decide_eq_false (by omega), decide_eq_false (by omega)⟩
  · show ¬ ((1 : Nat) : Int) > (2 ^ 63 - 1) / (n : Int)
    have : 1 ≤ (2 ^ 63 - 1) / (n : Int) := by
      rw [Int.le_ediv_iff_mul_le (by omega)]
      omega
    omega
  · show Builtin.Str.tooLong (1 * (n : Int).toNat) = false
    unfold Builtin.Str.tooLong
    exact decide_eq_false (by rw [sizeLine_eq]; omega)
theorem lcfS {l : List Nat} {g : TG} {tt : TT} {te : TE} {vs : List Nat} {σ : L2.St} {H1 : Hp} {D : Addr} {Qd : Hp → Prop} (p : Nat → Bool) (hz : l.length < sizeLine) (hD : H1 D = none)
    (hs : ∀ (i c : Nat) (H : Hp) (N : VK) (M : Hp → Prop), l[i]? = some c → Same H1 H → (p c = true → ∀ H4, Same H H4 → N (.str ⟨#[c]⟩) H4) → (p c = false → M H) → g (.str ⟨#[c]⟩) (wipe σ vs) H fun σ2 H2 => wipe σ2 vs = wipe σ vs ∧ tt σ2 H2 fun b H3 => if b = true then te σ2 H3 N else M H3)
    (hd : ∀ H, Same H1 H → H D = some (.lst ((l.filter p).map fun c => V.str ⟨#[c]⟩)) → Qd H) :
    ∃ W : Nat → Nat → Hp → Prop, (∃ m, W 0 m (upd H1 D (.lst []))) ∧ ∀ i m H, W i m H →
      ((Its (St8 l)).stop i H ∧ Qd H) ∨ ((Its (St8 l)).go i H ∧ ∃ Nx : Hp → Prop, (∀ H', Nx H' → ∃ m', m' < m ∧ W (i + 1) m' H') ∧ ∀ y H', (Its (St8 l)).yld i H y H' → g y (wipe σ vs) H' fun σ2 H2 => wipe σ2 vs = wipe σ vs ∧ tt σ2 H2 fun b H3 =>
        if b = true then te σ2 H3 fun y H4 => ∃ acc, H4 D = some (.lst acc) ∧ acc.length < sizeLine ∧ Nx (upd H4 D (.lst (acc ++ [y]))) else Nx H3) := by
  have sz : (St8 l).cps.size = l.length := by simp
  refine ⟨fun i m H => m = l.length - i ∧ i ≤ l.length ∧ Same H1 H ∧ H D = some (.lst (((l.take i).filter p).map fun c => V.str ⟨#[c]⟩)), ⟨l.length, by omega, Nat.zero_le _, same1 hD, upd_same⟩, ?_⟩
  rintro i m H ⟨rfl, hi, s1, hl⟩
  by_cases hlt : i < l.length
  · refine .inr ⟨by show i < (St8 l).cps.size; omega, fun H' => Same H1 H' ∧ H' D = some (.lst (((l.take (i + 1)).filter p).map fun c => V.str ⟨#[c]⟩)), fun H' h => ⟨l.length - (i + 1), by omega, rfl, by omega, h.1, h.2⟩, fun y H' hy => ?_⟩
    obtain ⟨rfl, c, hc, rfl⟩ := hy
    have hc : l[i]? = some c := by simpa using hc
    have step : (l.take (i + 1)).filter p = (l.take i).filter p ++ (if p c = true then [c] else []) := by
      rw [List.take_add_one, hc, List.filter_append]
      cases e : p c <;> simp [e]
    refine hs i c H' _ _ hc s1 (fun pc H4 s4 => ⟨_, s4 _ _ hl, ?_, ?_, ?_⟩) (fun pc => ⟨s1, ?_⟩)
    · rw [List.length_map]
      have := List.length_filter_le p (l.take i)
      rw [List.length_take] at this
      omega
    · intro b o e
      rw [upd_ne (ne_of_none e hD)]
      exact s4 _ _ (s1 _ _ e)
    · rw [upd_same, step, if_pos pc, List.map_append]
      rfl
    · rw [step, if_neg (by rw [pc]; decide), List.append_nil]
      exact hl
  · refine .inl ⟨by show (St8 l).cps.size ≤ i; omega, hd H s1 ?_⟩
    have : i = l.length := by omega
    rw [this, List.take_length] at hl
    exact hl
theorem op_neL0 (hu : X.A.units < cLine) : OpR X (compareOp .NotEq) (fun x y H Q => ∃ (a b : Addr) (xs : List V), x = .ref a ∧ y = .ref b ∧ SqL X.K H a xs ∧ SqL X.K H b [] ∧ Q (.bl (!xs.isEmpty)) H) := by
  intro pins s σ H x y v u Q I rx ry h
  obtain ⟨a, b, xs, rfl, rfl, ha, hb, q⟩ := h
  cases rx
  cases ry
  obtain ⟨its, rv, pl, _⟩ := I.list ha
  obtain ⟨its2, rv2, pl2, _⟩ := I.list hb
  have e2 : its2 = [] := by cases rv2; rfl
  subst e2
  cases xs with
  | nil =>
    have e1 : its = [] := by cases rv; rfl
    subst e1
    exact SeqAt.RcNeAt.lists (e := fun _ => true) pl.isList pl2.isList rfl hu (fun j h1 _ => absurd h1 (by simp)) X.prog X.w X.xe _ ⟨.bl false, H, I, rfl, q⟩
  | cons z r =>
    cases rv with
    | cons r1 rs => exact SeqAt.RcNeAt.lists_lengths pl.isList pl2.isList (by simp) hu X.prog X.w X.xe _ ⟨.bl true, H, I, rfl, q⟩
theorem filter_dig (l : List Nat) : (l.filter fun c => !dig c).isEmpty = l.all dig := by
  induction l with
  | nil => rfl
  | cons c r ih =>
    rw [List.filter_cons, List.all_cons]
    cases e : dig c with
    | true => simpa using ih
    | false => rfl
variable {CX : CXT} {k n : Nat} {f : Addr} {fd : FuncData} {ps ks : List Str} {sp : Sp} {E : L2.St → XK} {x : Str} {p pos : Pos} {kws : List Keyword} {tk : TA} {g : List Value → List Value → List Value} {gV : List V → List V → List V}
/-- f(k = v, ..) in a body from which an error may come -/
def tCallKS (m : Nat) (sp : Sp) (gV : List V → List V → List V) (E : L2.St → XK) (tk : TA) : TE := fun σ H Q => tk σ H fun zs H2 => zs.length = m ∧ sp (gV [] zs) H2 Q (E σ)
theorem pe_callKS0 (F : FnOk X.prog X.w X.K X.mg X.base CX k f fd ps sp) (hr : Room k X.A) (hg : Gl X x) (hm : X.mg x = some (.ref f)) (hk : PySem.W.keepIn X.K (.ref f) = true) (hb : KBn X.K fd ps 0 ks g gV) (hx : ∀ σ, PassesAt CX X σ (E σ))
    (hkw : PK X kws tk) (hall : (backToKw pos (keywordEach kws X.env)).all (·.1.isSome) = true := by rfl) (hks : (backToKw pos (keywordEach kws X.env)).filterMap (·.1) = ks := by rfl)
    (hdb : (x == ("__debug__" : Str)) = false := by decide) (hpl : ((backTo pos (starEach [] X.env)).any (·.1) || (backToKw pos (keywordEach kws X.env)).any (·.1.isNone)) = false := by rfl) :
    PE X (.Call (.Name x p) [] kws pos) (tCallKS ks.length sp gV E tk) := by
  refine ⟨fun pins s σ H Q I h => ?_⟩
  refine wpAny_Call_Name_kw (ld_glob I hg hm ?_ hdb)
  refine PySem.W.callWith_KW0 (h₀ := X.base) I.ok.mod.kin hk hall ?_ hpl
  refine thn (hkw.run pos pins s σ H _ I h) fun ws s2 ⟨zs, H2, I2, rz, l2, q2⟩ => ⟨I2.kIn, ?_⟩
  rw [hks]
  have r2 := hb.rel (vs := []) (us := []) .nil rz
  refine wpAny_call (codeAny_mono (F.run X.A X.stack s2 H2 ⟨[], ks.zip ws⟩ (g [] ws) (gV [] zs) Q (E σ) hr I2.env0 (hb.to s2 [] ws I2.kIn rfl (rz.length.symm.trans l2)) r2 q2) fun r s' hq => ?_)
  cases r with
  | error e => exact hx σ pins H2 s2 e s' I2 hq
  | ok fl =>
    cases fl with
    | ret u => exact I2.after hq
    | next => exact False.elim hq
    | brk => exact False.elim hq
    | cont => exact False.elim hq
theorem pet_ix {r : R2} {a b : Expr} {ta tb : TE} (hr : IxR X r) (ha : PET X a ta) (hb : PET X b tb) (hs : PlainIx b) : PET X (.Subscript a b pos) (tOp r ta tb) := by
  intro pins s σ H Q h0 I h
  refine Subscript_ (wpAny_mono (PySem.wpAny_toks (ha pins s σ H _ h0 I h)) (fun v s1 q => ?_) fun _ _ z => z.2)
  obtain ⟨hk, x, H1, I1, r1, q1⟩ := q
  exact thn (hb pins s1 σ H1 _ (Nat.le_trans h0 hk) I1 q1) fun u s2 ⟨y, H2, I2, r2, q2⟩ => hr a b pins s2 σ H2 x y v u Q I2 r1 r2 q2 (hs _ _)
end
section
variable {P : Program} {w : World} {K : PySem.W.Frag} {mg : Str → Option Value} {base : Heap} {x qual : Str} {params : Arguments} {body : List Stmt} {scope : Scope} {dvs : List V} {kws : List (Str × V)} {f : Addr} {fd : FuncData}
theorem funD_okT {CX : CXT} {N ps : List Str} {k : Nat} {sp : Sp} (F : FunD K x qual params body scope dvs kws f fd) (S : FnScope N ps scope) (hnc : ∀ y ∈ scope.names, y.2 ≠ .cell) (hps : 1 ≤ ps.length) (len : ∀ vs H Q E, sp vs H Q E → vs.length = ps.length)
    (hbody : ∀ (cdv : Value) (A : Around) (outer : List Env) (s : Shared) (H : Hp) (vs : List V) (Q : VK) (E : XK), Room k (A.deeper (envOfC qual scope s.heap.objs.size f cdv)) → sp vs H Q E →
      ∃ t, PSsT (cxOf CX P w K mg base N qual scope f cdv A outer s H E) body t ∧ t { nx := fun _ H' => Q .non H', rt := Q } (start N vs) H) : FnOk P w K mg base CX (k + 1) f fd ps sp := by
  obtain ⟨oc, od, dV, kV, doc, pm, an, cdv, ct, osl, rfl, lk, hcd, _, _⟩ := F.ex
  exact fn_ofT lk hcd S hnc hps len fun A outer s H vs Q E hr hsp => hbody cdv A outer s H vs Q E hr hsp
end
theorem cutS_to {l : List Nat} {i : Nat} : cutS (St8 l) none (some (i : Int)) = St8 (l.take i) := by
  unfold cutS
  refine TL.ext_tl ?_
  show (((St8 l).cps.toList.drop (HT.sIx (St8 l).length 0 none)).take (HT.sIx (St8 l).length (St8 l).length (some (i : Int)) - HT.sIx (St8 l).length 0 none)) = l.take i
  have e1 : HT.sIx (St8 l).length 0 none = 0 := HT.sIx_none ..
  have e2 : HT.sIx (St8 l).length (St8 l).length (some (i : Int)) = min i (St8 l).length := HT.sIx_nat _ _ i
  rw [e1, e2, List.drop_zero, Nat.sub_zero, SX.S_len]
  show l.take (min i l.length) = l.take i
  rw [Nat.min_def]
  split
  · rfl
  · rw [List.take_of_length_le (Nat.le_refl _), List.take_of_length_le (by omega)]
theorem cutS_from {l : List Nat} {i : Nat} : cutS (St8 l) (some (i : Int)) none = St8 (l.drop i) := by
  unfold cutS
  refine TL.ext_tl ?_
  show (((St8 l).cps.toList.drop (HT.sIx (St8 l).length 0 (some (i : Int)))).take (HT.sIx (St8 l).length (St8 l).length none - HT.sIx (St8 l).length 0 (some (i : Int)))) = l.drop i
  have e1 : HT.sIx (St8 l).length (St8 l).length none = (St8 l).length := HT.sIx_none ..
  have e2 : HT.sIx (St8 l).length 0 (some (i : Int)) = min i (St8 l).length := HT.sIx_nat _ _ i
  rw [e1, e2, SX.S_len]
  show (l.drop (min i l.length)).take (l.length - min i l.length) = l.drop i
  rw [List.take_of_length_le (by rw [List.length_drop]; omega), Nat.min_def]
  split
  · rfl
  · rw [List.drop_of_length_le (Nat.le_refl _), List.drop_of_length_le (by omega)]
theorem cutS_len (z : Str) (lo hi : Option Int) : (cutS z lo hi).length ≤ z.length := by
  unfold cutS
  rw [TL.len_tl, TL.len_tl z]
  show ((z.cps.toList.drop _).take _).length ≤ z.cps.toList.length
  rw [List.length_take, List.length_drop]
  omega
/-! ### lengths of words -/
theorem join_tot (sep : Str) : ∀ l : List Str, (l.map (·.length)).sum + l.length * sep.length ≤ (Str.join sep l).length + sep.length
  | [] => by simp
  | [x] => by
    show x.length + 0 + 1 * sep.length ≤ x.length + sep.length
    omega
  | x :: y :: r => by
    have ih := join_tot sep (y :: r)
    have e : (Str.join sep (x :: y :: r)).length = x.length + sep.length + (Str.join sep (y :: r)).length := by
      show (x ++ sep ++ Str.join sep (y :: r)).length = _
      rw [Str.length_append, Str.length_append]
    rw [e, List.map_cons, List.sum_cons, List.length_cons, Nat.succ_mul]
    omega
theorem split_tot (z : Str) : ((Txt.split z (Str.ofString " ")).map (·.length)).sum + (Txt.split z (Str.ofString " ")).length ≤ z.length + 1 := by
  have h := join_tot (Str.ofString " ") (Txt.split z (Str.ofString " "))
  rw [StrLaws.join_split] at h
  have e : (Str.ofString " ").length = 1 := by decide +kernel
  rw [e, Nat.mul_one] at h
  exact h
theorem sum_drop_le (l : List Nat) : ∀ i, (l.drop i).sum ≤ l.sum := by
  induction l with
  | nil => intro i; simp
  | cons x r ih =>
    intro i
    cases i with
    | zero => exact Nat.le_refl _
    | succ i => have := ih i; rw [List.drop_succ_cons, List.sum_cons]; omega
theorem sum_take_le (l : List Nat) : ∀ i, (l.take i).sum ≤ l.sum := by
  induction l with
  | nil => intro i; simp
  | cons x r ih =>
    intro i
    cases i with
    | zero => simp
    | succ i => have := ih i; rw [List.take_succ_cons, List.sum_cons, List.sum_cons]; omega
/-- z[lo:hi] of a list of texts -/
theorem cutV_strs (ys : List Str) (lo hi : Option Int) : ∃ zs : List Str, cutV (ys.map V.str) lo hi = zs.map V.str ∧ (zs.map (·.length)).sum ≤ (ys.map (·.length)).sum ∧ zs.length ≤ ys.length := by
  refine ⟨(ys.drop (HT.sIx ys.length 0 lo)).take (HT.sIx ys.length ys.length hi - HT.sIx ys.length 0 lo), ?_, ?_, ?_⟩
  · unfold cutV
    rw [List.length_map, List.map_take, List.map_drop]
  · rw [List.map_take, List.map_drop]
    exact Nat.le_trans (sum_take_le _ _) (sum_drop_le _ _)
  · rw [List.length_take, List.length_drop]
    omega
theorem sum_rev (l : List Nat) : l.reverse.sum = l.sum := by
  induction l with
  | nil => rfl
  | cons x r ih => rw [List.reverse_cons, List.sum_append, List.sum_cons, ih]; simp; omega
theorem ten_text : ∀ j : Fin 13, intText? (Str.ofString "1" ++ St8 (List.replicate j.1 48)) = some ((10 ^ j.1 : Nat) : Int) := by decide +kernel
end My
namespace K05
open PySem PySem.Spec PyProof.Rows L2 My
local macro_rules | `(tactic| walk_at "c") => `(tactic| first | exact Eq.refl _ | ((with_reducible show (_ : Int) ≤ _); omega) | ((with_reducible show (_ : Int) < _); omega) | ((with_reducible show (_ : Nat) ≤ _); omega) | ((with_reducible show (_ : Nat) < _); omega) | assumption | with_reducible exact lf_marks _ _ _ _ | with_reducible exact lf_rule _ _ _ _ | with_reducible exact lf_least _ _ _ _ | with_reducible exact lf_most _ _ _ _ | with_reducible exact mf_top _ _ | with_reducible exact mf_bottom _ _ | with_reducible exact sf_low _ _ _ _ | with_reducible exact sf_high _ _ _ _ | with_reducible exact sf_low_in _ _ _ _ | with_reducible exact sf_high_in _ _ _ _ | exact SqL.of (by assumption) | exact SqT.of (by assumption) | exact Or.inl (SqL.of (by assumption)) | exact Or.inr (SqT.of (by assumption)) | exact Or.inr (by assumption) | exact Or.inl (by assumption) | omega | exact atI_nat (by assumption) | exact atI_of (n := 0) rfl (by assumption) | exact logS (by omega) | exact Or.inl (Or.inl ⟨by omega, by omega⟩) | exact Or.inl (Or.inr ⟨by omega, by omega⟩) | exact szb rfl | exact szs (by omega) | exact szl (by omega) | exact Or.inl ⟨Eq.refl _, _, SqL.of (by assumption)⟩ | exact ⟨_, SqT.of (by assumption)⟩ | exact ⟨_, SqL.of (by assumption)⟩ | exact ⟨by omega, by omega, by omega, by omega⟩)
local macro_rules | `(tactic| walk_at "e") => `(tactic| first | rfl | exact ⟨rfl, rfl⟩ | exact ⟨rfl, rfl, rfl⟩ | assumption | exact trivial)
local macro_rules | `(tactic| walk_at "w1") => `(tactic| first
  | refine q_belowT (by assumption) (by assumption) (by omega) (by omega) ?_ | refine q_belowA (by assumption) (by assumption) (by omega) (by omega) ?_ | refine q_subT (by assumption) (by assumption) (by omega) (by omega) (by omega) ?_
  | refine meth_q (by assumption) (by decide +kernel) (by decide +kernel) ?_ | refine meth_l (by assumption) (by decide +kernel) (by decide +kernel) (by decide +kernel) (by decide +kernel) ?_ | refine meth_s (by assumption) (by decide +kernel) (by decide +kernel) (by decide +kernel) (by decide +kernel) ?_
  | apply @Exists.intro V | apply @Exists.intro Int | apply @Exists.intro Addr | apply @Exists.intro Bool | apply @Exists.intro (List V) | apply @Exists.intro Str | apply @Exists.intro Nat | apply @Exists.intro (List (Str × V))
  | refine And.intro (by walk_at "c") ?_ | refine iteT ?_ | refine iteF ?_ | refine iteDT (by omega) ?_ | refine iteDF (by omega) ?_ | refine iteNS (by omega) ?_ | refine iteNT (by omega) ?_)
local macro_rules | `(tactic| walk_at "w") => `(tactic| repeat (walk_at "w1"))
local macro_rules | `(tactic| walk_at "wa1") => `(tactic| first | refine q_addT (by assumption) (by assumption) (by omega) (by omega) (by omega) ?_ | refine q_mulT (by assumption) (by assumption) (by omega) (by omega) (by omega) ?_ | walk_at "w1")
local macro_rules | `(tactic| walk_at "wa") => `(tactic| repeat (walk_at "wa1"))
local macro_rules | `(tactic| walk_at "hand") => `(tactic| first | assumption | exact HandAt.up (by walk_at "hand") (by assumption))
local macro_rules | `(tactic| walk_at "hp") => `(tactic| first | assumption | exact upd_same | exact up1 (by assumption) (by walk_at "hp") | exact Kp.get (by assumption) (by walk_at "hand") (by walk_at "hp") (by rfl) | exact L2.Same.get (by assumption) (by walk_at "hp") | exact up2 (by assumption) (by walk_at "hp") (by rfl))

/-! ### the text by places -/
def topS (i : Nat) : Stmt := PySem.Challenge.pw_sizeladders_k05_measures_read.main.body.getD i (.Pass ⟨0, 0, 0, 0⟩)
abbrev s_is_whole : Stmt := (topS 11)
abbrev s_common_part : Stmt := (topS 15)
abbrev s_written : Stmt := (topS 16)
abbrev s_Measure_init : Stmt := (inClass (topS 17) 0)
abbrev s_Measure_str : Stmt := (inClass (topS 17) 2)
abbrev s_Measure_times : Stmt := (inClass (topS 17) 6)
abbrev s_number_words : Stmt := (topS 18)
abbrev s_is_number_word : Stmt := (topS 19)
abbrev s_loosely_read : Stmt := (topS 20)
abbrev s_measure_in : Stmt := (topS 21)
abbrev s_read_measure : Stmt := (topS 22)
abbrev s_l_hand_of : Stmt := (topS 24)
abbrev s_l_take : Stmt := (topS 25)
abbrev s_l_common : Stmt := (topS 26)
abbrev s_l_is : Stmt := (topS 27)
abbrev s_l_nest : Stmt := (topS 28)
abbrev s_l_any_thing : Stmt := (topS 29)
abbrev s_l_figures : Stmt := (topS 30)
abbrev s_l_read : Stmt := (topS 31)
abbrev s_l_number_of : Stmt := (topS 32)
abbrev s_l_text_of : Stmt := (topS 33)
abbrev s_l_bent : Stmt := (topS 34)
abbrev s_l_right : Stmt := (topS 35)
abbrev s_l_refused : Stmt := (topS 36)
abbrev s_law : Stmt := (topS 37)
abbrev N_is_whole : List Str := ["thing"]
abbrev p_is_whole : List Str := ["thing"]
theorem sc_is_whole : FnScope N_is_whole p_is_whole (defScope s_is_whole) := ⟨rfl, rfl, rfl, by decide +kernel, rfl, by decide +kernel, by decide +kernel⟩
abbrev N_common_part : List Str := ["one", "other", "great", "small"]
abbrev p_common_part : List Str := ["one", "other"]
theorem sc_common_part : FnScope N_common_part p_common_part (defScope s_common_part) := ⟨rfl, rfl, rfl, by decide +kernel, rfl, by decide +kernel, by decide +kernel⟩
abbrev N_written : List Str := ["top", "bottom", "whole", "rest"]
abbrev p_written : List Str := ["top", "bottom"]
theorem sc_written : FnScope N_written p_written (defScope s_written) := ⟨rfl, rfl, rfl, by decide +kernel, rfl, by decide +kernel, by decide +kernel⟩
abbrev N_Measure_init : List Str := ["self", "top", "bottom", "common"]
abbrev p_Measure_init : List Str := ["self", "top", "bottom"]
theorem sc_Measure_init : FnScope N_Measure_init p_Measure_init (defScope s_Measure_init) := ⟨rfl, rfl, rfl, by decide +kernel, rfl, by decide +kernel, by decide +kernel⟩
abbrev N_Measure_str : List Str := ["self"]
abbrev p_Measure_str : List Str := ["self"]
theorem sc_Measure_str : FnScope N_Measure_str p_Measure_str (defScope s_Measure_str) := ⟨rfl, rfl, rfl, by decide +kernel, rfl, by decide +kernel, by decide +kernel⟩
abbrev N_Measure_times : List Str := ["self", "other"]
abbrev p_Measure_times : List Str := ["self", "other"]
theorem sc_Measure_times : FnScope N_Measure_times p_Measure_times (defScope s_Measure_times) := ⟨rfl, rfl, rfl, by decide +kernel, rfl, by decide +kernel, by decide +kernel⟩
abbrev N_number_words : List Str := ["text", "whole", "blank", "part", "top", "slash", "bottom"]
abbrev p_number_words : List Str := ["text"]
theorem sc_number_words : FnScope N_number_words p_number_words (defScope s_number_words) := ⟨rfl, rfl, rfl, by decide +kernel, rfl, by decide +kernel, by decide +kernel⟩
abbrev N_is_number_word : List Str := ["word", "figure"]
abbrev p_is_number_word : List Str := ["word"]
theorem sc_is_number_word : FnScope N_is_number_word p_is_number_word (defScope s_is_number_word) := ⟨rfl, rfl, rfl, by decide +kernel, rfl, by decide +kernel, by decide +kernel⟩
abbrev N_loosely_read : List Str := ["text", "words", "whole", "top", "bottom", "measure", "word"]
abbrev p_loosely_read : List Str := ["text"]
theorem sc_loosely_read : FnScope N_loosely_read p_loosely_read (defScope s_loosely_read) := ⟨rfl, rfl, rfl, by decide +kernel, rfl, by decide +kernel, by decide +kernel⟩
abbrev N_measure_in : List Str := ["text", "measure"]
abbrev p_measure_in : List Str := ["text"]
theorem sc_measure_in : FnScope N_measure_in p_measure_in (defScope s_measure_in) := ⟨rfl, rfl, rfl, by decide +kernel, rfl, by decide +kernel, by decide +kernel⟩
abbrev N_read_measure : List Str := ["text", "measure"]
abbrev p_read_measure : List Str := ["text"]
theorem sc_read_measure : FnScope N_read_measure p_read_measure (defScope s_read_measure) := ⟨rfl, rfl, rfl, by decide +kernel, rfl, by decide +kernel, by decide +kernel⟩
abbrev N_l_hand_of : List Str := ["_law_script", "_law_k", "_law_cell", "_law_seed"]
abbrev p_l_hand_of : List Str := ["_law_script", "_law_k"]
theorem sc_l_hand_of : FnScope N_l_hand_of p_l_hand_of (defScope s_l_hand_of) := ⟨rfl, rfl, rfl, by decide +kernel, rfl, by decide +kernel, by decide +kernel⟩
abbrev N_l_take : List Str := ["_law_hand", "_law_many", "_law_digit", "_law_stirred"]
abbrev p_l_take : List Str := ["_law_hand", "_law_many"]
theorem sc_l_take : FnScope N_l_take p_l_take (defScope s_l_take) := ⟨rfl, rfl, rfl, by decide +kernel, rfl, by decide +kernel, by decide +kernel⟩
abbrev N_l_common : List Str := ["_law_big", "_law_low"]
abbrev p_l_common : List Str := ["_law_big", "_law_low"]
theorem sc_l_common : FnScope N_l_common p_l_common (defScope s_l_common) := ⟨rfl, rfl, rfl, by decide +kernel, rfl, by decide +kernel, by decide +kernel⟩
abbrev N_l_is : List Str := ["_law_found", "_law_top", "_law_bottom"]
abbrev p_l_is : List Str := ["_law_found", "_law_top", "_law_bottom"]
theorem sc_l_is : FnScope N_l_is p_l_is (defScope s_l_is) := ⟨rfl, rfl, rfl, by decide +kernel, rfl, by decide +kernel, by decide +kernel⟩
abbrev N_l_nest : List Str := ["_law_deep", "_law_thing", "_law_turn"]
abbrev p_l_nest : List Str := ["_law_deep"]
theorem sc_l_nest : FnScope N_l_nest p_l_nest (defScope s_l_nest) := ⟨rfl, rfl, rfl, by decide +kernel, rfl, by decide +kernel, by decide +kernel⟩
abbrev N_l_any_thing : List Str := ["_law_hand", "_law_some"]
abbrev p_l_any_thing : List Str := ["_law_hand"]
theorem sc_l_any_thing : FnScope N_l_any_thing p_l_any_thing (defScope s_l_any_thing) := ⟨rfl, rfl, rfl, by decide +kernel, rfl, by decide +kernel, by decide +kernel⟩
abbrev N_l_figures : List Str := ["_law_word", "_law_sign"]
abbrev p_l_figures : List Str := ["_law_word"]
theorem sc_l_figures : FnScope N_l_figures p_l_figures (defScope s_l_figures) := ⟨rfl, rfl, rfl, by decide +kernel, rfl, by decide +kernel, by decide +kernel⟩
abbrev N_l_read : List Str := ["_law_line", "_law_below", "_law_body", "_law_ahead", "_law_blank", "_law_part", "_law_whole", "_law_top", "_law_bottom", "_law_word"]
abbrev p_l_read : List Str := ["_law_line"]
theorem sc_l_read : FnScope N_l_read p_l_read (defScope s_l_read) := ⟨rfl, rfl, rfl, by decide +kernel, rfl, by decide +kernel, by decide +kernel⟩
abbrev N_l_number_of : List Str := ["_law_hand", "_law_size", "_law_least"]
abbrev p_l_number_of : List Str := ["_law_hand"]
theorem sc_l_number_of : FnScope N_l_number_of p_l_number_of (defScope s_l_number_of) := ⟨rfl, rfl, rfl, by decide +kernel, rfl, by decide +kernel, by decide +kernel⟩
abbrev N_l_text_of : List Str := ["_law_hand", "_law_form", "_law_whole", "_law_top", "_law_more", "_law_sign", "_law_part", "_law_rest"]
abbrev p_l_text_of : List Str := ["_law_hand"]
theorem sc_l_text_of : FnScope N_l_text_of p_l_text_of (defScope s_l_text_of) := ⟨rfl, rfl, rfl, by decide +kernel, rfl, by decide +kernel, by decide +kernel⟩
abbrev N_l_bent : List Str := ["_law_hand", "_law_line", "_law_choice", "_law_at", "_law_sign", "_law_words", "_law_some"]
abbrev p_l_bent : List Str := ["_law_hand", "_law_line"]
theorem sc_l_bent : FnScope N_l_bent p_l_bent (defScope s_l_bent) := ⟨rfl, rfl, rfl, by decide +kernel, rfl, by decide +kernel, by decide +kernel⟩
abbrev N_l_right : List Str := ["_law_line", "_law_due", "_law_found", "e", "_law_others"]
abbrev p_l_right : List Str := ["_law_line"]
theorem sc_l_right : FnScope N_l_right p_l_right (defScope s_l_right) := ⟨rfl, rfl, rfl, by decide +kernel, rfl, by decide +kernel, by decide +kernel⟩
abbrev N_l_refused : List Str := ["_law_thing", "_law_refused_here"]
abbrev p_l_refused : List Str := ["_law_thing"]
theorem sc_l_refused : FnScope N_l_refused p_l_refused (defScope s_l_refused) := ⟨rfl, rfl, rfl, by decide +kernel, rfl, by decide +kernel, by decide +kernel⟩
abbrev N_law : List Str := ["_law_script", "_law_long", "_law_texts", "_law_k", "_law_hand", "_law_thing", "_law_line", "_law_turn", "_law_bent_here"]
abbrev p_law : List Str := ["_law_script"]
theorem sc_law : FnScope N_law p_law (defScope s_law) := ⟨rfl, rfl, rfl, by decide +kernel, rfl, by decide +kernel, by decide +kernel⟩
/-! ### what the top has written -/
structure Fds where
  is_whole : FuncData
  common_part : FuncData
  written : FuncData
  Measure_init : FuncData
  Measure_str : FuncData
  Measure_times : FuncData
  number_words : FuncData
  is_number_word : FuncData
  loosely_read : FuncData
  measure_in : FuncData
  read_measure : FuncData
  l_hand_of : FuncData
  l_take : FuncData
  l_common : FuncData
  l_is : FuncData
  l_nest : FuncData
  l_any_thing : FuncData
  l_figures : FuncData
  l_read : FuncData
  l_number_of : FuncData
  l_text_of : FuncData
  l_bent : FuncData
  l_right : FuncData
  l_refused : FuncData
  law : FuncData
structure Txt (K : PySem.W.Frag) (mg : Str → Option Value) (φ : Fds) : Prop where
  g_is_whole : mg "is_whole" = some (.ref (He.ga K "is_whole"))
  g_common_part : mg "common_part" = some (.ref (He.ga K "common_part"))
  g_written : mg "written" = some (.ref (He.ga K "written"))
  g_number_words : mg "number_words" = some (.ref (He.ga K "number_words"))
  g_is_number_word : mg "is_number_word" = some (.ref (He.ga K "is_number_word"))
  g_loosely_read : mg "loosely_read" = some (.ref (He.ga K "loosely_read"))
  g_measure_in : mg "measure_in" = some (.ref (He.ga K "measure_in"))
  g_read_measure : mg "read_measure" = some (.ref (He.ga K "read_measure"))
  g_l_hand_of : mg "_law_hand_of" = some (.ref (He.ga K "_law_hand_of"))
  g_l_take : mg "_law_take" = some (.ref (He.ga K "_law_take"))
  g_l_common : mg "_law_common" = some (.ref (He.ga K "_law_common"))
  g_l_is : mg "_law_is" = some (.ref (He.ga K "_law_is"))
  g_l_nest : mg "_law_nest" = some (.ref (He.ga K "_law_nest"))
  g_l_any_thing : mg "_law_any_thing" = some (.ref (He.ga K "_law_any_thing"))
  g_l_figures : mg "_law_figures" = some (.ref (He.ga K "_law_figures"))
  g_l_read : mg "_law_read" = some (.ref (He.ga K "_law_read"))
  g_l_number_of : mg "_law_number_of" = some (.ref (He.ga K "_law_number_of"))
  g_l_text_of : mg "_law_text_of" = some (.ref (He.ga K "_law_text_of"))
  g_l_bent : mg "_law_bent" = some (.ref (He.ga K "_law_bent"))
  g_l_right : mg "_law_right" = some (.ref (He.ga K "_law_right"))
  g_l_refused : mg "_law_refused" = some (.ref (He.ga K "_law_refused"))
  g_law : mg "law" = some (.ref (He.ga K "law"))
  g_Measure : mg "Measure" = some (.ref (He.ga K "Measure"))
  g_LadderError : mg "LadderError" = some (.ref (He.ga K "LadderError"))
  g_NoMeasure : mg "NoMeasure" = some (.ref (He.ga K "NoMeasure"))
  g_NoStretch : mg "NoStretch" = some (.ref (He.ga K "NoStretch"))
  g_NoLadder : mg "NoLadder" = some (.ref (He.ga K "NoLadder"))
  g_NoLine : mg "NoLine" = some (.ref (He.ga K "NoLine"))
  g_Slip : mg "Slip" = some (.ref (He.ga K "Slip"))
  g_NoText : mg "NoText" = some (.ref (He.ga K "NoText"))
  v_FIGURES : ∃ t, mg "FIGURES" = some (.str "0123456789" t)
  v_MOST_FIGURES : ∃ t, mg "MOST_FIGURES" = some (.int 12 t)
  z_ValueError : mg "ValueError" = none
  z_abs : mg "abs" = none
  z_all : mg "all" = none
  z_bool : mg "bool" = none
  z_divmod : mg "divmod" = none
  z_int : mg "int" = none
  z_isinstance : mg "isinstance" = none
  z_len : mg "len" = none
  z_min : mg "min" = none
  z_range : mg "range" = none
  z_str : mg "str" = none
  cl_Measure : Cls K (He.ga K "Measure")
  na_Measure_top : NoAttr K (He.ga K "Measure") "top"
  na_Measure_bottom : NoAttr K (He.ga K "Measure") "bottom"
  me_Measure_str : Meth K (He.ga K "Measure") "__str__" (He.ma K (He.ga K "Measure") "__str__")
  me_Measure_times : Meth K (He.ga K "Measure") "times" (He.ma K (He.ga K "Measure") "times")
  mk_Measure : Mk K (He.ga K "Measure") (He.ma K (He.ga K "Measure") "__init__")
  ii_Measure : IsC K (He.ga K "Measure")
  ec_Measure : EqC K (He.ga K "Measure")
  xc_NoMeasure : ExcC K (He.ga K "NoMeasure")
  xf_NoMeasure : ExcF K (He.ga K "NoMeasure") [.type "ValueError", .type "Exception", .type "BaseException", .type "object"] "ValueError.__new__"
  xm_NoMeasure_LadderError : PySem.W.exmOne K (.ref (He.ga K "NoMeasure")) (.ref (He.ga K "LadderError")) = some true
  xm_NoMeasure_NoMeasure : PySem.W.exmOne K (.ref (He.ga K "NoMeasure")) (.ref (He.ga K "NoMeasure")) = some true
  k_Measure_Measure : PySem.W.kitOne K (.ref (He.ga K "Measure")) (.ref (He.ga K "Measure")) = some true
  k_Measure_str : PySem.W.kitOne K (.ref (He.ga K "Measure")) (.type "str") = some false
  k_NoMeasure_NoStretch : PySem.W.kitOne K (.ref (He.ga K "NoMeasure")) (.ref (He.ga K "NoStretch")) = some false
  k_NoMeasure_NoLadder : PySem.W.kitOne K (.ref (He.ga K "NoMeasure")) (.ref (He.ga K "NoLadder")) = some false
  k_NoMeasure_NoLine : PySem.W.kitOne K (.ref (He.ga K "NoMeasure")) (.ref (He.ga K "NoLine")) = some false
  k_NoMeasure_Slip : PySem.W.kitOne K (.ref (He.ga K "NoMeasure")) (.ref (He.ga K "Slip")) = some false
  k_NoMeasure_NoText : PySem.W.kitOne K (.ref (He.ga K "NoMeasure")) (.ref (He.ga K "NoText")) = some false
  k_NoMeasure_NoMeasure : PySem.W.kitOne K (.ref (He.ga K "NoMeasure")) (.ref (He.ga K "NoMeasure")) = some true
  k_NoMeasure_ValueError : PySem.W.kitOne K (.ref (He.ga K "NoMeasure")) (.type "ValueError") = some true
  f_is_whole : FunD K "is_whole" "is_whole" (defArgs s_is_whole) (defBody s_is_whole) (defScope s_is_whole) [] [] (He.fAd K ("is_whole", none)) φ.is_whole
  f_common_part : FunD K "common_part" "common_part" (defArgs s_common_part) (defBody s_common_part) (defScope s_common_part) [] [] (He.fAd K ("common_part", none)) φ.common_part
  f_written : FunD K "written" "written" (defArgs s_written) (defBody s_written) (defScope s_written) [] [] (He.fAd K ("written", none)) φ.written
  f_Measure_init : FunD K "__init__" "Measure.__init__" (defArgs s_Measure_init) (defBody s_Measure_init) (defScope s_Measure_init) [V.int 1] [] (He.fAd K ("Measure", some "__init__")) φ.Measure_init
  f_Measure_str : FunD K "__str__" "Measure.__str__" (defArgs s_Measure_str) (defBody s_Measure_str) (defScope s_Measure_str) [] [] (He.fAd K ("Measure", some "__str__")) φ.Measure_str
  f_Measure_times : FunD K "times" "Measure.times" (defArgs s_Measure_times) (defBody s_Measure_times) (defScope s_Measure_times) [] [] (He.fAd K ("Measure", some "times")) φ.Measure_times
  f_number_words : FunD K "number_words" "number_words" (defArgs s_number_words) (defBody s_number_words) (defScope s_number_words) [] [] (He.fAd K ("number_words", none)) φ.number_words
  f_is_number_word : FunD K "is_number_word" "is_number_word" (defArgs s_is_number_word) (defBody s_is_number_word) (defScope s_is_number_word) [] [] (He.fAd K ("is_number_word", none)) φ.is_number_word
  f_loosely_read : FunD K "loosely_read" "loosely_read" (defArgs s_loosely_read) (defBody s_loosely_read) (defScope s_loosely_read) [] [] (He.fAd K ("loosely_read", none)) φ.loosely_read
  f_measure_in : FunD K "measure_in" "measure_in" (defArgs s_measure_in) (defBody s_measure_in) (defScope s_measure_in) [] [] (He.fAd K ("measure_in", none)) φ.measure_in
  f_read_measure : FunD K "read_measure" "read_measure" (defArgs s_read_measure) (defBody s_read_measure) (defScope s_read_measure) [] [] (He.fAd K ("read_measure", none)) φ.read_measure
  f_l_hand_of : FunD K "_law_hand_of" "_law_hand_of" (defArgs s_l_hand_of) (defBody s_l_hand_of) (defScope s_l_hand_of) [] [] (He.fAd K ("_law_hand_of", none)) φ.l_hand_of
  f_l_take : FunD K "_law_take" "_law_take" (defArgs s_l_take) (defBody s_l_take) (defScope s_l_take) [] [] (He.fAd K ("_law_take", none)) φ.l_take
  f_l_common : FunD K "_law_common" "_law_common" (defArgs s_l_common) (defBody s_l_common) (defScope s_l_common) [] [] (He.fAd K ("_law_common", none)) φ.l_common
  f_l_is : FunD K "_law_is" "_law_is" (defArgs s_l_is) (defBody s_l_is) (defScope s_l_is) [] [] (He.fAd K ("_law_is", none)) φ.l_is
  f_l_nest : FunD K "_law_nest" "_law_nest" (defArgs s_l_nest) (defBody s_l_nest) (defScope s_l_nest) [] [] (He.fAd K ("_law_nest", none)) φ.l_nest
  f_l_any_thing : FunD K "_law_any_thing" "_law_any_thing" (defArgs s_l_any_thing) (defBody s_l_any_thing) (defScope s_l_any_thing) [] [] (He.fAd K ("_law_any_thing", none)) φ.l_any_thing
  f_l_figures : FunD K "_law_figures" "_law_figures" (defArgs s_l_figures) (defBody s_l_figures) (defScope s_l_figures) [] [] (He.fAd K ("_law_figures", none)) φ.l_figures
  f_l_read : FunD K "_law_read" "_law_read" (defArgs s_l_read) (defBody s_l_read) (defScope s_l_read) [] [] (He.fAd K ("_law_read", none)) φ.l_read
  f_l_number_of : FunD K "_law_number_of" "_law_number_of" (defArgs s_l_number_of) (defBody s_l_number_of) (defScope s_l_number_of) [] [] (He.fAd K ("_law_number_of", none)) φ.l_number_of
  f_l_text_of : FunD K "_law_text_of" "_law_text_of" (defArgs s_l_text_of) (defBody s_l_text_of) (defScope s_l_text_of) [] [] (He.fAd K ("_law_text_of", none)) φ.l_text_of
  f_l_bent : FunD K "_law_bent" "_law_bent" (defArgs s_l_bent) (defBody s_l_bent) (defScope s_l_bent) [] [] (He.fAd K ("_law_bent", none)) φ.l_bent
  f_l_right : FunD K "_law_right" "_law_right" (defArgs s_l_right) (defBody s_l_right) (defScope s_l_right) [] [] (He.fAd K ("_law_right", none)) φ.l_right
  f_l_refused : FunD K "_law_refused" "_law_refused" (defArgs s_l_refused) (defBody s_l_refused) (defScope s_l_refused) [] [] (He.fAd K ("_law_refused", none)) φ.l_refused
  f_law : FunD K "law" "law" (defArgs s_law) (defBody s_law) (defScope s_law) [] [] (He.fAd K ("law", none)) φ.law
def sp_written : Sp := fun vs H Q _ => ∃ a u : Int, vs = [.int a, .int u] ∧ 0 ≤ a ∧ 0 < u ∧ Sz 1900 a ∧ Sz 1900 u ∧ ∀ H', Same H H' → Q (.str (wTxt a u)) H'
def sp_mstr (C : Addr) : Sp := fun vs H Q _ => ∃ (p : Addr) (t u : Int), vs = [.ref p] ∧ MAt C H p t u ∧ 0 < u ∧ Sz 1900 t ∧ Sz 1900 u ∧ ∀ H', Same H H' → Q (.str (mTxt t u)) H'
def sp_mrep (C : Addr) : Sp := fun vs H Q _ => ∃ (p : Addr) (t u : Int), vs = [.ref p] ∧ MAt C H p t u ∧ Sz 1900 t ∧ Sz 1900 u ∧ Q (.str (mRep t u)) H

def sp_nw : Sp := fun vs H Q _ => ∃ l : List Nat, vs = [.str (St8 l)] ∧ l.length ≤ 1000000 ∧ ∀ (p : Addr) (H' : Hp), Same H H' → H' p = some (.tup [.str (St8 (nwL l).1), .str (St8 (nwL l).2.1), .str (St8 (nwL l).2.2)]) → Q (.ref p) H'
def sp_isnum : Sp := fun vs H Q _ => ∃ l : List Nat, vs = [.str (St8 l)] ∧ l.length ≤ 2000000 ∧ ∀ H', Same H H' → Q (.bl (isNumL l)) H'
def sp_loose (C : Addr) : Sp := fun vs H Q _ => ∃ l : List Nat, vs = [.str (St8 l)] ∧ l.length ≤ 1000000 ∧ (looseL l = none → ∀ H', Same H H' → Q .non H') ∧
  (∀ a, looseL l = some a → ∀ (r : Addr) (t u : Int) (H' : Hp), Same H H' → MAt C H' r t u → Fr t u a.1 a.2 → Q (.ref r) H')
def sp_read (C : Addr) : Sp := fun vs H Q _ => ∃ (l : List Nat) (a : Q2), vs = [.str (St8 l)] ∧ l.length ≤ 1000000 ∧ looseL l = some a ∧ (∀ t u, Fr t u a.1 a.2 → mL t u = l) ∧
  ∀ (r : Addr) (t u : Int) (H' : Hp), Same H H' → MAt C H' r t u → Fr t u a.1 a.2 → Q (.ref r) H'

def figVal : Option Int → V
  | some n => .int n
  | none => .non
def sp_fig : Sp := fun vs H Q _ => ∃ l : List Nat, vs = [.str (St8 l)] ∧ l.length ≤ 2000000 ∧ ∀ H', Same H H' → Q (figVal (figL l)) H'
def ReadV (H : Hp) (v : V) : Option Q2 → Prop
  | none => v = .non
  | some x => ∃ p, v = .ref p ∧ H p = some (.tup [.int x.1, .int x.2])
def sp_lread : Sp := fun vs H Q _ => ∃ l : List Nat, vs = [.str (St8 l)] ∧ l.length ≤ 1000000 ∧ ∀ (v : V) (H' : Hp), Same H H' → ReadV H' v (lawL l) → Q v H'
def sp_readX (C CN : Addr) : Sp := fun vs H Q E => ∃ l : List Nat, vs = [.str (St8 l)] ∧ l.length ≤ 1000000 ∧ (∀ x : Q2, lawL l = some x → ∀ (r : Addr) (H' : Hp), Same H H' → MAt C H' r x.1 x.2 → Q (.ref r) H') ∧ (lawL l = none → ∀ H', Same H H' → E (.ref CN) none H')
def NoStr (C : Addr) (H : Hp) (v : V) : Prop := ((∃ hd, Thing hd H v) ∧ ∀ z, v ≠ .str z) ∨ ∃ p t u, v = .ref p ∧ MAt C H p t u
def sp_readB (C CN : Addr) : Sp := fun vs H _ E => ∃ v : V, vs = [v] ∧ NoStr C H v ∧ E (.ref CN) none H
theorem isZ {l : List Nat} : decide (V.str (St8 l) = V.str (Str.ofString "0")) = decide (l = [48]) := by
  refine decide_eq_decide.mpr ⟨fun h => ?_, fun h => by rw [h, c_zero]⟩
  have e := V.str.inj h
  rw [c_zero] at e
  exact SX.S_inj e
theorem isZ1 {c : Nat} : decide (V.str ⟨#[c]⟩ = V.str (Str.ofString "0")) = decide (c = 48) := by
  refine decide_eq_decide.mpr ⟨fun h => ?_, fun h => by rw [h, c_zero]⟩
  have e := V.str.inj h
  rw [c_zero] at e
  have := SX.S_inj (a := [c]) (b := [48]) e
  exact (List.cons.inj this).1
theorem isM {l : List Nat} : decide (V.str (cutS (St8 l) none (some 1)) = V.str (Str.ofString "-")) = sw 45 l := by
  have e : cutS (St8 l) none (some 1) = St8 (l.take 1) := cutS_to (i := 1)
  rw [e, c_minus]
  cases l with
  | nil => exact decide_eq_false fun h => absurd (SX.S_inj (V.str.inj h)) (by simp)
  | cons x r =>
    show decide (V.str (St8 [x]) = V.str (St8 [45])) = decide (x = 45)
    refine decide_eq_decide.mpr ⟨fun h => ?_, fun h => by rw [h]⟩
    exact (List.cons.inj (SX.S_inj (V.str.inj h))).1
theorem body_cut {l : List Nat} (h : sw 45 l = true) : cutS (St8 l) (some 1) none = St8 (bodyL l) := by
  have e : cutS (St8 l) (some 1) none = St8 (l.drop 1) := cutS_from (i := 1)
  rw [e]
  cases l with
  | nil => cases h
  | cons x r =>
    have : x = 45 := of_decide_eq_true h
    show St8 r = St8 (if x = 45 then r else x :: r)
    rw [if_pos this]
theorem body_no {l : List Nat} (h : sw 45 l = false) : l = bodyL l := by
  cases l with
  | nil => rfl
  | cons x r =>
    have : ¬ x = 45 := of_decide_eq_false h
    exact (if_neg this).symm
theorem sgnB (b : Bool) : (1 - 2 * (if b then 1 else 0) : Int) = if b then -1 else 1 := by cases b <;> rfl
theorem fig_sz {l : List Nat} {n : Int} (h : figL l = some n) : 0 ≤ n ∧ Sz 40 n := by
  obtain ⟨k, rfl, hk, _⟩ := fig_some h
  exact ⟨by omega, by show ((k : Int)).natAbs < 2 ^ 40; omega⟩

def sp_minX (C : Addr) : Sp := fun vs H Q _ => ∃ l : List Nat, vs = [.str (St8 l)] ∧ l.length ≤ 1000000 ∧ (∀ x : Q2, lawL l = some x → ∀ (r : Addr) (H' : Hp), Same H H' → MAt C H' r x.1 x.2 → Q (.ref r) H') ∧ (lawL l = none → ∀ H', Same H H' → Q .non H')

def sp_lright : Sp := fun vs H Q _ => ∃ l : List Nat, vs = [.str (St8 l)] ∧ l.length ≤ 100000 ∧ ∀ H', Same H H' → Q (.bl true) H'
def sp_lrefused (C : Addr) : Sp := fun vs H Q _ => ∃ v : V, vs = [v] ∧ NoStr C H v ∧ Q (.bl true) H

def sp_num : Sp := fun vs H Q _ => ∃ (h : Addr) (n : Nat), vs = [.ref h] ∧ HandAt H h n ∧ n < 100000 ∧ ∀ (z : Int) (H' : Hp), 0 < z → z < 10 ^ 13 → HandAt H' h (n + 3) → Kp h H H' → Q (.int z) H'
def sp_text : Sp := fun vs H Q _ => ∃ (h : Addr) (n : Nat), vs = [.ref h] ∧ HandAt H h n ∧ n < 10000 ∧ ∀ (z : Str) (H' : Hp), z.length ≤ 7000 → HandAt H' h (n + 11) → Kp h H H' → Q (.str z) H'
def sp_bent : Sp := fun vs H Q _ => ∃ (h : Addr) (n : Nat) (z : Str), vs = [.ref h, .str z] ∧ z.length ≤ 30000 ∧ HandAt H h n ∧ n < 10000 ∧ ∀ (z' : Str) (H' : Hp), z'.length ≤ 3 * z.length + 100 → HandAt H' h (n + 3) → Kp h H H' → Q (.str z') H'
def sp_thingS : Sp := fun vs H Q _ => ∃ (h : Addr) (n : Nat), vs = [.ref h] ∧ HandAt H h n ∧ n < 10000 ∧ ∀ (v : V) (H' : Hp), Thing h H' v → (∀ i : Str, v ≠ .str i) → HandAt H' h (n + 2) → Kp h H H' → Q v H'

def sp_law (K : PySem.W.Frag) : Sp := fun vs H Q _ => ∃ (a : Addr) (ns : List Int), vs = [.ref a] ∧ SqL K H a (ns.map V.int) ∧ ns.length ≤ 63 ∧ ∀ H', Q (.bl true) H'

theorem b_is_whole_1 {K : PySem.W.Frag} {mg : Str → Option Value} {φ : Fds} (T : Txt K mg φ) : ∃ ds, Vals ([] : List V) ds ∧ Binds K φ.is_whole p_is_whole ds :=
  ⟨[], .nil, T.f_is_whole.bindsN fun _ _ _ _ _ _ us hl => match us, hl with | [_], _ => rfl⟩
theorem b_common_part_2 {K : PySem.W.Frag} {mg : Str → Option Value} {φ : Fds} (T : Txt K mg φ) : ∃ ds, Vals ([] : List V) ds ∧ Binds K φ.common_part p_common_part ds :=
  ⟨[], .nil, T.f_common_part.bindsN fun _ _ _ _ _ _ us hl => match us, hl with | [_, _], _ => rfl⟩
theorem b_written_2 {K : PySem.W.Frag} {mg : Str → Option Value} {φ : Fds} (T : Txt K mg φ) : ∃ ds, Vals ([] : List V) ds ∧ Binds K φ.written p_written ds :=
  ⟨[], .nil, T.f_written.bindsN fun _ _ _ _ _ _ us hl => match us, hl with | [_, _], _ => rfl⟩
theorem b_Measure_init_3 {K : PySem.W.Frag} {mg : Str → Option Value} {φ : Fds} (T : Txt K mg φ) : ∃ ds, Vals ([] : List V) ds ∧ Binds K φ.Measure_init p_Measure_init ds :=
  T.f_Measure_init.binds1 3 1 (by simp) rfl fun _ _ _ _ _ _ _ us its h1 h2 => match us, its, h1, h2 with | [_, _, _], [_], _, _ => ⟨_, rfl, rfl⟩
theorem b_number_words_1 {K : PySem.W.Frag} {mg : Str → Option Value} {φ : Fds} (T : Txt K mg φ) : ∃ ds, Vals ([] : List V) ds ∧ Binds K φ.number_words p_number_words ds :=
  ⟨[], .nil, T.f_number_words.bindsN fun _ _ _ _ _ _ us hl => match us, hl with | [_], _ => rfl⟩
theorem b_is_number_word_1 {K : PySem.W.Frag} {mg : Str → Option Value} {φ : Fds} (T : Txt K mg φ) : ∃ ds, Vals ([] : List V) ds ∧ Binds K φ.is_number_word p_is_number_word ds :=
  ⟨[], .nil, T.f_is_number_word.bindsN fun _ _ _ _ _ _ us hl => match us, hl with | [_], _ => rfl⟩
theorem b_Measure_times_2 {K : PySem.W.Frag} {mg : Str → Option Value} {φ : Fds} (T : Txt K mg φ) : ∃ ds, Vals ([] : List V) ds ∧ Binds K φ.Measure_times p_Measure_times ds :=
  ⟨[], .nil, T.f_Measure_times.bindsN fun _ _ _ _ _ _ us hl => match us, hl with | [_, _], _ => rfl⟩
theorem b_Measure_init_2 {K : PySem.W.Frag} {mg : Str → Option Value} {φ : Fds} (T : Txt K mg φ) : ∃ ds, Vals ([V.int 1] : List V) ds ∧ Binds K φ.Measure_init p_Measure_init ds :=
  T.f_Measure_init.binds1 2 0 (by simp) rfl fun _ _ _ _ _ _ _ us its h1 h2 => match us, its, h1, h2 with | [_, _], [_], _, _ => ⟨_, rfl, rfl⟩
theorem b_loosely_read_1 {K : PySem.W.Frag} {mg : Str → Option Value} {φ : Fds} (T : Txt K mg φ) : ∃ ds, Vals ([] : List V) ds ∧ Binds K φ.loosely_read p_loosely_read ds :=
  ⟨[], .nil, T.f_loosely_read.bindsN fun _ _ _ _ _ _ us hl => match us, hl with | [_], _ => rfl⟩
theorem b_Measure_str_1 {K : PySem.W.Frag} {mg : Str → Option Value} {φ : Fds} (T : Txt K mg φ) : ∃ ds, Vals ([] : List V) ds ∧ Binds K φ.Measure_str p_Measure_str ds :=
  ⟨[], .nil, T.f_Measure_str.bindsN fun _ _ _ _ _ _ us hl => match us, hl with | [_], _ => rfl⟩
theorem b_measure_in_1 {K : PySem.W.Frag} {mg : Str → Option Value} {φ : Fds} (T : Txt K mg φ) : ∃ ds, Vals ([] : List V) ds ∧ Binds K φ.measure_in p_measure_in ds :=
  ⟨[], .nil, T.f_measure_in.bindsN fun _ _ _ _ _ _ us hl => match us, hl with | [_], _ => rfl⟩
theorem b_l_common_2 {K : PySem.W.Frag} {mg : Str → Option Value} {φ : Fds} (T : Txt K mg φ) : ∃ ds, Vals ([] : List V) ds ∧ Binds K φ.l_common p_l_common ds :=
  ⟨[], .nil, T.f_l_common.bindsN fun _ _ _ _ _ _ us hl => match us, hl with | [_, _], _ => rfl⟩
theorem b_l_figures_1 {K : PySem.W.Frag} {mg : Str → Option Value} {φ : Fds} (T : Txt K mg φ) : ∃ ds, Vals ([] : List V) ds ∧ Binds K φ.l_figures p_l_figures ds :=
  ⟨[], .nil, T.f_l_figures.bindsN fun _ _ _ _ _ _ us hl => match us, hl with | [_], _ => rfl⟩
theorem b_l_read_1 {K : PySem.W.Frag} {mg : Str → Option Value} {φ : Fds} (T : Txt K mg φ) : ∃ ds, Vals ([] : List V) ds ∧ Binds K φ.l_read p_l_read ds :=
  ⟨[], .nil, T.f_l_read.bindsN fun _ _ _ _ _ _ us hl => match us, hl with | [_], _ => rfl⟩
theorem b_read_measure_0_text {K : PySem.W.Frag} {mg : Str → Option Value} {φ : Fds} (T : Txt K mg φ) : ∃ its : List Value, KBn K φ.read_measure p_read_measure 0 ["text"] (fun vs zs => (fun {α : Type} (vs ds zs : List α) => (vs ++ (zs.drop 0).take 1)) vs its zs) (fun vs zs => (fun {α : Type} (vs ds zs : List α) => (vs ++ (zs.drop 0).take 1)) vs ([] : List V) zs) :=
  ⟨[], kb_none T.f_read_measure (fun {α : Type} (vs zs : List α) => (fun (ds : List α) => (vs ++ (zs.drop 0).take 1)) []) (fun a c => (a.append ((c.drop 0).take 1))) fun _ _ _ _ _ _ us ws h1 h2 => match us, ws, h1, h2 with | [], [_], _, _ => rfl⟩
theorem b_read_measure_1 {K : PySem.W.Frag} {mg : Str → Option Value} {φ : Fds} (T : Txt K mg φ) : ∃ ds, Vals ([] : List V) ds ∧ Binds K φ.read_measure p_read_measure ds :=
  ⟨[], .nil, T.f_read_measure.bindsN fun _ _ _ _ _ _ us hl => match us, hl with | [_], _ => rfl⟩
theorem b_l_is_3 {K : PySem.W.Frag} {mg : Str → Option Value} {φ : Fds} (T : Txt K mg φ) : ∃ ds, Vals ([] : List V) ds ∧ Binds K φ.l_is p_l_is ds :=
  ⟨[], .nil, T.f_l_is.bindsN fun _ _ _ _ _ _ us hl => match us, hl with | [_, _, _], _ => rfl⟩
theorem b_l_take_2 {K : PySem.W.Frag} {mg : Str → Option Value} {φ : Fds} (T : Txt K mg φ) : ∃ ds, Vals ([] : List V) ds ∧ Binds K φ.l_take p_l_take ds :=
  ⟨[], .nil, T.f_l_take.bindsN fun _ _ _ _ _ _ us hl => match us, hl with | [_, _], _ => rfl⟩
theorem b_l_number_of_1 {K : PySem.W.Frag} {mg : Str → Option Value} {φ : Fds} (T : Txt K mg φ) : ∃ ds, Vals ([] : List V) ds ∧ Binds K φ.l_number_of p_l_number_of ds :=
  ⟨[], .nil, T.f_l_number_of.bindsN fun _ _ _ _ _ _ us hl => match us, hl with | [_], _ => rfl⟩
theorem b_l_nest_1 {K : PySem.W.Frag} {mg : Str → Option Value} {φ : Fds} (T : Txt K mg φ) : ∃ ds, Vals ([] : List V) ds ∧ Binds K φ.l_nest p_l_nest ds :=
  ⟨[], .nil, T.f_l_nest.bindsN fun _ _ _ _ _ _ us hl => match us, hl with | [_], _ => rfl⟩
theorem b_l_right_1 {K : PySem.W.Frag} {mg : Str → Option Value} {φ : Fds} (T : Txt K mg φ) : ∃ ds, Vals ([] : List V) ds ∧ Binds K φ.l_right p_l_right ds :=
  ⟨[], .nil, T.f_l_right.bindsN fun _ _ _ _ _ _ us hl => match us, hl with | [_], _ => rfl⟩
theorem b_l_hand_of_2 {K : PySem.W.Frag} {mg : Str → Option Value} {φ : Fds} (T : Txt K mg φ) : ∃ ds, Vals ([] : List V) ds ∧ Binds K φ.l_hand_of p_l_hand_of ds :=
  ⟨[], .nil, T.f_l_hand_of.bindsN fun _ _ _ _ _ _ us hl => match us, hl with | [_, _], _ => rfl⟩
theorem b_l_text_of_1 {K : PySem.W.Frag} {mg : Str → Option Value} {φ : Fds} (T : Txt K mg φ) : ∃ ds, Vals ([] : List V) ds ∧ Binds K φ.l_text_of p_l_text_of ds :=
  ⟨[], .nil, T.f_l_text_of.bindsN fun _ _ _ _ _ _ us hl => match us, hl with | [_], _ => rfl⟩
theorem b_l_any_thing_1 {K : PySem.W.Frag} {mg : Str → Option Value} {φ : Fds} (T : Txt K mg φ) : ∃ ds, Vals ([] : List V) ds ∧ Binds K φ.l_any_thing p_l_any_thing ds :=
  ⟨[], .nil, T.f_l_any_thing.bindsN fun _ _ _ _ _ _ us hl => match us, hl with | [_], _ => rfl⟩
theorem b_l_refused_1 {K : PySem.W.Frag} {mg : Str → Option Value} {φ : Fds} (T : Txt K mg φ) : ∃ ds, Vals ([] : List V) ds ∧ Binds K φ.l_refused p_l_refused ds :=
  ⟨[], .nil, T.f_l_refused.bindsN fun _ _ _ _ _ _ us hl => match us, hl with | [_], _ => rfl⟩
theorem b_l_bent_2 {K : PySem.W.Frag} {mg : Str → Option Value} {φ : Fds} (T : Txt K mg φ) : ∃ ds, Vals ([] : List V) ds ∧ Binds K φ.l_bent p_l_bent ds :=
  ⟨[], .nil, T.f_l_bent.bindsN fun _ _ _ _ _ _ us hl => match us, hl with | [_, _], _ => rfl⟩
theorem ok_l_take {P : Program} {w : World} {K : PySem.W.Frag} {mg : Str → Option Value} {base : Heap} {φ : Fds} (T : Txt K mg φ) : FnOk P w K mg base CX0 1 (He.fAd K ("_law_take", none)) φ.l_take p_l_take sp_take := by
  refine T.f_l_take.ok sc_l_take (fun vs H Q E h => ?_) (fun cdv A outer s H vs Q E hr h => ?_)
  · obtain ⟨hd, n, m, rfl, hh, hn, hm, hl, k⟩ := h; rfl
  · obtain ⟨hd, n, m, rfl, hh, hn, hm, hl, k⟩ := h
    refine ⟨_, PSs.nox (pss_cons (ps_if (pt_cmpR op_gt (pe_ix (ixl (K := K)) (pv 0) pe_int (fun _ _ => rfl)) pe_int (nomark _))
      (pss_cons (ps_set (i := 2) sc_l_take.nd rfl (Or.inl rfl) (pe_op op_mod (pe_ix (ixl (K := K)) (pv 0) pe_int (fun _ _ => rfl)) (pv 1)))
      (pss_cons (ps_asg (pe_op op_fd (pe_ix (ixl (K := K)) (pv 0) pe_int (fun _ _ => rfl)) (pv 1)) (pg_sub (pv 0) pe_int set_list))
      (pss_one (ps_ret (pv 2)))))
      pss_nil)
      (pss_cons (ps_asg (pe_op op_add (pe_ix (ixl (K := K)) (pv 0) pe_int (fun _ _ => rfl)) pe_int) (pg_sub (pv 0) pe_int set_list))
      (pss_cons (ps_set (i := 3) sc_l_take.nd rfl (Or.inl rfl) (pe_op op_mod (pe_op op_pow (pe_op op_add (pe_op op_add (pe_ix (ixl (K := K)) (pv 0) pe_int (fun _ _ => rfl)) (pe_op op_mulA (pe_op op_mulA pe_int (pe_ix (ixl (K := K)) (pv 0) pe_int (fun _ _ => rfl))) (pe_ix (ixl (K := K)) (pv 0) pe_int (fun _ _ => rfl)))) pe_int) pe_int) pe_int))
      (pss_cons (ps_set (i := 3) sc_l_take.nd rfl (Or.inl rfl) (pe_op op_mod (pe_op op_mulA (pv 3) (pe_op op_add (pe_op op_mod (pv 3) pe_int) (pe_op op_mulA pe_int (pe_ix (ixl (K := K)) (pv 0) pe_int (fun _ _ => rfl))))) pe_int))
      (pss_one (ps_ret (pe_op op_mod (pe_op op_add (pe_op op_fd (pv 3) pe_int) (pe_op op_fd (pv 3) pe_int)) (pv 1)))))))), ?_⟩
    obtain ⟨a, b, c, h0, ha, hb, hb2, hc, hc2⟩ := hh
    refine ⟨_, rfl, _, _, _, _, rfl, rfl, SqL.of h0, rfl, _, _, rfl, rfl, _, rfl, ?_⟩
    refine ite2 (fun e => ?_) (fun e => ?_)
    · have e0 : 0 < a := of_decide_eq_true e
      refine ⟨_, rfl, _, _, _, _, rfl, rfl, SqL.of h0, rfl, _, rfl, _, _, rfl, rfl, hm, ?_⟩
      refine ⟨_, rfl, _, _, _, _, rfl, rfl, SqL.of h0, rfl, _, rfl, _, _, rfl, rfl, ⟨by omega, hl⟩, _, rfl, _, _, _, _, rfl, rfl, h0, rfl, ?_⟩
      refine ⟨_, rfl, k _ _ (Int.emod_nonneg _ (by omega)) (Int.emod_lt_of_pos _ hm) ⟨a.fdiv m, b, c, upd_same, ?_, hb, hb2, hc, by omega⟩ (Kp.refl _ _).set⟩
      rw [Int.fdiv_eq_ediv_of_nonneg a (by omega)]
      exact Int.ediv_nonneg ha (by omega)
    · have c9 : c ≤ 1000000 := by omega
      refine ⟨_, rfl, _, _, _, _, rfl, rfl, SqL.of h0, rfl, _, _, rfl, rfl, _, rfl, _, _, _, _, rfl, rfl, h0, rfl, ?_⟩
      have h1 : (upd H hd (.lst ([V.int a, V.int b, V.int c].set 2 (V.int (c + 1))))) hd = some (.lst [V.int a, V.int b, V.int (c + 1)]) := upd_same
      have hcc : 0 ≤ 65537 * (c + 1) * (c + 1) := Int.mul_nonneg (Int.mul_nonneg (by omega) (by omega)) (by omega)
      have hcd : 65537 * (c + 1) * (c + 1) ≤ 65537 * 1000001 * 1000001 := Int.mul_le_mul (Int.mul_le_mul_of_nonneg_left (by omega) (by omega)) (by omega) (by omega) (by omega)
      refine ⟨_, rfl, _, _, _, _, rfl, rfl, SqL.of h1, rfl, _, rfl, _, _, _, _, rfl, rfl, SqL.of h1, rfl, _, _, rfl, rfl, .inl (.inl ⟨by decide, by decide⟩), _, rfl, _, _, _, _, rfl, rfl, SqL.of h1, rfl, _, _, rfl, rfl, .inl (.inr ⟨by omega, by omega⟩), _, _, rfl, rfl, _, _, rfl, rfl, _, _, rfl, rfl, ⟨by decide, by decide, by omega⟩, _, _, rfl, rfl, (by show (0 : Int) < 2305843009213693921; decide), ?_⟩
      refine ⟨_, rfl, _, rfl, _, _, rfl, rfl, (by show (0 : Int) < 1000003; decide), _, rfl, _, _, _, _, rfl, rfl, SqL.of h1, rfl, _, _, rfl, rfl, .inl (.inl ⟨by decide, by decide⟩), _, _, rfl, rfl, _, _, rfl, rfl, .inl (.inr ?_), _, _, rfl, rfl, (by show (0 : Int) < 2305843009213693907; decide), ?_⟩
      · generalize (b + 65537 * (c + 1) * (c + 1) + 11) ^ Int.toNat 3 % 2305843009213693921 = z
        constructor <;> omega
      · generalize (b + 65537 * (c + 1) * (c + 1) + 11) ^ Int.toNat 3 % 2305843009213693921 = z
        generalize z * (z % 1000003 + 99991 * (c + 1)) % 2305843009213693907 = y
        refine ⟨_, rfl, _, _, rfl, rfl, ⟨by decide, by decide +kernel⟩, _, rfl, _, _, rfl, rfl, ⟨by decide, by decide +kernel⟩, _, _, rfl, rfl, _, rfl, _, _, rfl, rfl, hm, ?_⟩
        exact k _ _ (Int.emod_nonneg _ (by omega)) (Int.emod_lt_of_pos _ hm) ⟨a, b, c + 1, upd_same, ha, hb, hb2, by omega, by omega⟩ (Kp.refl _ _).set
theorem ok_l_hand_of {P : Program} {w : World} {K : PySem.W.Frag} {mg : Str → Option Value} {base : Heap} {φ : Fds} (T : Txt K mg φ) : FnOk P w K mg base CX0 1 (He.fAd K ("_law_hand_of", none)) φ.l_hand_of p_l_hand_of (sp_hand K) := by
  refine T.f_l_hand_of.ok sc_l_hand_of (fun vs H Q E h => ?_) (fun cdv A outer s H vs Q E hr h => ?_)
  · obtain ⟨a, ns, kk, rfl, hS, hk, k⟩ := h; rfl
  · obtain ⟨a, ns, kk, rfl, hS, hk, k⟩ := h
    refine ⟨_, PSs.nox (pss_cons (ps_set (i := 2) sc_l_hand_of.nd rfl (Or.inl rfl) pe_int)
      (pss_cons (ps_cut (ps_if (pt_cmpR op_lt (pv 1) (pe_callB (id := "len") (lenS (K := K)) (by rfl) T.z_len PySem.boot_len (pa_cons (pv 0) pa_nil)) (nomark _))
      (pss_one (ps_set (i := 2) sc_l_hand_of.nd rfl (Or.inl rfl) (pe_ix (ixl (K := K)) (pv 0) (pv 1) (fun _ _ => rfl))))
      pss_nil))
      (pss_cons (ps_set (i := 3) sc_l_hand_of.nd rfl (Or.inl rfl) (pe_op op_mod (pe_op op_add (pe_op op_add (pe_op op_mod (pv 2) pe_int) (pe_op op_mulA pe_int (pv 1))) pe_int) pe_int))
      (pss_one (ps_ret (pe_lst (pa_cons (pe_op op_mulA (pv 2) (pe_callTy (T := "int") call_int1 (by rfl) T.z_int (by decide +kernel) (pa_cons (pe_cmpR op_ge (pv 2) (pe_op op_pow pe_int pe_int) (nomark _)) pa_nil))) (pa_cons (pv 3) (pa_cons pe_int pa_nil))))))))), ?_⟩
    refine ⟨fun σ' H' => H' = H ∧ ∃ z : Int, σ' = [some (.ref a), some (.int kk), some (.int z), none], ?_, ?_⟩
    · refine ⟨_, rfl, _, rfl, a, _, rfl, .inl hS, _, _, rfl, rfl, _, rfl, ?_⟩
      refine ite2 (fun e => ?_) (fun e => ?_)
      · have e0 : (kk : Int) < ((ns.map V.int).length : Int) := of_decide_eq_true e
        rw [List.length_map] at e0
        have e1 : kk < ns.length := by omega
        refine ⟨_, rfl, _, rfl, a, _, _, V.int ns[kk], rfl, rfl, hS, atI_nat ?_, rfl, _, rfl⟩
        rw [List.getElem?_map, List.getElem?_eq_getElem e1]
        rfl
      · exact ⟨rfl, 0, rfl⟩
    · rintro σ' H' ⟨rfl, z, rfl⟩
      refine ⟨_, rfl, _, _, rfl, rfl, (by show (0 : Int) < 2305843009213693951; decide), _, rfl, _, _, rfl, rfl, .inl (.inl ⟨by decide, by decide⟩), _, _, rfl, rfl, _, _, rfl, rfl, _, _, rfl, rfl, (by show (0 : Int) < 2305843009213693951; decide), ?_⟩
      refine ⟨_, rfl, _, rfl, _, _, rfl, rfl, ⟨by decide, by decide, by decide⟩, _, _, rfl, rfl, .inr ⟨_, rfl, _, _, rfl, rfl, .inl (.inr ?_), _, rfl, by show 3 ≤ sizeLine; decide, fun p hp => ?_⟩⟩
      · cases decide ((10 : Int) ^ Int.toNat 18 ≤ z) <;> exact ⟨by decide, by decide⟩
      · refine k p _ hp (same1 hp) ⟨_, _, _, upd_same, ?_, Int.emod_nonneg _ (by decide), Int.lt_trans (Int.emod_lt_of_pos _ (by decide)) (by decide), by decide, by decide⟩
        by_cases e : (10 : Int) ^ Int.toNat 18 ≤ z
        · rw [decide_eq_true e]
          have e2 : (10 : Int) ^ Int.toNat 18 = 1000000000000000000 := by decide
          rw [e2] at e
          show 0 ≤ z * 1
          omega
        · rw [decide_eq_false e]
          show 0 ≤ z * 0
          omega
theorem ok_is_whole {P : Program} {w : World} {K : PySem.W.Frag} {mg : Str → Option Value} {base : Heap} {φ : Fds} (T : Txt K mg φ) : FnOk P w K mg base CX0 1 (He.fAd K ("is_whole", none)) φ.is_whole p_is_whole sp_whole := by
  refine T.f_is_whole.ok sc_is_whole (fun vs H Q E h => ?_) (fun cdv A outer s H vs Q E hr h => ?_)
  · obtain ⟨n, rfl, k⟩ := h; rfl
  · obtain ⟨n, rfl, k⟩ := h
    refine ⟨_, PSs.nox (pss_one (ps_ret (pe_and (pe_callB (id := "isinstance") (isi (K := K)) (by rfl) T.z_isinstance (by decide +kernel) (pa_cons (pv 0) (pa_cons (pe_bltn (v := .ty "int") rfl T.z_int (by decide +kernel) rfl) pa_nil))) (pe_one (pe_not (pe_callB (id := "isinstance") (isi (K := K)) (by rfl) T.z_isinstance (by decide +kernel) (pa_cons (pv 0) (pa_cons (pe_bltn (v := .ty "bool") rfl T.z_bool (by decide +kernel) rfl) pa_nil)))))))), ?_⟩
    refine ⟨_, rfl, _, _, _, _, _, rfl, .ty _, .base (.int _), kit_ty (r := true) (by decide +kernel), _, rfl, ?_⟩
    refine iteT ?_
    refine ⟨_, rfl, _, _, _, _, _, rfl, .ty _, .base (.int _), kit_ty (r := false) (by decide +kernel), _, rfl, ?_⟩
    exact k
theorem ok_common_part {P : Program} {w : World} {K : PySem.W.Frag} {mg : Str → Option Value} {base : Heap} {φ : Fds} (T : Txt K mg φ) : FnOk P w K mg base CX0 1 (He.fAd K ("common_part", none)) φ.common_part p_common_part sp_common := by
  refine T.f_common_part.ok sc_common_part (fun vs H Q E h => ?_) (fun cdv A outer s H vs Q E hr h => ?_)
  · obtain ⟨a, b, rfl, k⟩ := h; rfl
  · obtain ⟨a, b, rfl, k⟩ := h
    refine ⟨_, PSs.nox (pss_cons (ps_par (i := 2) (j := 3) rfl sc_common_part.nd rfl rfl (by decide) rfl rfl (pa_cons (pe_callB (id := "abs") call_abs (by rfl) T.z_abs (by decide +kernel) (pa_cons (pv 0) pa_nil)) (pa_cons (pe_callB (id := "abs") call_abs (by rfl) T.z_abs (by decide +kernel) (pa_cons (pv 1) pa_nil)) pa_nil)) (by rfl))
      (pss_cons (ps_while PassesOwn.never (pt_cmpR op_gt (pv 3) pe_int (nomark _))
      (pss_one (ps_par (i := 2) (j := 3) rfl sc_common_part.nd rfl rfl (by decide) rfl rfl (pa_cons (pv 3) (pa_cons (pe_op op_mod (pv 2) (pv 3)) pa_nil)) (by rfl))))
      (pss_one (ps_ret (pv 2))))), ?_⟩
    refine ⟨_, rfl, _, rfl, _, rfl, _, rfl, _, _, rfl, ?_⟩
    refine while_by (fun σ H' => H' = H ∧ ∃ g s : Int, σ = [some (.int a), some (.int b), some (.int g), some (.int s)] ∧ 0 ≤ g ∧ 0 ≤ s ∧ Int.gcd g s = Int.gcd a b)
      (fun σ _ => match σ with | [_, _, _, some (.int s)] => s.toNat | _ => 0) ⟨rfl, _, _, rfl, ?_, ?_, ?_⟩ ?_ (fun σ H Q Q' hQ ⟨v, e1, i, j, e2, e3, c, e4, q⟩ => ⟨v, e1, i, j, e2, e3, c, e4, hQ _ _ q⟩)
    · split <;> omega
    · split <;> omega
    · have e1 : (if a < 0 then -a else a) = (a.natAbs : Int) := by split <;> omega
      have e2 : (if b < 0 then -b else b) = (b.natAbs : Int) := by split <;> omega
      rw [e1, e2]
      rfl
    · rintro σ H' ⟨rfl, g, s, rfl, hg, hs, e⟩
      refine ⟨_, rfl, _, _, rfl, rfl, _, rfl, ?_⟩
      refine ite2 (fun c => ?_) (fun c => ?_)
      · have c0 : 0 < s := of_decide_eq_true c
        refine ⟨_, rfl, _, rfl, _, rfl, _, _, rfl, rfl, c0, _, _, rfl, ?_⟩
        refine ⟨⟨rfl, s, g % s, rfl, hs, Int.emod_nonneg _ (by omega), (gcd_step c0 hg).trans e⟩, ?_⟩
        show (g % s).toNat < s.toNat
        have h1 := Int.emod_nonneg g (show s ≠ 0 by omega)
        have h2 := Int.emod_lt_of_pos g c0
        omega
      · have c0 : ¬ 0 < s := fun z => c (decide_eq_true z)
        have s0 : s = 0 := by omega
        subst s0
        refine ⟨_, rfl, ?_⟩
        have eg : g = (Int.gcd a b : Int) := by
          rw [← e, Int.gcd_zero_right]
          omega
        rw [eg]
        exact k
theorem ok_Measure_init {P : Program} {w : World} {K : PySem.W.Frag} {mg : Str → Option Value} {base : Heap} {φ : Fds} (T : Txt K mg φ) : FnOk P w K mg base CX0 2 (He.fAd K ("Measure", some "__init__")) φ.Measure_init p_Measure_init (sp_minit (He.ga K "Measure")) := by
  obtain ⟨_, B0v, B0⟩ := b_is_whole_1 T
  obtain ⟨_, B1v, B1⟩ := b_common_part_2 T
  refine T.f_Measure_init.ok sc_Measure_init (fun vs H Q E h => ?_) (fun cdv A outer s H vs Q E hr h => ?_)
  · obtain ⟨p, dx, a, b, rfl, hp, hb, hl, k⟩ := h; rfl
  · obtain ⟨p, dx, a, b, rfl, hp, hb, hl, k⟩ := h
    refine ⟨_, PSs.nox (pss_cons (ps_if (PW.pt (pw_or (pt_not (pt_val (pe_call (ok_is_whole T) (hr.mono (by decide)) rfl T.g_is_whole T.f_is_whole.kp B0 B0v pass0 (pa_cons (pv 1) pa_nil)))) (pw_or1 (pt_not (pt_val (pe_call (ok_is_whole T) (hr.mono (by decide)) rfl T.g_is_whole T.f_is_whole.kp B0 B0v pass0 (pa_cons (pv 2) pa_nil)))))))
      (pss_one ps_never)
      pss_nil)
      (pss_cons (ps_if (pt_cmpR op_eq (pv 2) pe_int (nomark _))
      (pss_one ps_never)
      pss_nil)
      (pss_cons (ps_set (i := 3) sc_Measure_init.nd rfl (Or.inl rfl) (pe_call (ok_common_part T) (hr.mono (by decide)) rfl T.g_common_part T.f_common_part.kp B1 B1v pass0 (pa_cons (pv 1) (pa_cons (pv 2) pa_nil))))
      (pss_cons (ps_cut (ps_if (pt_cmpR op_lt (pv 2) pe_int (nomark _))
      (pss_one (ps_set (i := 3) sc_Measure_init.nd rfl (Or.inl rfl) (pe_un un_neg (pv 3))))
      pss_nil))
      (pss_cons (ps_fld (pv 0) (pe_op op_fd (pv 1) (pv 3)) rfl)
      (pss_one (ps_fld (pv 0) (pe_op op_fd (pv 2) (pv 3)) rfl))))))), ?_⟩
    refine ⟨_, rfl, a, rfl, _, rfl, ?_⟩
    refine iteF ?_
    refine ⟨_, rfl, b, rfl, _, rfl, ?_⟩
    refine iteF ?_
    refine ⟨_, rfl, rfl, _, rfl, ?_⟩
    rw [dI]
    refine ite2 (fun e => absurd (of_decide_eq_true e) hb) (fun _ => ?_)
    refine ⟨_, rfl, _, rfl, a, b, rfl, ?_⟩
    refine ⟨fun σ' H' => H' = H ∧ ∃ c : Int, c = sgn b * (Int.gcd a b : Int) ∧ σ' = [some (.ref p), some (.int a), some (.int b), some (.int c)], ?_, ?_⟩
    · refine ⟨_, rfl, _, _, rfl, rfl, _, rfl, ?_⟩
      refine ite2 (fun e => ?_) (fun e => ?_)
      · have e0 : b < 0 := of_decide_eq_true e
        refine ⟨_, rfl, _, rfl, rfl, _, ?_, rfl⟩
        unfold sgn
        rw [if_neg (by omega), Int.neg_one_mul]
      · have e0 : ¬ b < 0 := fun z => e (decide_eq_true z)
        refine ⟨rfl, _, ?_, rfl⟩
        unfold sgn
        rw [if_pos (by omega), Int.one_mul]
    · rintro σ' H' ⟨rfl, c, hc, rfl⟩
      obtain ⟨c0, cl, fr⟩ := fr_mk hb hc
      have c9 : c.natAbs.log2 < 9000 := by
        refine Nat.lt_of_le_of_lt ?_ hl
        exact (Nat.le_log2 (by omega)).mpr (Nat.le_trans (Nat.log2_self_le (by omega)) cl)
      refine ⟨_, rfl, _, rfl, _, _, rfl, rfl, ⟨c0, c9⟩, _, rfl, p, _, dx, _, rfl, hp, T.cl_Measure, T.na_Measure_top, (by show 0 < 1000; decide), ?_⟩
      refine ⟨_, rfl, _, rfl, _, _, rfl, rfl, ⟨c0, c9⟩, _, rfl, p, _, dx, _, rfl, upd_same, T.cl_Measure, T.na_Measure_bottom, (by show 1 < 1000; decide), ?_⟩
      refine k _ _ _ fr ?_ fun q o e nq => ?_
      · rw [upd_same, mf_put]
      · rw [upd_ne nq, upd_ne nq]
        exact e
theorem ok_written {P : Program} {w : World} {K : PySem.W.Frag} {mg : Str → Option Value} {base : Heap} {φ : Fds} (T : Txt K mg φ) : FnOk P w K mg base CX0 1 (He.fAd K ("written", none)) φ.written p_written sp_written := by
  refine T.f_written.ok sc_written (fun vs H Q E h => ?_) (fun cdv A outer s H vs Q E hr h => ?_)
  · obtain ⟨a, u, rfl, h0, hu, sa, su, k⟩ := h; rfl
  · obtain ⟨a, u, rfl, h0, hu, sa, su, k⟩ := h
    refine ⟨_, PSs.nox (pss_cons (ps_asg (pe_callB (id := "divmod") call_dm (by rfl) T.z_divmod (by decide +kernel) (pa_cons (pv 0) (pa_cons (pv 1) pa_nil))) (pg_tup rfl (pgs_cons (pg_name (i := 2) sc_written.nd rfl (Or.inl rfl)) (pgs_cons (pg_name (i := 3) sc_written.nd rfl (Or.inl rfl)) pgs_nil))))
      (pss_cons (ps_if (pt_cmpR op_eq (pv 3) pe_int (nomark _))
      (pss_one (ps_ret (pe_joined1 (pe_fmt (pv 2)))))
      pss_nil)
      (pss_cons (ps_if (pt_cmpR op_eq (pv 2) pe_int (nomark _))
      (pss_one (ps_ret (pe_joined (PJ.cons (pe_fmt (pv 3)) (PJ.cons pe_str (PJ.cons (pe_fmt (pv 1)) PJ.nil))))))
      pss_nil)
      (pss_one (ps_ret (pe_joined (PJ.cons (pe_fmt (pv 2)) (PJ.cons pe_str (PJ.cons (pe_fmt (pv 3)) (PJ.cons pe_str (PJ.cons (pe_fmt (pv 1)) PJ.nil))))))))))), ?_⟩
    refine ⟨_, rfl, _, rfl, a, u, rfl, hu, su.log (by decide) (by decide), fun p np => ?_⟩
    refine ⟨p, _, rfl, SqT.of upd_same, rfl, _, _, rfl, _, _, rfl, rfl, ?_⟩
    have sd := sa.ediv h0 hu
    have sm := su.emod (a := a) hu
    have l1 := iT_len sd
    have l2 := iT_len sm
    have l3 := iT_len su
    have l1' : (Str.ofString (toString (a / u))).length ≤ 1921 := l1
    have l2' : (Str.ofString (toString (a % u))).length ≤ 1921 := l2
    have l3' : (Str.ofString (toString u)).length ≤ 1921 := l3
    have e0 : Str.empty.length = 0 := rfl
    have e1 : (Str.ofString "/").length = 1 := rfl
    have e2 : (Str.ofString " ").length = 1 := rfl
    have k := k _ (same1 (u := .tup [.int (a / u), .int (a % u)]) np)
    unfold wTxt at k
    refine ⟨_, rfl, rfl, _, rfl, ?_⟩
    rw [dI]
    refine ite2 (fun e => ?_) (fun e => ?_)
    · rw [if_pos (of_decide_eq_true e)] at k
      exact ⟨_, rfl, .inr ⟨_, rfl, sd.log' (by decide) (by decide), k⟩⟩
    · rw [if_neg (fun z => e (decide_eq_true z))] at k
      refine ⟨_, rfl, rfl, _, rfl, ?_⟩
      rw [dI]
      refine ite2 (fun e => ?_) (fun e => ?_)
      · rw [if_pos (of_decide_eq_true e)] at k
        refine ⟨_, rfl, .inr ⟨_, rfl, sm.log' (by decide) (by decide), _, rfl, ?_, _, rfl, ?_, _, rfl, .inr ⟨_, rfl, su.log' (by decide) (by decide), _, rfl, ?_, k⟩⟩⟩
        all_goals (rw [sizeLine_eq]; simp only [Str.length_append]; omega)
      · rw [if_neg (fun z => e (decide_eq_true z))] at k
        refine ⟨_, rfl, .inr ⟨_, rfl, sd.log' (by decide) (by decide), _, rfl, ?_, _, rfl, ?_, _, rfl, .inr ⟨_, rfl, sm.log' (by decide) (by decide), _, rfl, ?_, _, rfl, ?_, _, rfl, .inr ⟨_, rfl, su.log' (by decide) (by decide), _, rfl, ?_, k⟩⟩⟩⟩
        all_goals (rw [sizeLine_eq]; simp only [Str.length_append]; omega)
theorem ok_Measure_str {P : Program} {w : World} {K : PySem.W.Frag} {mg : Str → Option Value} {base : Heap} {φ : Fds} (T : Txt K mg φ) : FnOk P w K mg base CX0 2 (He.fAd K ("Measure", some "__str__")) φ.Measure_str p_Measure_str (sp_mstr (He.ga K "Measure")) := by
  obtain ⟨_, B0v, B0⟩ := b_written_2 T
  refine T.f_Measure_str.ok sc_Measure_str (fun vs H Q E h => ?_) (fun cdv A outer s H vs Q E hr h => ?_)
  · obtain ⟨p, t, u, rfl, ⟨dx, hp⟩, hu, st, su, k⟩ := h; rfl
  · obtain ⟨p, t, u, rfl, ⟨dx, hp⟩, hu, st, su, k⟩ := h
    refine ⟨_, PSs.nox (pss_cons (ps_if (pt_cmpR op_lt (fldK (K := K) (pv 0) rfl) pe_int (nomark _))
      (pss_one (ps_ret (pe_joined (PJ.cons pe_str (PJ.cons (pe_fmt (pe_call (ok_written T) (hr.mono (by decide)) rfl T.g_written T.f_written.kp B0 B0v pass0 (pa_cons (pe_un un_neg (fldK (K := K) (pv 0) rfl)) (pa_cons (fldK (K := K) (pv 0) rfl) pa_nil)))) PJ.nil)))))
      pss_nil)
      (pss_one (ps_ret (pe_joined1 (pe_fmt (pe_call (ok_written T) (hr.mono (by decide)) rfl T.g_written T.f_written.kp B0 B0v pass0 (pa_cons (fldK (K := K) (pv 0) rfl) (pa_cons (fldK (K := K) (pv 0) rfl) pa_nil)))))))), ?_⟩
    refine ⟨_, rfl, _, _, _, _, _, rfl, hp, T.cl_Measure, T.na_Measure_top, mf_top _ _, _, _, rfl, rfl, _, rfl, ?_⟩
    have e1 : (Str.ofString "-").length = 1 := rfl
    have e0 : Str.empty.length = 0 := rfl
    refine ite2 (fun e => ?_) (fun e => ?_)
    · have e : t < 0 := of_decide_eq_true e
      have wl := wTxt_len st.neg su (by omega) hu
      refine ⟨_, rfl, ?_, _, rfl, _, _, _, _, _, rfl, hp, T.cl_Measure, T.na_Measure_top, mf_top _ _, _, rfl, _, rfl, _, _, _, _, _, rfl, hp, T.cl_Measure, T.na_Measure_bottom, mf_bottom _ _, _, _, rfl, by omega, hu, st.neg, su, fun H' s => .inl ⟨_, rfl, ?_, _, rfl, ?_, ?_⟩⟩
      · rw [sizeLine_eq]; simp only [Str.length_append]; omega
      · rw [sizeLine_eq]; omega
      · rw [sizeLine_eq]; simp only [Str.length_append]; omega
      · have k := k H' s
        unfold mTxt at k
        rw [if_pos e] at k
        exact k
    · have e : ¬ t < 0 := fun z => e (decide_eq_true z)
      have wl := wTxt_len st su (by omega) hu
      refine ⟨_, rfl, _, _, _, _, _, rfl, hp, T.cl_Measure, T.na_Measure_top, mf_top _ _, _, rfl, _, _, _, _, _, rfl, hp, T.cl_Measure, T.na_Measure_bottom, mf_bottom _ _, _, _, rfl, by omega, hu, st, su, fun H' s => .inl ⟨_, rfl, ?_, ?_⟩⟩
      · rw [sizeLine_eq]; omega
      · have k := k H' s
        unfold mTxt at k
        rw [if_neg e] at k
        exact k
theorem ok_Measure_times {P : Program} {w : World} {K : PySem.W.Frag} {mg : Str → Option Value} {base : Heap} {φ : Fds} (T : Txt K mg φ) : FnOk P w K mg base CX0 4 (He.fAd K ("Measure", some "times")) φ.Measure_times p_Measure_times (sp_bin2 (He.ga K "Measure") (fun t u t' u' => t * t') (fun t u t' u' => u * u')) := by
  obtain ⟨_, B0v, B0⟩ := b_Measure_init_3 T
  refine T.f_Measure_times.ok sc_Measure_times (fun vs H Q E h => ?_) (fun cdv A outer s H vs Q E hr h => ?_)
  · obtain ⟨p, q, t, u, t', u', rfl, ⟨dp, hp⟩, ⟨dq, hq⟩, hu, hu', st, su, st', su', sg, k⟩ := h; rfl
  · obtain ⟨p, q, t, u, t', u', rfl, ⟨dp, hp⟩, ⟨dq, hq⟩, hu, hu', st, su, st', su', sg, k⟩ := h
    refine ⟨_, PSs.nox (pss_one (ps_ret (pe_make T.mk_Measure (ok_Measure_init T) (hr.mono (by decide)) rfl T.g_Measure B0 B0v pass0 (pa_cons (pe_op op_mulA (fldK (K := K) (pv 0) rfl) (fldK (K := K) (pv 1) rfl)) (pa_cons (pe_op op_mulA (fldK (K := K) (pv 0) rfl) (fldK (K := K) (pv 1) rfl)) pa_nil))))), ?_⟩
    refine ⟨_, rfl, _, _, _, _, _, rfl, hp, T.cl_Measure, T.na_Measure_top, mf_top _ _, _, rfl, _, _, _, _, _, rfl, hq, T.cl_Measure, T.na_Measure_top, mf_top _ _, _, _, rfl, rfl, st.cmul st' (by decide) (by decide) (by decide), _, rfl, _, _, _, _, _, rfl, hp, T.cl_Measure, T.na_Measure_bottom, mf_bottom _ _, _, rfl, _, _, _, _, _, rfl, hq, T.cl_Measure, T.na_Measure_bottom, mf_bottom _ _, _, _, rfl, rfl, su.cmul su' (by decide) (by decide) (by decide), ?_⟩
    intro x dx nx nd ne
    refine ⟨x, dx, _, _, rfl, upd_same, Int.mul_ne_zero (by omega) (by omega), sg.log (by decide) (by decide), fun t2 u2 H' fr hx kp => ⟨rfl, ?_⟩⟩
    exact k x t2 u2 H' nx (made_same nx nd kp) ⟨_, hx⟩ fr
theorem ok_number_words {P : Program} {w : World} {K : PySem.W.Frag} {mg : Str → Option Value} {base : Heap} {φ : Fds} (T : Txt K mg φ) : FnOk P w K mg base CX0 1 (He.fAd K ("number_words", none)) φ.number_words p_number_words sp_nw := by
  refine T.f_number_words.ok sc_number_words (fun vs H Q E h => ?_) (fun cdv A outer s H vs Q E hr h => ?_)
  · obtain ⟨l, rfl, hl, k⟩ := h; rfl
  · obtain ⟨l, rfl, hl, k⟩ := h
    refine ⟨_, PSs.nox (pss_cons (ps_if (pt_cmpR op_notIn_sign pe_str (pv 0) (by rfl))
      (pss_one (ps_ret (pe_tup (pa_cons (pv 0) (pa_cons pe_str (pa_cons pe_str pa_nil))))))
      pss_nil)
      (pss_cons (ps_asg (pe_m1 PySem.F.slot_str_rpartition PySem.F.type_str_rpartition mt_rpartition (pv 0) pe_str) (pg_tup rfl (pgs_cons (pg_name (i := 1) sc_number_words.nd rfl (Or.inl rfl)) (pgs_cons (pg_name (i := 2) sc_number_words.nd rfl (Or.inl rfl)) (pgs_cons (pg_name (i := 3) sc_number_words.nd rfl (Or.inl rfl)) pgs_nil)))))
      (pss_cons (ps_asg (pe_m1 PySem.F.slot_str_partition PySem.F.type_str_partition mt_partition (pv 3) pe_str) (pg_tup rfl (pgs_cons (pg_name (i := 4) sc_number_words.nd rfl (Or.inl rfl)) (pgs_cons (pg_name (i := 5) sc_number_words.nd rfl (Or.inl rfl)) (pgs_cons (pg_name (i := 6) sc_number_words.nd rfl (Or.inl rfl)) pgs_nil)))))
      (pss_cons (ps_if (pt_cmpR op_eq (pv 2) pe_str (nomark _))
      (pss_one (ps_ret (pe_tup (pa_cons pe_str (pa_cons (pv 4) (pa_cons (pv 6) pa_nil))))))
      pss_nil)
      (pss_one (ps_ret (pe_tup (pa_cons (pv 1) (pa_cons (pv 4) (pa_cons (pv 6) pa_nil)))))))))), ?_⟩
    refine ⟨_, rfl, 47, St8 l, congrArg V.str c_slash, rfl, _, rfl, ?_⟩
    show if (!decide (47 ∈ l)) = true then _ else _
    by_cases hm : 47 ∈ l
    · rw [decide_eq_true hm]
      refine iteF ?_
      cases e : lastSplit 32 l with
      | none =>
        have n32 := lastSplit_none e
        refine ⟨_, rfl, ⟨_, rfl⟩, St8 l, Str.ofString " ", rfl, rfl, by decide +kernel, (by rw [SX.S_len, sizeLine_eq]; omega), fun p np => ?_⟩
        rw [c_blank, Rp_none n32]
        refine ⟨p, _, rfl, SqT.of upd_same, rfl, _, _, rfl, _, _, rfl, _, _, rfl, rfl, ?_⟩
        refine ⟨_, rfl, ⟨_, rfl⟩, St8 l, Str.ofString "/", rfl, rfl, by decide +kernel, (by rw [SX.S_len, sizeLine_eq]; omega), fun p2 np2 => ?_⟩
        rw [c_slash]
        have kk : nwL l = ([48], (slashL l).1, (slashL l).2) := by
          unfold nwL
          rw [if_pos hm, e]
        rw [kk] at k
        have ep : ∃ m, Txt.partition (St8 l) (St8 [47]) = (St8 (slashL l).1, m, St8 (slashL l).2) := by
          unfold slashL
          cases e2 : firstSplit 47 l with
          | none => exact ⟨_, Pt_none (firstSplit_none e2)⟩
          | some z =>
            obtain ⟨x, y⟩ := z
            obtain ⟨h1, h2⟩ := firstSplit_some e2
            refine ⟨St8 [47], ?_⟩
            rw [h1]
            exact Pt_app h2
        obtain ⟨m, ep⟩ := ep
        rw [ep]
        refine ⟨p2, _, rfl, SqT.of upd_same, rfl, _, _, rfl, _, _, rfl, _, _, rfl, rfl, ?_⟩
        refine ⟨_, rfl, rfl, _, rfl, ?_⟩
        rw [decide_eq_true (congrArg V.str (by decide +kernel : Str.empty = Str.ofString ""))]
        refine iteT ?_
        refine ⟨_, rfl, _, rfl, by show 3 ≤ sizeLine; decide, fun p3 np3 => ?_⟩
        refine k p3 _ (((same1 np).up np2).up np3) ?_
        rw [upd_same]
        show some (HO.tup [.str (Str.ofString "0"), _, _]) = _
        rw [c_zero]
      | some z =>
        obtain ⟨w, q⟩ := z
        obtain ⟨hq, nq⟩ := lastSplit_some e
        have lq : q.length ≤ l.length := by rw [hq, List.length_append, List.length_cons]; omega
        refine ⟨_, rfl, ⟨_, rfl⟩, St8 l, Str.ofString " ", rfl, rfl, by decide +kernel, (by rw [SX.S_len, sizeLine_eq]; omega), fun p np => ?_⟩
        have er : Rp (St8 l) (Str.ofString " ") = (St8 w, St8 [32], St8 q) := by
          rw [c_blank, hq]
          exact Rp_app nq
        rw [er]
        refine ⟨p, _, rfl, SqT.of upd_same, rfl, _, _, rfl, _, _, rfl, _, _, rfl, rfl, ?_⟩
        refine ⟨_, rfl, ⟨_, rfl⟩, St8 q, Str.ofString "/", rfl, rfl, by decide +kernel, (by rw [SX.S_len, sizeLine_eq]; omega), fun p2 np2 => ?_⟩
        rw [c_slash]
        have kk : nwL l = (w, (slashL q).1, (slashL q).2) := by
          unfold nwL
          rw [if_pos hm, e]
        rw [kk] at k
        have ep : ∃ m, Txt.partition (St8 q) (St8 [47]) = (St8 (slashL q).1, m, St8 (slashL q).2) := by
          unfold slashL
          cases e2 : firstSplit 47 q with
          | none => exact ⟨_, Pt_none (firstSplit_none e2)⟩
          | some z =>
            obtain ⟨x, y⟩ := z
            obtain ⟨h1, h2⟩ := firstSplit_some e2
            refine ⟨St8 [47], ?_⟩
            rw [h1]
            exact Pt_app h2
        obtain ⟨m, ep⟩ := ep
        rw [ep]
        refine ⟨p2, _, rfl, SqT.of upd_same, rfl, _, _, rfl, _, _, rfl, _, _, rfl, rfl, ?_⟩
        refine ⟨_, rfl, rfl, _, rfl, ?_⟩
        rw [decide_eq_false (fun z : V.str (St8 [32]) = V.str (Str.ofString "") => absurd (V.str.inj z) (by decide +kernel))]
        refine iteF ?_
        refine ⟨_, rfl, _, rfl, _, rfl, by show 3 ≤ sizeLine; decide, fun p3 np3 => ?_⟩
        exact k p3 _ (((same1 np).up np2).up np3) upd_same
    · rw [decide_eq_false hm]
      refine iteT ?_
      have kk : nwL l = (l, [48], [49]) := if_neg hm
      rw [kk] at k
      refine ⟨_, rfl, by show 3 ≤ sizeLine; decide, fun p np => ?_⟩
      refine k p _ (same1 np) ?_
      rw [upd_same]
      show some (HO.tup [_, .str (Str.ofString "0"), .str (Str.ofString "1")]) = _
      rw [c_zero, c_one]
theorem ok_is_number_word {P : Program} {w : World} {K : PySem.W.Frag} {mg : Str → Option Value} {base : Heap} {φ : Fds} (T : Txt K mg φ) : FnOk P w K mg base CX0 1 (He.fAd K ("is_number_word", none)) φ.is_number_word p_is_number_word sp_isnum := by
  refine T.f_is_number_word.ok sc_is_number_word (fun vs H Q E h => ?_) (fun cdv A outer s H vs Q E hr h => ?_)
  · obtain ⟨l, rfl, hl, k⟩ := h; rfl
  · obtain ⟨l, rfl, hl, k⟩ := h
    refine ⟨_, PSs.nox (pss_one (ps_ret (pe_and (pe_chain op_le op_le pe_int (pe_callB (id := "len") call_len_str (by rfl) T.z_len PySem.boot_len (pa_cons (pv 0) pa_nil)) (C8.pe_gc (v := .int 12) rfl (T.v_MOST_FIGURES.elim fun t e => ⟨_, e, ⟨t, rfl⟩⟩))) (pe_one (pe_callB (id := "all") (allK (K := K)) (by rfl) T.z_all (by decide +kernel) (pa_cons (pe_lc (own := [("figure", 1)]) (g := gName 1) rfl sc_is_number_word.nd (pi_str (pv 0)) (blkOk_by (own := [("figure", 1)]) (N := N_is_number_word) (sc := defScope s_is_number_word) (by decide +kernel)) (fun _ _ _ _ _ => (pg_name (i := 1) sc_is_number_word.nd rfl (Or.inl rfl))) (fun _ _ _ _ _ => pts_nil) (fun _ _ _ _ _ => (pe_cmpR op_in_sign (pv 1) (C8.pe_gc (v := .str "0123456789") rfl (T.v_FIGURES.elim fun t e => ⟨_, e, ⟨t, rfl⟩⟩)) (by rfl)))) pa_nil)))))), ?_⟩
    unfold isNumL at k
    refine ⟨_, rfl, _, rfl, (by rw [SX.S_len, sizeLine_eq]; omega), _, _, rfl, rfl, _, rfl, ?_⟩
    rw [SX.S_len]
    by_cases h1 : 1 ≤ l.length
    · rw [decide_eq_true h1] at k
      rw [decide_eq_true (show (1 : Int) ≤ (l.length : Int) by omega)]
      refine iteT ?_
      refine ⟨_, _, rfl, rfl, _, rfl, ?_⟩
      by_cases h2 : l.length ≤ 12
      · rw [decide_eq_true h2] at k
        rw [decide_eq_true (show (l.length : Int) ≤ 12 by omega)]
        refine iteT ?_
        refine ⟨_, rfl, _, rfl, fun D nD => ?_⟩
        refine lcsS (x := St8 l) ((l.map dig).map V.bl) (by simp) (by rw [List.length_map, List.length_map, sizeLine_eq]; omega) nD (fun i c y H4 N M hc hy s4 hN => ?_) (fun H4 s4 hD => ?_)
        · have hc : l[i]? = some c := by simpa using hc
          have ey : y = .bl (dig c) := by
            rw [List.getElem?_map, List.getElem?_map, hc] at hy
            exact (Option.some.inj hy).symm
          subst ey
          refine ⟨rfl, yesT ?_⟩
          refine ⟨_, rfl, c, _, rfl, rfl, ?_⟩
          rw [figs_dig]
          exact hN _ (Same.refl _)
        refine ⟨D, l.map dig, rfl, SqL.of hD, ?_⟩
        have e : (l.map dig).all id = l.all dig := by rw [List.all_map]; rfl
        rw [e]
        have k := k H4 s4
        exact k
      · rw [decide_eq_false h2] at k
        rw [decide_eq_false (show ¬ (l.length : Int) ≤ 12 by omega)]
        exact iteF (k _ (Same.refl _))
    · rw [decide_eq_false h1] at k
      rw [decide_eq_false (show ¬ (1 : Int) ≤ (l.length : Int) by omega)]
      exact iteF ⟨_, rfl, iteF (k _ (Same.refl _))⟩
theorem ok_loosely_read {P : Program} {w : World} {K : PySem.W.Frag} {mg : Str → Option Value} {base : Heap} {φ : Fds} (T : Txt K mg φ) : FnOk P w K mg base CX0 5 (He.fAd K ("loosely_read", none)) φ.loosely_read p_loosely_read (sp_loose (He.ga K "Measure")) := by
  obtain ⟨_, B0v, B0⟩ := b_number_words_1 T
  obtain ⟨_, B1v, B1⟩ := b_is_number_word_1 T
  obtain ⟨_, B2v, B2⟩ := b_Measure_init_3 T
  obtain ⟨_, B3v, B3⟩ := b_Measure_times_2 T
  obtain ⟨_, B4v, B4⟩ := b_Measure_init_2 T
  refine T.f_loosely_read.ok sc_loosely_read (fun vs H Q E h => ?_) (fun cdv A outer s H vs Q E hr h => ?_)
  · obtain ⟨l, rfl, hl, k1, k2⟩ := h; rfl
  · obtain ⟨l, rfl, hl, k1, k2⟩ := h
    refine ⟨_, PSs.nox (pss_cons (ps_set (i := 1) sc_loosely_read.nd rfl (Or.inl rfl) (pe_call (ok_number_words T) (hr.mono (by decide)) rfl T.g_number_words T.f_number_words.kp B0 B0v pass0 (pa_cons (pe_m1 PySem.F.slot_str_removeprefix PySem.F.type_str_removeprefix mt_removeprefix (pv 0) pe_str) pa_nil)))
      (pss_cons (ps_if (pt_not (pt_val (pe_callB (id := "all") (allK (K := K)) (by rfl) T.z_all (by decide +kernel) (pa_cons (pe_lc (own := [("word", 6)]) (g := gName 6) rfl sc_loosely_read.nd (pi_tup (pv 1)) (blkOk_by (own := [("word", 6)]) (N := N_loosely_read) (sc := defScope s_loosely_read) (by decide +kernel)) (fun _ _ _ _ _ => (pg_name (i := 6) sc_loosely_read.nd rfl (Or.inl rfl))) (fun _ _ _ _ _ => pts_nil) (fun _ _ _ _ _ => (pe_call (ok_is_number_word T) (hr.mono (by decide)) rfl T.g_is_number_word T.f_is_number_word.kp B1 B1v pass0 (pa_cons (pv 6) pa_nil)))) pa_nil))))
      (pss_one (ps_ret pe_non))
      pss_nil)
      (pss_cons (ps_asg (pe_lc (own := [("word", 6)]) (g := gName 6) rfl sc_loosely_read.nd (pi_tup (pv 1)) (blkOk_by (own := [("word", 6)]) (N := N_loosely_read) (sc := defScope s_loosely_read) (by decide +kernel)) (fun _ _ _ _ _ => (pg_name (i := 6) sc_loosely_read.nd rfl (Or.inl rfl))) (fun _ _ _ _ _ => pts_nil) (fun _ _ _ _ _ => (pe_callTy (T := "int") call_int_str (by rfl) T.z_int (by decide +kernel) (pa_cons (pv 6) pa_nil)))) (pg_lst rfl (pgs_cons (pg_name (i := 2) sc_loosely_read.nd rfl (Or.inl rfl)) (pgs_cons (pg_name (i := 3) sc_loosely_read.nd rfl (Or.inl rfl)) (pgs_cons (pg_name (i := 4) sc_loosely_read.nd rfl (Or.inl rfl)) pgs_nil)))))
      (pss_cons (ps_if (pt_cmpR op_eq (pv 4) pe_int (nomark _))
      (pss_one (ps_ret pe_non))
      pss_nil)
      (pss_cons (ps_set (i := 5) sc_loosely_read.nd rfl (Or.inl rfl) (pe_make T.mk_Measure (ok_Measure_init T) (hr.mono (by decide)) rfl T.g_Measure B2 B2v pass0 (pa_cons (pe_op op_add (pe_op op_mulA (pv 2) (pv 4)) (pv 3)) (pa_cons (pv 4) pa_nil))))
      (pss_cons (ps_if (pt_val (pe_m1 PySem.F.slot_str_startswith PySem.F.type_str_startswith mt_startswith (pv 0) pe_str))
      (pss_one (ps_ret (pe_meth (pv 5) T.cl_Measure T.me_Measure_times (ok_Measure_times T) (hr.mono (by decide)) B3 B3v pass0 (pa_cons (pe_make T.mk_Measure (ok_Measure_init T) (hr.mono (by decide)) rfl T.g_Measure B4 B4v pass0 (pa_cons (pe_un un_neg pe_int) pa_nil)) pa_nil))))
      pss_nil)
      (pss_one (ps_ret (pv 5))))))))), ?_⟩
    refine ⟨_, rfl, ⟨_, rfl⟩, St8 l, Str.ofString "-", rfl, rfl, (by rw [SX.S_len, sizeLine_eq]; omega), ?_⟩
    rw [rmp_body]
    have bl := body_len l
    refine ⟨bodyL l, rfl, by omega, fun p H1 s1 h1 => ?_⟩
    have nl := nw_len (bodyL l)
    unfold looseL at k1 k2
    revert k1 k2 h1 nl
    generalize nwL (bodyL l) = w
    intro k1 k2 h1 nl
    obtain ⟨wa, wb, wc⟩ := w
    have k1 : (if isNumL wa && (isNumL wb && isNumL wc) then if valL wc = 0 then none else some ((if sw 45 l then -1 else 1) * (valL wa * valL wc + valL wb), valL wc) else none) = none → ∀ H', Same H H' → Q .non H' := k1
    have k2 : ∀ a : Q2, (if isNumL wa && (isNumL wb && isNumL wc) then if valL wc = 0 then none else some ((if sw 45 l then -1 else 1) * (valL wa * valL wc + valL wb), valL wc) else none) = some a → ∀ (r : Addr) (t u : Int) (H' : Hp), Same H H' → MAt (He.ga K "Measure") H' r t u → Fr t u a.1 a.2 → Q (.ref r) H' := k2
    have la : wa.length ≤ (bodyL l).length + 1 := nl.1
    have lb : wb.length ≤ (bodyL l).length + 1 := nl.2.1
    have lc : wc.length ≤ (bodyL l).length + 1 := nl.2.2
    have h1 : H1 p = some (.tup [.str (St8 wa), .str (St8 wb), .str (St8 wc)]) := h1
    refine ⟨_, rfl, p, rfl, ⟨_, SqT.of h1⟩, fun D nD => ?_⟩
    refine lcsT (xs := [V.str (St8 wa), V.str (St8 wb), V.str (St8 wc)]) ([isNumL wa, isNumL wb, isNumL wc].map V.bl) rfl (by show 3 < sizeLine; decide) (SqT.of h1) nD (fun i x y H4 N M hx hy s4 hN => ?_) (fun H2 s2 hD => ?_)
    · have e : (x = V.str (St8 wa) ∧ y = V.bl (isNumL wa)) ∨ (x = V.str (St8 wb) ∧ y = V.bl (isNumL wb)) ∨ (x = V.str (St8 wc) ∧ y = V.bl (isNumL wc)) := by
        match i, hx, hy with
        | 0, hx, hy => exact .inl ⟨(Option.some.inj hx).symm, (Option.some.inj hy).symm⟩
        | 1, hx, hy => exact .inr (.inl ⟨(Option.some.inj hx).symm, (Option.some.inj hy).symm⟩)
        | 2, hx, hy => exact .inr (.inr ⟨(Option.some.inj hx).symm, (Option.some.inj hy).symm⟩)
        | (_ + 3), hx, _ => exact nomatch hx
      rcases e with ⟨rfl, rfl⟩ | ⟨rfl, rfl⟩ | ⟨rfl, rfl⟩
      · exact ⟨rfl, yesT ⟨_, rfl, wa, rfl, by omega, fun H' s' => hN _ s'⟩⟩
      · exact ⟨rfl, yesT ⟨_, rfl, wb, rfl, by omega, fun H' s' => hN _ s'⟩⟩
      · exact ⟨rfl, yesT ⟨_, rfl, wc, rfl, by omega, fun H' s' => hN _ s'⟩⟩
    refine ⟨D, [isNumL wa, isNumL wb, isNumL wc], rfl, SqL.of hD, _, rfl, ?_⟩
    have s02 := s1.trans s2
    show if (!(isNumL wa && (isNumL wb && (isNumL wc && true)))) = true then _ else _
    rw [Bool.and_true]
    cases ec : (isNumL wa && (isNumL wb && isNumL wc)) with
    | false =>
      rw [ec] at k1
      refine iteT ?_
      exact k1 rfl _ s02
    | true =>
      rw [ec] at k1 k2
      refine iteF ?_
      rw [Bool.and_eq_true, Bool.and_eq_true] at ec
      obtain ⟨na, nb, nc⟩ := ec
      have h2 := s2 _ _ h1
      refine ⟨_, rfl, p, rfl, ⟨_, SqT.of h2⟩, fun D2 nD2 => ?_⟩
      refine lcsT (xs := [V.str (St8 wa), V.str (St8 wb), V.str (St8 wc)]) [.int (valL wa), .int (valL wb), .int (valL wc)] rfl (by show 3 < sizeLine; decide) (SqT.of h2) nD2 (fun i x y H4 N M hx hy s4 hN => ?_) (fun H3 s3 hD3 => ?_)
      · have e : (x = V.str (St8 wa) ∧ y = V.int (valL wa)) ∨ (x = V.str (St8 wb) ∧ y = V.int (valL wb)) ∨ (x = V.str (St8 wc) ∧ y = V.int (valL wc)) := by
          match i, hx, hy with
          | 0, hx, hy => exact .inl ⟨(Option.some.inj hx).symm, (Option.some.inj hy).symm⟩
          | 1, hx, hy => exact .inr (.inl ⟨(Option.some.inj hx).symm, (Option.some.inj hy).symm⟩)
          | 2, hx, hy => exact .inr (.inr ⟨(Option.some.inj hx).symm, (Option.some.inj hy).symm⟩)
          | (_ + 3), hx, _ => exact nomatch hx
        rcases e with ⟨rfl, rfl⟩ | ⟨rfl, rfl⟩ | ⟨rfl, rfl⟩
        · exact ⟨rfl, yesT ⟨_, rfl, St8 wa, _, rfl, (int_num12 na).1, (int_num12 na).2, hN _ (Same.refl _)⟩⟩
        · exact ⟨rfl, yesT ⟨_, rfl, St8 wb, _, rfl, (int_num12 nb).1, (int_num12 nb).2, hN _ (Same.refl _)⟩⟩
        · exact ⟨rfl, yesT ⟨_, rfl, St8 wc, _, rfl, (int_num12 nc).1, (int_num12 nc).2, hN _ (Same.refl _)⟩⟩
      obtain ⟨a0, a1⟩ := val_lt na
      obtain ⟨b0, b1⟩ := val_lt nb
      obtain ⟨c0, c1⟩ := val_lt nc
      revert k1 k2 hD3 a0 a1 b0 b1 c0 c1
      generalize valL wa = A
      generalize valL wb = B
      generalize valL wc = C
      intro k1 k2 hD3 a0 a1 b0 b1 c0 c1
      refine ⟨D2, _, rfl, SqL.of hD3, rfl, _, _, rfl, _, _, rfl, _, _, rfl, rfl, ?_⟩
      have s03 := s02.trans s3
      refine ⟨_, rfl, rfl, _, rfl, ?_⟩
      rw [dI]
      by_cases z : C = 0
      · rw [decide_eq_true z]
        rw [if_pos rfl, if_pos z] at k1
        exact iteT (k1 rfl _ s03)
      · rw [decide_eq_false z]
        refine iteF ?_
        have sA : Sz 40 A := by show A.natAbs < 2 ^ 40; omega
        have sB : Sz 40 B := by show B.natAbs < 2 ^ 40; omega
        have sC : Sz 40 C := by show C.natAbs < 2 ^ 40; omega
        have k2 := k2 _ (by rw [if_pos rfl, if_neg z])
        refine ⟨_, rfl, _, rfl, _, _, rfl, rfl, sA.cmul sC (by decide) (by decide) (by decide), _, rfl, _, _, rfl, rfl, _, rfl, ?_⟩
        intro x dx nx nd ne
        refine ⟨x, dx, _, _, rfl, upd_same, z, sC.log (by decide) (by decide), fun t u H5 fr hx kp => ⟨rfl, ?_⟩⟩
        have s5 := made_same nx nd kp
        refine ⟨_, rfl, ⟨_, rfl⟩, St8 l, Str.ofString "-", rfl, rfl, _, rfl, ?_⟩
        rw [sw_minus]
        have sN : Sz 81 (A * C + B) := (sA.mul sC).add (sB.mono (by decide))
        have pC : 0 < C := by omega
        have e1 : sgn C = 1 := by unfold sgn; rw [if_pos pC]
        cases e2 : sw 45 l with
        | false =>
          rw [e2] at k2
          refine iteF ?_
          refine ⟨_, rfl, k2 x t u H5 (s03.trans s5) ⟨dx, hx⟩ ?_⟩
          show Fr t u (1 * (A * C + B)) C
          rw [Int.one_mul]
          exact fr
        | true =>
          rw [e2] at k2
          refine iteT ?_
          refine ⟨_, rfl, x, dx, _, rfl, hx, mf_no _ _ (by decide +kernel) (by decide +kernel), _, rfl, ?_⟩
          intro y dy ny nd' ne'
          refine ⟨y, dy, _, _, rfl, upd_same, by decide, by decide +kernel, fun t' u' H6 fr' hy kp' => ⟨rfl, ?_⟩⟩
          have s6 := made_same ny nd' kp'
          have q1 : QAt (He.ga K "Measure") H6 x 81 (qmk (A * C + B) C) := (q_mk (k := 81) ⟨dx, hx⟩ fr z sN (sC.mono (by decide))).same s6
          have q2 : QAt (He.ga K "Measure") H6 y 10 (qmk (-1) 1) := q_mk (k := 10) ⟨dy, hy⟩ fr' (by decide) (by decide) (by decide)
          refine q_mul (E := E) q1 q2 (by decide) (by decide) (by decide) fun r H7 s7 q3 => ?_
          obtain ⟨⟨t2, u2, m2, f2⟩, _⟩ := q3
          refine k2 r t2 u2 H7 (((s03.trans s5).trans s6).trans s7) m2 ?_
          have e4 : qmul (qmk (A * C + B) C) (qmk (-1) 1) = (-1 * (A * C + B), C) := by
            unfold qmul qmk
            have e3 : sgn 1 = 1 := by decide
            rw [e1, e3]
            simp only [Int.mul_one]
            rw [Int.mul_comm]
          rw [e4] at f2
          exact f2
theorem ok_measure_in {P : Program} {w : World} {K : PySem.W.Frag} {mg : Str → Option Value} {base : Heap} {φ : Fds} (T : Txt K mg φ) : FnOk P w K mg base CX0 8 (He.fAd K ("measure_in", none)) φ.measure_in p_measure_in (sp_minX (He.ga K "Measure")) := by
  obtain ⟨_, B0v, B0⟩ := b_loosely_read_1 T
  obtain ⟨_, B1v, B1⟩ := b_Measure_str_1 T
  refine T.f_measure_in.ok sc_measure_in (fun vs H Q E h => ?_) (fun cdv A outer s H vs Q E hr h => ?_)
  · obtain ⟨l, rfl, hl, k1, k2⟩ := h; rfl
  · obtain ⟨l, rfl, hl, k1, k2⟩ := h
    refine ⟨_, PSs.nox (pss_cons (ps_set (i := 1) sc_measure_in.nd rfl (Or.inl rfl) (pe_call (ok_loosely_read T) (hr.mono (by decide)) rfl T.g_loosely_read T.f_loosely_read.kp B0 B0v pass0 (pa_cons (pv 0) pa_nil)))
      (pss_cons (ps_if (PW.pt (pw_or (pt_cmpR op_isN (pv 1) pe_non (nomark _)) (pw_or1 (pt_cmpR op_ne (pe_callTy (T := "str") (call_strO (ok_Measure_str T) T.me_Measure_str (bnil B1v B1) pass0 (hr.mono (by decide))) (by rfl) T.z_str (by decide +kernel) (pa_cons (pv 1) pa_nil)) (pv 0) (nomark _)))))
      (pss_one (ps_ret pe_non))
      pss_nil)
      (pss_one (ps_ret (pv 1))))), ?_⟩
    refine ⟨_, rfl, l, rfl, hl, (fun e H1 t1 => ?_), fun a e r t u H1 t1 m fr => ?_⟩
    · have e2 : lawL l = none := by
        cases z : lawL l with
        | none => rfl
        | some x => rw [(law_some z).2.2.1] at e; cases e
      exact ⟨_, rfl, rfl, _, rfl, iteT (iteT (k2 e2 _ t1))⟩
    obtain ⟨pa, s1, s2⟩ := loose_sz e
    refine ⟨_, rfl, rfl, _, rfl, iteF ?_⟩
    obtain ⟨d, hd⟩ := _root_.id m
    refine ⟨_, rfl, _, rfl, r, d, _, rfl, hd, r, t, u, rfl, m, fr.pos, (s1.le fr.lt).mono (by decide), (s2.le fr.lu).mono (by decide), fun H2 t2 => ⟨_, rfl, _, rfl, rfl, _, rfl, ?_⟩⟩
    by_cases c : mL t u = l
    · rw [decide_eq_true (congrArg V.str ((mTxt_S fr.pos).trans (congrArg St8 c)))]
      refine iteF ?_
      exact ⟨_, rfl, k1 (t, u) (law_of e fr c) r H2 (t1.trans t2) (m.same t2)⟩
    · have n1 : ¬ V.str (mTxt t u) = V.str (St8 l) := fun z => c (SX.S_inj ((mTxt_S fr.pos).symm.trans (V.str.inj z)))
      rw [decide_eq_false n1]
      refine iteT (k2 ?_ _ (t1.trans t2))
      cases z : lawL l with
      | none => rfl
      | some x =>
        obtain ⟨h1, h2, h3, h4⟩ := law_some z
        rw [e] at h3
        cases h3
        have := co_eq (a := (t, u)) (b := a) fr.pos fr.co h1 h2 fr.eq
        subst this
        exact absurd h4 c
theorem okx_read_measure {P : Program} {w : World} {K : PySem.W.Frag} {mg : Str → Option Value} {base : Heap} {φ : Fds} (T : Txt K mg φ) : FnOk P w K mg base (L2.CX P w) 9 (He.fAd K ("read_measure", none)) φ.read_measure p_read_measure (sp_readX (He.ga K "Measure") (He.ga K "NoMeasure")) := by
  obtain ⟨_, B0v, B0⟩ := b_measure_in_1 T
  refine T.f_read_measure.ok sc_read_measure (fun vs H Q E h => ?_) (fun cdv A outer s H vs Q E hr h => ?_)
  · obtain ⟨l, rfl, hl, k1, k2⟩ := h; rfl
  · obtain ⟨l, rfl, hl, k1, k2⟩ := h
    refine ⟨_, (pss_cons (ps_if (pt_not (pt_val (pe_callB (id := "isinstance") (isi (K := K)) (by rfl) T.z_isinstance (by decide +kernel) (pa_cons (pv 0) (pa_cons (pe_bltn (v := .ty "str") rfl T.z_str (by decide +kernel) rfl) pa_nil)))))
      (pss_one (ps_raise rfl (takes_of rfl rfl rfl rfl) (pmk_own PySem.F.excBase_ValueError T.xf_NoMeasure.e T.g_NoMeasure T.xf_NoMeasure.k (raises_own T.xf_NoMeasure.b T.xf_NoMeasure.t) rfl)))
      pss_nil)
      (pss_cons (ps_set (i := 1) sc_read_measure.nd rfl (Or.inl rfl) (pe_call (ok_measure_in T) (hr.mono (by decide)) rfl T.g_measure_in T.f_measure_in.kp B0 B0v pass0 (pa_cons (pv 0) pa_nil)))
      (pss_cons (ps_if (pt_cmpR op_isN (pv 1) pe_non (nomark _))
      (pss_one (ps_raise rfl (takes_of rfl rfl rfl rfl) (pmk_own PySem.F.excBase_ValueError T.xf_NoMeasure.e T.g_NoMeasure T.xf_NoMeasure.k (raises_own T.xf_NoMeasure.b T.xf_NoMeasure.t) rfl)))
      pss_nil)
      (pss_one (ps_ret (pv 1)))))), ?_⟩
    refine ⟨_, rfl, _, _, _, _, true, rfl, .ty _, .base (.str _), kit_ty (r := true) (by decide +kernel), _, rfl, iteF ?_⟩
    refine ⟨_, rfl, l, rfl, hl, (fun x e r H1 s1 m => ?_), (fun e H1 s1 => ?_)⟩
    · refine ⟨_, rfl, rfl, _, rfl, iteF ?_⟩
      exact ⟨_, rfl, k1 x e r H1 s1 m⟩
    · exact ⟨_, rfl, rfl, _, rfl, iteT (k2 e _ s1)⟩
theorem okb_read_measure {P : Program} {w : World} {K : PySem.W.Frag} {mg : Str → Option Value} {base : Heap} {φ : Fds} (T : Txt K mg φ) : FnOk P w K mg base (L2.CX P w) 9 (He.fAd K ("read_measure", none)) φ.read_measure p_read_measure (sp_readB (He.ga K "Measure") (He.ga K "NoMeasure")) := by
  obtain ⟨_, B0v, B0⟩ := b_measure_in_1 T
  refine T.f_read_measure.ok sc_read_measure (fun vs H Q E h => ?_) (fun cdv A outer s H vs Q E hr h => ?_)
  · obtain ⟨v, rfl, o, k⟩ := h; rfl
  · obtain ⟨v, rfl, o, k⟩ := h
    refine ⟨_, (pss_cons (ps_if (pt_not (pt_val (pe_callB (id := "isinstance") (isi (K := K)) (by rfl) T.z_isinstance (by decide +kernel) (pa_cons (pv 0) (pa_cons (pe_bltn (v := .ty "str") rfl T.z_str (by decide +kernel) rfl) pa_nil)))))
      (pss_one (ps_raise rfl (takes_of rfl rfl rfl rfl) (pmk_own PySem.F.excBase_ValueError T.xf_NoMeasure.e T.g_NoMeasure T.xf_NoMeasure.k (raises_own T.xf_NoMeasure.b T.xf_NoMeasure.t) rfl)))
      pss_nil)
      (pss_cons (ps_set (i := 1) sc_read_measure.nd rfl (Or.inl rfl) (pe_call (ok_measure_in T) (hr.mono (by decide)) rfl T.g_measure_in T.f_measure_in.kp B0 B0v pass0 (pa_cons (pv 0) pa_nil)))
      (pss_cons (ps_if (pt_cmpR op_isN (pv 1) pe_non (nomark _))
      (pss_one (ps_raise rfl (takes_of rfl rfl rfl rfl) (pmk_own PySem.F.excBase_ValueError T.xf_NoMeasure.e T.g_NoMeasure T.xf_NoMeasure.k (raises_own T.xf_NoMeasure.b T.xf_NoMeasure.t) rfl)))
      pss_nil)
      (pss_one (ps_ret (pv 1)))))), ?_⟩
    rcases o with ⟨⟨hd, t⟩, nn⟩ | ⟨pm, tm, um, rfl, ⟨dm, mm⟩⟩
    · rcases t with rfl | ⟨b, rfl⟩ | ⟨i, rfl⟩ | ⟨z, rfl⟩ | ⟨a, xs, rfl, n, t⟩ | ⟨a, xs, rfl, t⟩ | ⟨a, xs, rfl, t⟩
      · exact ⟨_, rfl, _, _, _, _, false, rfl, .ty _, .base .non, kit_ty (r := false) (by decide +kernel), _, rfl, iteT k⟩
      · exact ⟨_, rfl, _, _, _, _, false, rfl, .ty _, .base (.bl b), kit_ty (r := false) (by decide +kernel), _, rfl, iteT k⟩
      · exact ⟨_, rfl, _, _, _, _, false, rfl, .ty _, .base (.int i), kit_ty (r := false) (by decide +kernel), _, rfl, iteT k⟩
      · exact absurd rfl (nn z)
      · exact ⟨_, rfl, _, _, _, _, false, rfl, .ty _, .base (.lst t), kit_ty (r := false) (by decide +kernel), _, rfl, iteT k⟩
      · exact ⟨_, rfl, _, _, _, _, false, rfl, .ty _, .base (.tup t), kit_ty (r := false) (by decide +kernel), _, rfl, iteT k⟩
      · exact ⟨_, rfl, _, _, _, _, false, rfl, .ty _, .base (.dK t), kit_ty (r := false) (by decide +kernel), _, rfl, iteT k⟩
    · exact ⟨_, rfl, _, _, _, _, false, rfl, .ty _, tyM mm T.cl_Measure T.ii_Measure, T.k_Measure_str, _, rfl, iteT k⟩
theorem okc_read_measure {P : Program} {w : World} {K : PySem.W.Frag} {mg : Str → Option Value} {base : Heap} {φ : Fds} (T : Txt K mg φ) : FnOk P w K mg base (L2.CX P w) 9 (He.fAd K ("read_measure", none)) φ.read_measure p_read_measure (fun vs H Q E => (sp_readX (He.ga K "Measure") (He.ga K "NoMeasure")) vs H Q E ∨ (sp_readB (He.ga K "Measure") (He.ga K "NoMeasure")) vs H Q E) := either (okx_read_measure T) (okb_read_measure T)
theorem ok_l_figures {P : Program} {w : World} {K : PySem.W.Frag} {mg : Str → Option Value} {base : Heap} {φ : Fds} (T : Txt K mg φ) : FnOk P w K mg base CX0 1 (He.fAd K ("_law_figures", none)) φ.l_figures p_l_figures sp_fig := by
  refine T.f_l_figures.ok sc_l_figures (fun vs H Q E h => ?_) (fun cdv A outer s H vs Q E hr h => ?_)
  · obtain ⟨l, rfl, hl, k⟩ := h; rfl
  · obtain ⟨l, rfl, hl, k⟩ := h
    refine ⟨_, PSs.nox (pss_cons (ps_if (PW.pt (pw_or (pt_not (pt_chain op_le op_le pe_int (pe_callB (id := "len") call_len_str (by rfl) T.z_len PySem.boot_len (pa_cons (pv 0) pa_nil)) pe_int)) (pw_or1 (pt_cmpR (op_neL0 (Nat.lt_of_le_of_lt (Nat.le_add_right _ 64) hr.units)) (pe_lc (own := [("_law_sign", 1)]) (g := gName 1) rfl sc_l_figures.nd (pi_str (pv 0)) (blkOk_by (own := [("_law_sign", 1)]) (N := N_l_figures) (sc := defScope s_l_figures) (by decide +kernel)) (fun _ _ _ _ _ => (pg_name (i := 1) sc_l_figures.nd rfl (Or.inl rfl))) (fun _ _ _ _ _ => (pts_one (pt_cmpR op_notIn_sign (pv 1) pe_str (by rfl)))) (fun _ _ _ _ _ => (pv 1))) (pe_lst pa_nil) (nomark _)))))
      (pss_one (ps_ret pe_non))
      pss_nil)
      (pss_one (ps_ret (pe_ifExp (PW.pt (pw_or (pt_cmpR op_eq (pv 0) pe_str (nomark _)) (pw_or1 (pt_cmpR op_ne (pe_ix ix_str (pv 0) pe_int (fun _ _ => rfl)) pe_str (nomark _))))) (pe_callTy (T := "int") call_int_str (by rfl) T.z_int (by decide +kernel) (pa_cons (pv 0) pa_nil)) pe_non)))), ?_⟩
    have fv : figL l = if (isNumL l && (decide (l = [48]) || !sw 48 l)) = true then some (valL l) else none := rfl
    have no : isNumL l = false → ∀ H', Same H H' → Q .non H' := fun e H' s => by
      have k := k H' s
      rw [fv, e] at k
      exact k
    refine ⟨_, rfl, _, rfl, (by rw [SX.S_len, sizeLine_eq]; omega), _, _, rfl, rfl, _, rfl, ?_⟩
    rw [SX.S_len]
    by_cases h1 : 1 ≤ l.length
    · rw [decide_eq_true (show (1 : Int) ≤ (l.length : Int) by omega)]
      refine iteT ?_
      refine ⟨_, _, rfl, rfl, _, rfl, ?_⟩
      by_cases h2 : l.length ≤ 12
      · rw [decide_eq_true (show (l.length : Int) ≤ 12 by omega)]
        refine iteF ?_
        refine ⟨_, rfl, _, rfl, fun D nD => ?_⟩
        refine lcfS (l := l) (fun c => !dig c) (by rw [sizeLine_eq]; omega) nD (fun i c H4 N M hc s4 hN hM => ?_) (fun H4 s4 hD => ?_)
        · refine ⟨rfl, _, rfl, c, _, rfl, rfl, _, rfl, ?_⟩
          rw [figs_dig]
          cases e : dig c with
          | true => exact iteF (hM (by show (!dig c) = false; rw [e]; rfl))
          | false => exact iteT ⟨_, rfl, hN (by show (!dig c) = true; rw [e]; rfl) _ (Same.refl _)⟩
        refine ⟨by show 0 ≤ sizeLine; decide, fun e0 ne0 => ?_⟩
        refine ⟨D, e0, _, rfl, rfl, SqL.of (up1 ne0 hD), SqL.of upd_same, _, rfl, ?_⟩
        have s5 : Same H (upd H4 e0 (.lst [])) := s4.up ne0
        have em : ((l.filter fun c => !dig c).map fun c => V.str ⟨#[c]⟩).isEmpty = l.all dig := by
          rw [List.isEmpty_map, filter_dig]
        rw [em]
        have num : isNumL l = l.all dig := by
          unfold isNumL
          rw [decide_eq_true h1, decide_eq_true h2, Bool.true_and, Bool.true_and]
        cases ea : l.all dig with
        | false =>
          refine iteT ?_
          exact no (by rw [num, ea]) _ s5
        | true =>
          rw [ea] at num
          refine iteF ?_
          have k := k _ s5
          rw [fv, num, Bool.true_and] at k
          refine ⟨_, rfl, rfl, _, rfl, ?_⟩
          rw [isZ]
          have rd := int_num12 num
          by_cases z : l = [48]
          · rw [decide_eq_true z]
            rw [decide_eq_true z, Bool.true_or, if_pos rfl] at k
            refine iteT (iteT ?_)
            exact ⟨_, rfl, St8 l, _, rfl, rd.1, rd.2, k⟩
          · rw [decide_eq_false z]
            rw [decide_eq_false z, Bool.false_or] at k
            refine iteF ?_
            cases l with
            | nil => exact absurd h1 (by simp)
            | cons c r =>
              refine ⟨_, rfl, St8 (c :: r), 0, c, rfl, rfl, (by rw [SX.S_len, sizeLine_eq]; omega), (show atI (c :: r) ((0 : Nat) : Int) = some c from atI_nat rfl), rfl, _, rfl, ?_⟩
              rw [isZ1]
              have k : Q (figVal (if (!decide (c = 48)) = true then some (valL (c :: r)) else none)) (upd H4 e0 (.lst [])) := k
              cases e9 : decide (c = 48) with
              | true =>
                rw [e9] at k
                exact iteF k
              | false =>
                rw [e9] at k
                refine iteT ?_
                exact ⟨_, rfl, St8 (c :: r), _, rfl, rd.1, rd.2, k⟩
      · rw [decide_eq_false (show ¬ (l.length : Int) ≤ 12 by omega)]
        refine iteT (iteT ?_)
        exact no (by unfold isNumL; rw [decide_eq_false h2, Bool.false_and, Bool.and_false]) _ (Same.refl _)
    · rw [decide_eq_false (show ¬ (1 : Int) ≤ (l.length : Int) by omega)]
      refine iteF ⟨_, rfl, iteT (iteT ?_)⟩
      exact no (by unfold isNumL; rw [decide_eq_false h1, Bool.false_and]) _ (Same.refl _)
theorem ok_l_common {P : Program} {w : World} {K : PySem.W.Frag} {mg : Str → Option Value} {base : Heap} {φ : Fds} (T : Txt K mg φ) : FnOk P w K mg base CX0 1 (He.fAd K ("_law_common", none)) φ.l_common p_l_common sp_gcd := by
  refine T.f_l_common.ok sc_l_common (fun vs H Q E h => ?_) (fun cdv A outer s H vs Q E hr h => ?_)
  · obtain ⟨a, b, rfl, ha, hb, k⟩ := h; rfl
  · obtain ⟨a, b, rfl, ha, hb, k⟩ := h
    refine ⟨_, PSs.nox (pss_cons (ps_while PassesOwn.never (pt_cmpR op_gt (pv 1) pe_int (nomark _))
      (pss_one (ps_par (i := 0) (j := 1) rfl sc_l_common.nd rfl rfl (by decide) rfl rfl (pa_cons (pv 1) (pa_cons (pe_op op_mod (pv 0) (pv 1)) pa_nil)) (by rfl))))
      (pss_one (ps_ret (pv 0)))), ?_⟩
    refine while_by (fun σ H' => H' = H ∧ ∃ g s : Int, σ = [some (.int g), some (.int s)] ∧ 0 ≤ g ∧ 0 ≤ s ∧ Int.gcd g s = Int.gcd a b)
      (fun σ _ => match σ with | [_, some (.int s)] => s.toNat | _ => 0) ⟨rfl, _, _, rfl, ha, hb, rfl⟩ ?_ (fun σ H Q Q' hQ ⟨v, e1, i, j, e2, e3, c, e4, q⟩ => ⟨v, e1, i, j, e2, e3, c, e4, hQ _ _ q⟩)
    rintro σ H' ⟨rfl, g, s, rfl, hg, hs, e⟩
    refine ⟨_, rfl, _, _, rfl, rfl, _, rfl, ?_⟩
    refine ite2 (fun c => ?_) (fun c => ?_)
    · have c0 : 0 < s := of_decide_eq_true c
      refine ⟨_, rfl, _, rfl, _, rfl, _, _, rfl, rfl, c0, _, _, rfl, ?_⟩
      refine ⟨⟨rfl, s, g % s, rfl, hs, Int.emod_nonneg _ (by omega), (gcd_step c0 hg).trans e⟩, ?_⟩
      show (g % s).toNat < s.toNat
      have h1 := Int.emod_nonneg g (show s ≠ 0 by omega)
      have h2 := Int.emod_lt_of_pos g c0
      omega
    · have c0 : ¬ 0 < s := fun z => c (decide_eq_true z)
      have s0 : s = 0 := by omega
      subst s0
      refine ⟨_, rfl, ?_⟩
      have eg : g = (Int.gcd a b : Int) := by
        rw [← e, Int.gcd_zero_right]
        omega
      rw [eg]
      exact k
theorem ok_l_is {P : Program} {w : World} {K : PySem.W.Frag} {mg : Str → Option Value} {base : Heap} {φ : Fds} (T : Txt K mg φ) : FnOk P w K mg base CX0 2 (He.fAd K ("_law_is", none)) φ.l_is p_l_is (sp_is (He.ga K "Measure")) := by
  obtain ⟨_, B0v, B0⟩ := b_l_common_2 T
  refine T.f_l_is.ok sc_l_is (fun vs H Q E h => ?_) (fun cdv A outer s H vs Q E hr h => ?_)
  · obtain ⟨r, t, u, a, b, rfl, ⟨dx, hr'⟩, G, k⟩ := h; rfl
  · obtain ⟨r, t, u, a, b, rfl, ⟨dx, hr'⟩, G, k⟩ := h
    refine ⟨_, PSs.nox (pss_cons (ps_if (PW.pt (pw_or (pt_not (pt_val (pe_callB (id := "isinstance") (isi (K := K)) (by rfl) T.z_isinstance (by decide +kernel) (pa_cons (pv 0) (pa_cons (pe_glob (v := .ref (He.ga K "Measure")) rfl T.g_Measure rfl) pa_nil))))) (pw_or (pt_not (pt_val (pe_callB (id := "isinstance") (isi (K := K)) (by rfl) T.z_isinstance (by decide +kernel) (pa_cons (fldK (K := K) (pv 0) rfl) (pa_cons (pe_bltn (v := .ty "int") rfl T.z_int (by decide +kernel) rfl) pa_nil))))) (pw_or1 (pt_not (pt_val (pe_callB (id := "isinstance") (isi (K := K)) (by rfl) T.z_isinstance (by decide +kernel) (pa_cons (fldK (K := K) (pv 0) rfl) (pa_cons (pe_bltn (v := .ty "int") rfl T.z_int (by decide +kernel) rfl) pa_nil)))))))))
      (pss_one (ps_ret pe_bl))
      pss_nil)
      (pss_cons (ps_if (PW.pt (pw_or (pt_val (pe_callB (id := "isinstance") (isi (K := K)) (by rfl) T.z_isinstance (by decide +kernel) (pa_cons (fldK (K := K) (pv 0) rfl) (pa_cons (pe_bltn (v := .ty "bool") rfl T.z_bool (by decide +kernel) rfl) pa_nil)))) (pw_or (pt_val (pe_callB (id := "isinstance") (isi (K := K)) (by rfl) T.z_isinstance (by decide +kernel) (pa_cons (fldK (K := K) (pv 0) rfl) (pa_cons (pe_bltn (v := .ty "bool") rfl T.z_bool (by decide +kernel) rfl) pa_nil)))) (pw_or1 (pt_cmpR op_lt (fldK (K := K) (pv 0) rfl) pe_int (nomark _))))))
      (pss_one (ps_ret pe_bl))
      pss_nil)
      (pss_one (ps_ret (pe_and (pe_cmpR op_eq (pe_op op_mulA (fldK (K := K) (pv 0) rfl) (pv 2)) (pe_op op_mulA (pv 1) (fldK (K := K) (pv 0) rfl)) (nomark _)) (pe_one (pe_cmpR op_eq (pe_call (ok_l_common T) (hr.mono (by decide)) rfl T.g_l_common T.f_l_common.kp B0 B0v pass0 (pa_cons (pe_callB (id := "abs") call_abs (by rfl) T.z_abs (by decide +kernel) (pa_cons (fldK (K := K) (pv 0) rfl) pa_nil)) (pa_cons (fldK (K := K) (pv 0) rfl) pa_nil))) pe_int (nomark _)))))))), ?_⟩
    refine ⟨_, rfl, _, _, _, _, true, rfl, .own _, tyM hr' T.cl_Measure T.ii_Measure, T.k_Measure_Measure, _, rfl, iteF ?_⟩
    refine ⟨_, rfl, _, _, _, _, _, rfl, hr', T.cl_Measure, T.na_Measure_top, mf_top _ _, _, _, _, _, true, rfl, .ty _, .base (.int _), kit_ty (r := true) (by decide +kernel), _, rfl, iteF ?_⟩
    refine ⟨_, rfl, _, _, _, _, _, rfl, hr', T.cl_Measure, T.na_Measure_bottom, mf_bottom _ _, _, _, _, _, true, rfl, .ty _, .base (.int _), kit_ty (r := true) (by decide +kernel), _, rfl, iteF ?_⟩
    refine ⟨_, rfl, _, _, _, _, _, rfl, hr', T.cl_Measure, T.na_Measure_top, mf_top _ _, _, _, _, _, false, rfl, .ty _, .base (.int _), kit_ty (r := false) (by decide +kernel), _, rfl, iteF ?_⟩
    refine ⟨_, rfl, _, _, _, _, _, rfl, hr', T.cl_Measure, T.na_Measure_bottom, mf_bottom _ _, _, _, _, _, false, rfl, .ty _, .base (.int _), kit_ty (r := false) (by decide +kernel), _, rfl, iteF ?_⟩
    refine ⟨_, rfl, _, _, _, _, _, rfl, hr', T.cl_Measure, T.na_Measure_bottom, mf_bottom _ _, _, _, rfl, rfl, _, rfl, ?_⟩
    have hu := G.pos
    refine ite2 (fun e => absurd (of_decide_eq_true e) (by omega)) (fun _ => ?_)
    refine ⟨_, rfl, _, _, _, _, _, rfl, hr', T.cl_Measure, T.na_Measure_top, mf_top _ _, _, rfl, _, _, rfl, rfl, G.st.cmul G.sb (by decide) (by decide) (by decide), _, rfl, _, rfl, _, _, _, _, _, rfl, hr', T.cl_Measure, T.na_Measure_bottom, mf_bottom _ _, _, _, rfl, rfl, G.sa.cmul G.su (by decide) (by decide) (by decide), rfl, _, rfl, ?_⟩
    rw [dI, decide_eq_true G.eq]
    refine iteT ?_
    refine ⟨_, rfl, _, _, _, _, _, rfl, hr', T.cl_Measure, T.na_Measure_top, mf_top _ _, _, rfl, _, rfl, _, _, _, _, _, rfl, hr', T.cl_Measure, T.na_Measure_bottom, mf_bottom _ _, _, _, rfl, ?_, by omega, rfl, ?_⟩
    · split <;> omega
    have e1 : (if t < 0 then -t else t) = (t.natAbs : Int) := by split <;> omega
    have e2 : Int.gcd (t.natAbs : Int) u = 1 := G.co
    rw [e1, e2, dI]
    exact k
theorem ok_l_read {P : Program} {w : World} {K : PySem.W.Frag} {mg : Str → Option Value} {base : Heap} {φ : Fds} (T : Txt K mg φ) : FnOk P w K mg base CX0 2 (He.fAd K ("_law_read", none)) φ.l_read p_l_read sp_lread := by
  obtain ⟨_, B0v, B0⟩ := b_l_figures_1 T
  obtain ⟨_, B1v, B1⟩ := b_l_common_2 T
  refine T.f_l_read.ok sc_l_read (fun vs H Q E h => ?_) (fun cdv A outer s H vs Q E hr h => ?_)
  · obtain ⟨l, rfl, hl, k⟩ := h; rfl
  · obtain ⟨l, rfl, hl, k⟩ := h
    refine ⟨_, PSs.nox (pss_cons (ps_set (i := 1) sc_l_read.nd rfl (Or.inl rfl) (pe_cmpR op_eq (pe_slice sl_str (pv 0) po_none (po_some pe_int)) pe_str (nomark _)))
      (pss_cons (ps_set (i := 2) sc_l_read.nd rfl (Or.inl rfl) (pe_cut (pe_ifExp (pt_val (pv 1)) (pe_slice sl_str (pv 0) (po_some pe_int) po_none) (pv 0))))
      (pss_cons (ps_asg (pe_m1 PySem.F.slot_str_rpartition PySem.F.type_str_rpartition mt_rpartition (pv 2) pe_str) (pg_tup rfl (pgs_cons (pg_name (i := 3) sc_l_read.nd rfl (Or.inl rfl)) (pgs_cons (pg_name (i := 4) sc_l_read.nd rfl (Or.inl rfl)) (pgs_cons (pg_name (i := 5) sc_l_read.nd rfl (Or.inl rfl)) pgs_nil)))))
      (pss_cons (ps_if (pt_cmpR op_notIn_sign pe_str (pv 2) (by rfl))
      (pss_cons (ps_set (i := 6) sc_l_read.nd rfl (Or.inl rfl) (pe_call (ok_l_figures T) (hr.mono (by decide)) rfl T.g_l_figures T.f_l_figures.kp B0 B0v pass0 (pa_cons (pv 2) pa_nil)))
      (pss_one (ps_ret (pe_ifExp (PW.pt (pw_or (pt_cmpR op_isN (pv 6) pe_non (nomark _)) (pw_or1 (PW.pt (pw_and (pt_val (pv 1)) (pw_and1 (pt_cmpR op_eq (pv 6) pe_int (nomark _)))))))) pe_non (pe_tup (pa_cons (pe_op op_mulA (pv 6) (pe_op op_sub pe_int (pe_op op_mulA pe_int (pe_callTy (T := "int") call_int1 (by rfl) T.z_int (by decide +kernel) (pa_cons (pv 1) pa_nil))))) (pa_cons pe_int pa_nil)))))))
      pss_nil)
      (pss_cons (ps_asg (pe_lc (own := [("_law_word", 9)]) (g := gName 9) rfl sc_l_read.nd (pi_tup (pe_tup (pa_cons (pe_ix (ixt (K := K)) (pe_m1 PySem.F.slot_str_partition PySem.F.type_str_partition mt_partition (pv 5) pe_str) pe_int (fun _ _ => rfl)) (pa_cons (pe_ix (ixt (K := K)) (pe_m1 PySem.F.slot_str_partition PySem.F.type_str_partition mt_partition (pv 5) pe_str) pe_int (fun _ _ => rfl)) pa_nil)))) (blkOk_by (own := [("_law_word", 9)]) (N := N_l_read) (sc := defScope s_l_read) (by decide +kernel)) (fun _ _ _ _ _ => (pg_name (i := 9) sc_l_read.nd rfl (Or.inl rfl))) (fun _ _ _ _ _ => pts_nil) (fun _ _ _ _ _ => (pe_call (ok_l_figures T) (hr.mono (by decide)) rfl T.g_l_figures T.f_l_figures.kp B0 B0v pass0 (pa_cons (pv 9) pa_nil)))) (pg_lst rfl (pgs_cons (pg_name (i := 7) sc_l_read.nd rfl (Or.inl rfl)) (pgs_cons (pg_name (i := 8) sc_l_read.nd rfl (Or.inl rfl)) pgs_nil))))
      (pss_cons (ps_set (i := 6) sc_l_read.nd rfl (Or.inl rfl) (pe_cut (pe_ifExp (pt_cmpR op_ne (pv 4) pe_str (nomark _)) (pe_call (ok_l_figures T) (hr.mono (by decide)) rfl T.g_l_figures T.f_l_figures.kp B0 B0v pass0 (pa_cons (pv 3) pa_nil)) pe_int)))
      (pss_cons (ps_if (PW.pt (pw_or (pt_cmpR op_isN (pv 7) pe_non (nomark _)) (pw_or (pt_cmpR op_isN (pv 8) pe_non (nomark _)) (pw_or (pt_cmpR op_isN (pv 6) pe_non (nomark _)) (pw_or1 (PW.pt (pw_and (pt_cmpR op_ne (pv 4) pe_str (nomark _)) (pw_and1 (pt_cmpR op_eq (pv 6) pe_int (nomark _))))))))))
      (pss_one (ps_ret pe_non))
      pss_nil)
      (pss_cons (ps_if (PW.pt (pw_or (pt_not (pt_chain op_lt op_lt pe_int (pv 7) (pv 8))) (pw_or1 (pt_cmpR op_ne (pe_call (ok_l_common T) (hr.mono (by decide)) rfl T.g_l_common T.f_l_common.kp B1 B1v pass0 (pa_cons (pv 7) (pa_cons (pv 8) pa_nil))) pe_int (nomark _)))))
      (pss_one (ps_ret pe_non))
      pss_nil)
      (pss_one (ps_ret (pe_tup (pa_cons (pe_op op_mulA (pe_op op_add (pe_op op_mulA (pv 6) (pv 8)) (pv 7)) (pe_op op_sub pe_int (pe_op op_mulA pe_int (pe_callTy (T := "int") call_int1 (by rfl) T.z_int (by decide +kernel) (pa_cons (pv 1) pa_nil))))) (pa_cons (pv 8) pa_nil))))))))))))), ?_⟩
    refine ⟨_, rfl, _, rfl, St8 l, rfl, (by rw [SX.S_len, sizeLine_eq]; omega), rfl, ?_⟩
    rw [isM]
    refine ⟨fun v H' => H = H' ∧ v = .str (St8 (bodyL l)), ?_, ?_⟩
    · refine ⟨_, rfl, _, rfl, ?_⟩
      cases e : sw 45 l with
      | true =>
        refine iteT ⟨_, rfl, _, rfl, St8 l, rfl, (by rw [SX.S_len, sizeLine_eq]; omega), rfl, ?_⟩
        rw [body_cut e]
      | false =>
        refine iteF ⟨_, rfl, rfl, ?_⟩
        rw [← body_no e]
    rintro v H' ⟨rfl, rfl⟩
    have bl := body_len l
    unfold lawL at k
    revert k bl
    generalize bodyL l = B
    generalize sw 45 l = b
    intro k bl
    have k : ∀ (v : V) (H' : Hp), Same H H' → ReadV H' v (match lawB B with
      | some (a, c, f) => if b && (!f && decide (a = 0)) then none else some (a * (if b then -1 else 1), c)
      | none => none) → Q v H' := k
    refine ⟨_, rfl, ⟨_, rfl⟩, St8 B, Str.ofString " ", rfl, rfl, by decide +kernel, (by rw [SX.S_len, sizeLine_eq]; omega), fun p np => ?_⟩
    have rp : ∃ x y z, Rp (St8 B) (Str.ofString " ") = (x, y, z) := ⟨_, _, _, rfl⟩
    by_cases hm : 47 ∈ B
    · cases e : lastSplit 32 B with
      | none =>
        have n32 := lastSplit_none e
        have er : Rp (St8 B) (Str.ofString " ") = (Str.empty, Str.empty, St8 B) := by rw [c_blank]; exact Rp_none n32
        rw [er]
        refine ⟨p, _, rfl, SqT.of upd_same, rfl, _, _, rfl, _, _, rfl, _, _, rfl, rfl, ?_⟩
        refine ⟨_, rfl, 47, St8 B, congrArg V.str c_slash, rfl, _, rfl, ?_⟩
        show if (!decide (47 ∈ B)) = true then _ else _
        rw [decide_eq_true hm]
        refine iteF ?_
        have ep : ∃ m, Txt.partition (St8 B) (Str.ofString "/") = (St8 (slashL B).1, m, St8 (slashL B).2) := by
          rw [c_slash]
          unfold slashL
          cases e2 : firstSplit 47 B with
          | none => exact ⟨_, Pt_none (firstSplit_none e2)⟩
          | some z =>
            obtain ⟨x, y⟩ := z
            obtain ⟨h1, h2⟩ := firstSplit_some e2
            refine ⟨St8 [47], ?_⟩
            rw [h1]
            exact Pt_app h2
        obtain ⟨mm, ep⟩ := ep
        refine ⟨_, rfl, ⟨_, rfl⟩, St8 B, Str.ofString "/", rfl, rfl, by decide +kernel, (by rw [SX.S_len, sizeLine_eq]; omega), fun p1 np1 => ⟨p1, _, _, _, rfl, rfl, SqT.of upd_same, rfl, ?_⟩⟩
        refine ⟨_, rfl, ⟨_, rfl⟩, St8 B, Str.ofString "/", rfl, rfl, by decide +kernel, (by rw [SX.S_len, sizeLine_eq]; omega), fun p2 np2 => ⟨p2, _, _, _, rfl, rfl, SqT.of upd_same, rfl, ?_⟩⟩
        rw [ep] at np2 ⊢
        refine ⟨by show 2 ≤ sizeLine; decide, fun tp ntp => ⟨tp, rfl, ⟨_, SqT.of upd_same⟩, fun D nD => ?_⟩⟩
        generalize hG : upd _ tp _ = HG
        have sG : Same H HG := by
          rw [← hG]
          exact (((same1 np).up np1).up np2).up ntp
        have htp : HG tp = some (.tup [.str (St8 (slashL B).1), .str (St8 (slashL B).2)]) := by rw [← hG]; exact upd_same
        rw [hG] at nD
        clear hG
        have lq := slash_len B
        generalize hA : (slashL B).1 = wt at *
        generalize hB : (slashL B).2 = wu at *
        refine lcsT (xs := [V.str (St8 wt), V.str (St8 wu)]) [figVal (figL wt), figVal (figL wu)] rfl (by show 2 < sizeLine; decide) (SqT.of htp) nD (fun i x y H4 N M hx hy s4 hN => ?_) (fun H5 s5 hD => ?_)
        · have e : (x = V.str (St8 wt) ∧ y = figVal (figL wt)) ∨ (x = V.str (St8 wu) ∧ y = figVal (figL wu)) := by
            match i, hx, hy with
            | 0, hx, hy => exact .inl ⟨(Option.some.inj hx).symm, (Option.some.inj hy).symm⟩
            | 1, hx, hy => exact .inr ⟨(Option.some.inj hx).symm, (Option.some.inj hy).symm⟩
            | (_ + 2), hx, _ => exact nomatch hx
          rcases e with ⟨rfl, rfl⟩ | ⟨rfl, rfl⟩
          · exact ⟨rfl, yesT ⟨_, rfl, wt, rfl, by omega, fun H' s' => hN _ s'⟩⟩
          · exact ⟨rfl, yesT ⟨_, rfl, wu, rfl, by omega, fun H' s' => hN _ s'⟩⟩
        refine ⟨D, _, rfl, SqL.of hD, rfl, _, _, rfl, _, _, rfl, rfl, ?_⟩
        have s05 := sG.trans s5
        have lb : lawB B = match figL wt, figL wu with
            | some t, some u => if 0 < t ∧ t < u ∧ Int.gcd t u = 1 then some (t, u, true) else none
            | _, _ => none := by
          unfold lawB
          rw [if_pos hm, e]
          show (match figL (slashL B).1, figL (slashL B).2 with
            | some t, some u => if 0 < t ∧ t < u ∧ Int.gcd t u = 1 then some (t, u, true) else none
            | _, _ => none) = _
          rw [hA, hB]
          try rfl
        refine ⟨fun v H' => H5 = H' ∧ v = .int 0, ?_, ?_⟩
        · refine ⟨_, rfl, rfl, _, rfl, ?_⟩
          rw [decide_eq_true (congrArg V.str (by decide +kernel : Str.empty = Str.ofString ""))]
          exact iteF ⟨rfl, rfl⟩
        rintro v H' ⟨rfl, rfl⟩
        cases f1 : figL wt with
        | none =>
          rw [f1] at lb
          rw [show lawB B = none from lb] at k
          exact ⟨_, rfl, rfl, _, rfl, iteT (iteT (k _ _ s05 rfl))⟩
        | some t =>
          cases f2 : figL wu with
          | none =>
            rw [f1, f2] at lb
            rw [show lawB B = none from lb] at k
            exact ⟨_, rfl, rfl, _, rfl, iteF ⟨_, rfl, rfl, _, rfl, iteT (iteT (k _ _ s05 rfl))⟩⟩
          | some u =>
            rw [f1, f2] at lb
            have lb : lawB B = if 0 < t ∧ t < u ∧ Int.gcd t u = 1 then some (t, u, true) else none := lb
            obtain ⟨t0, st⟩ := fig_sz f1
            obtain ⟨u0, su⟩ := fig_sz f2
            refine ⟨_, rfl, rfl, _, rfl, iteF ⟨_, rfl, rfl, _, rfl, iteF ⟨_, rfl, rfl, _, rfl, iteF ?_⟩⟩⟩
            refine ⟨_, rfl, rfl, _, rfl, ?_⟩
            rw [decide_eq_true (congrArg V.str (by decide +kernel : Str.empty = Str.ofString ""))]
            refine iteF (iteF ?_)
            refine ⟨_, rfl, _, _, rfl, rfl, _, rfl, ?_⟩
            by_cases c1 : 0 < t
            · rw [decide_eq_true c1]
              refine iteT ⟨_, rfl, _, _, rfl, rfl, _, rfl, ?_⟩
              by_cases c2 : t < u
              · rw [decide_eq_true c2]
                refine iteF ?_
                refine ⟨_, rfl, _, rfl, t, u, rfl, t0, u0, rfl, _, rfl, ?_⟩
                rw [dI]
                by_cases c3 : Int.gcd t u = 1
                · rw [decide_eq_true (show ((Int.gcd t u : Nat) : Int) = 1 by omega)]
                  rw [if_pos ⟨c1, c2, c3⟩] at lb
                  rw [lb] at k
                  have k : ∀ (v : V) (H' : Hp), Same H H' → ReadV H' v (if b && (!true && decide (t = 0)) then none else some ((t) * (if b then -1 else 1), u)) → Q v H' := k
                  rw [show (b && (!true && decide (t = 0))) = false by cases b <;> rfl] at k
                  refine iteF ?_
                  have s2 : Sz 2 (2 : Int) := by decide
                  have sb : Sz 2 (if b then 1 else 0 : Int) := by cases b <;> decide
                  have sv : Sz 81 ((0 : Int) * u + t) := ((show Sz 40 (0 : Int) by decide).mul su).add (st.mono (by decide))
                  have sg : Sz 4 (1 - 2 * (if b then 1 else 0) : Int) := by cases b <;> decide
                  refine ⟨_, rfl, _, rfl, _, _, rfl, rfl, (show Sz 40 (0 : Int) by decide).cmul su (by decide) (by decide) (by decide), _, rfl, _, _, rfl, rfl, _, rfl, .inr ⟨_, rfl, _, _, rfl, rfl, s2.cmul sb (by decide) (by decide) (by decide), _, _, rfl, rfl, _, _, rfl, rfl, sv.cmul sg (by decide) (by decide) (by decide), _, rfl, by show 2 ≤ sizeLine; decide, fun r nr => ?_⟩⟩
                  refine k _ _ (s05.up nr) ⟨r, rfl, ?_⟩
                  rw [upd_same]
                  show some (HO.tup [V.int (((0 : Int) * u + t) * (1 - 2 * (if b then 1 else 0))), V.int u]) = _
                  rw [sgnB, Int.zero_mul, Int.zero_add]
                  try rfl
                · rw [decide_eq_false (show ¬ ((Int.gcd t u : Nat) : Int) = 1 by omega)]
                  rw [if_neg fun z => c3 z.2.2] at lb
                  rw [lb] at k
                  exact iteT (k _ _ s05 rfl)
              · rw [decide_eq_false c2]
                rw [if_neg fun z => c2 z.2.1] at lb
                rw [lb] at k
                exact iteT (iteT (k _ _ s05 rfl))
            · rw [decide_eq_false c1]
              rw [if_neg fun z => c1 z.1] at lb
              rw [lb] at k
              exact iteF ⟨_, rfl, iteT (iteT (k _ _ s05 rfl))⟩
      | some z =>
        obtain ⟨w, q⟩ := z
        obtain ⟨hq, nq⟩ := lastSplit_some e
        have lw : w.length + (q.length + 1) = B.length := by rw [hq, List.length_append, List.length_cons]
        have er : Rp (St8 B) (Str.ofString " ") = (St8 w, St8 [32], St8 q) := by
          rw [c_blank, hq]
          exact Rp_app nq
        rw [er]
        refine ⟨p, _, rfl, SqT.of upd_same, rfl, _, _, rfl, _, _, rfl, _, _, rfl, rfl, ?_⟩
        refine ⟨_, rfl, 47, St8 B, congrArg V.str c_slash, rfl, _, rfl, ?_⟩
        show if (!decide (47 ∈ B)) = true then _ else _
        rw [decide_eq_true hm]
        refine iteF ?_
        have ep : ∃ m, Txt.partition (St8 q) (Str.ofString "/") = (St8 (slashL q).1, m, St8 (slashL q).2) := by
          rw [c_slash]
          unfold slashL
          cases e2 : firstSplit 47 q with
          | none => exact ⟨_, Pt_none (firstSplit_none e2)⟩
          | some z =>
            obtain ⟨x, y⟩ := z
            obtain ⟨h1, h2⟩ := firstSplit_some e2
            refine ⟨St8 [47], ?_⟩
            rw [h1]
            exact Pt_app h2
        obtain ⟨mm, ep⟩ := ep
        refine ⟨_, rfl, ⟨_, rfl⟩, St8 q, Str.ofString "/", rfl, rfl, by decide +kernel, (by rw [SX.S_len, sizeLine_eq]; omega), fun p1 np1 => ⟨p1, _, _, _, rfl, rfl, SqT.of upd_same, rfl, ?_⟩⟩
        refine ⟨_, rfl, ⟨_, rfl⟩, St8 q, Str.ofString "/", rfl, rfl, by decide +kernel, (by rw [SX.S_len, sizeLine_eq]; omega), fun p2 np2 => ⟨p2, _, _, _, rfl, rfl, SqT.of upd_same, rfl, ?_⟩⟩
        rw [ep] at np2 ⊢
        refine ⟨by show 2 ≤ sizeLine; decide, fun tp ntp => ⟨tp, rfl, ⟨_, SqT.of upd_same⟩, fun D nD => ?_⟩⟩
        generalize hG : upd _ tp _ = HG
        have sG : Same H HG := by
          rw [← hG]
          exact (((same1 np).up np1).up np2).up ntp
        have htp : HG tp = some (.tup [.str (St8 (slashL q).1), .str (St8 (slashL q).2)]) := by rw [← hG]; exact upd_same
        rw [hG] at nD
        clear hG
        have lq := slash_len q
        generalize hA : (slashL q).1 = wt at *
        generalize hB : (slashL q).2 = wu at *
        refine lcsT (xs := [V.str (St8 wt), V.str (St8 wu)]) [figVal (figL wt), figVal (figL wu)] rfl (by show 2 < sizeLine; decide) (SqT.of htp) nD (fun i x y H4 N M hx hy s4 hN => ?_) (fun H5 s5 hD => ?_)
        · have e : (x = V.str (St8 wt) ∧ y = figVal (figL wt)) ∨ (x = V.str (St8 wu) ∧ y = figVal (figL wu)) := by
            match i, hx, hy with
            | 0, hx, hy => exact .inl ⟨(Option.some.inj hx).symm, (Option.some.inj hy).symm⟩
            | 1, hx, hy => exact .inr ⟨(Option.some.inj hx).symm, (Option.some.inj hy).symm⟩
            | (_ + 2), hx, _ => exact nomatch hx
          rcases e with ⟨rfl, rfl⟩ | ⟨rfl, rfl⟩
          · exact ⟨rfl, yesT ⟨_, rfl, wt, rfl, by omega, fun H' s' => hN _ s'⟩⟩
          · exact ⟨rfl, yesT ⟨_, rfl, wu, rfl, by omega, fun H' s' => hN _ s'⟩⟩
        refine ⟨D, _, rfl, SqL.of hD, rfl, _, _, rfl, _, _, rfl, rfl, ?_⟩
        have s05 := sG.trans s5
        have lb : lawB B = match figL wt, figL wu, figL w with
            | some t, some u, some n => if n = 0 then none else if 0 < t ∧ t < u ∧ Int.gcd t u = 1 then some (n * u + t, u, true) else none
            | _, _, _ => none := by
          unfold lawB
          rw [if_pos hm, e]
          show (match figL (slashL q).1, figL (slashL q).2, figL w with
            | some t, some u, some n => if n = 0 then none else if 0 < t ∧ t < u ∧ Int.gcd t u = 1 then some (n * u + t, u, true) else none
            | _, _, _ => none) = _
          rw [hA, hB]
          try rfl
        have b1 : decide (V.str (St8 [32]) = V.str (Str.ofString "")) = false := decide_eq_false fun z => absurd (V.str.inj z) (by decide +kernel)
        refine ⟨fun v H' => Same H5 H' ∧ v = figVal (figL w), ?_, ?_⟩
        · refine ⟨_, rfl, rfl, _, rfl, ?_⟩
          rw [b1]
          refine iteT ?_
          exact ⟨_, rfl, w, rfl, by omega, fun H' s' => ⟨s', rfl⟩⟩
        rintro v H6 ⟨s6, rfl⟩
        replace s05 := s05.trans s6
        cases f1 : figL wt with
        | none =>
          rw [f1] at lb
          rw [show lawB B = none from lb] at k
          exact ⟨_, rfl, rfl, _, rfl, iteT (iteT (k _ _ s05 rfl))⟩
        | some t =>
          cases f2 : figL wu with
          | none =>
            rw [f1, f2] at lb
            rw [show lawB B = none from lb] at k
            exact ⟨_, rfl, rfl, _, rfl, iteF ⟨_, rfl, rfl, _, rfl, iteT (iteT (k _ _ s05 rfl))⟩⟩
          | some u =>
            cases f3 : figL w with
            | none =>
              rw [f1, f2, f3] at lb
              rw [show lawB B = none from lb] at k
              exact ⟨_, rfl, rfl, _, rfl, iteF ⟨_, rfl, rfl, _, rfl, iteF ⟨_, rfl, rfl, _, rfl, iteT (iteT (k _ _ s05 rfl))⟩⟩⟩
            | some n =>
              rw [f1, f2, f3] at lb
              have lb : lawB B = if n = 0 then none else if 0 < t ∧ t < u ∧ Int.gcd t u = 1 then some (n * u + t, u, true) else none := lb
              obtain ⟨t0, st⟩ := fig_sz f1
              obtain ⟨u0, su⟩ := fig_sz f2
              obtain ⟨n0, sn⟩ := fig_sz f3
              refine ⟨_, rfl, rfl, _, rfl, iteF ⟨_, rfl, rfl, _, rfl, iteF ⟨_, rfl, rfl, _, rfl, iteF ?_⟩⟩⟩
              refine ⟨_, rfl, rfl, _, rfl, ?_⟩
              rw [b1]
              refine iteT ?_
              refine ⟨_, rfl, rfl, _, rfl, ?_⟩
              rw [show decide (figVal (some n) = V.int 0) = decide (n = 0) from dI]
              by_cases z : n = 0
              · rw [if_pos z] at lb
                rw [lb] at k
                rw [decide_eq_true z]
                exact iteT (k _ _ s05 rfl)
              rw [if_neg z] at lb
              rw [decide_eq_false z]
              refine iteF ?_
              refine ⟨_, rfl, _, _, rfl, rfl, _, rfl, ?_⟩
              by_cases c1 : 0 < t
              · rw [decide_eq_true c1]
                refine iteT ⟨_, rfl, _, _, rfl, rfl, _, rfl, ?_⟩
                by_cases c2 : t < u
                · rw [decide_eq_true c2]
                  refine iteF ?_
                  refine ⟨_, rfl, _, rfl, t, u, rfl, t0, u0, rfl, _, rfl, ?_⟩
                  rw [dI]
                  by_cases c3 : Int.gcd t u = 1
                  · rw [decide_eq_true (show ((Int.gcd t u : Nat) : Int) = 1 by omega)]
                    rw [if_pos ⟨c1, c2, c3⟩] at lb
                    rw [lb] at k
                    have k : ∀ (v : V) (H' : Hp), Same H H' → ReadV H' v (if b && (!true && decide (n * u + t = 0)) then none else some ((n * u + t) * (if b then -1 else 1), u)) → Q v H' := k
                    rw [show (b && (!true && decide (n * u + t = 0))) = false by cases b <;> rfl] at k
                    refine iteF ?_
                    have s2 : Sz 2 (2 : Int) := by decide
                    have sb : Sz 2 (if b then 1 else 0 : Int) := by cases b <;> decide
                    have sv : Sz 81 (n * u + t) := (sn.mul su).add (st.mono (by decide))
                    have sg : Sz 4 (1 - 2 * (if b then 1 else 0) : Int) := by cases b <;> decide
                    refine ⟨_, rfl, _, rfl, _, _, rfl, rfl, sn.cmul su (by decide) (by decide) (by decide), _, rfl, _, _, rfl, rfl, _, rfl, .inr ⟨_, rfl, _, _, rfl, rfl, s2.cmul sb (by decide) (by decide) (by decide), _, _, rfl, rfl, _, _, rfl, rfl, sv.cmul sg (by decide) (by decide) (by decide), _, rfl, by show 2 ≤ sizeLine; decide, fun r nr => ?_⟩⟩
                    refine k _ _ (s05.up nr) ⟨r, rfl, ?_⟩
                    rw [upd_same]
                    show some (HO.tup [V.int ((n * u + t) * (1 - 2 * (if b then 1 else 0))), V.int u]) = _
                    rw [sgnB]
                    try rfl
                  · rw [decide_eq_false (show ¬ ((Int.gcd t u : Nat) : Int) = 1 by omega)]
                    rw [if_neg fun z => c3 z.2.2] at lb
                    rw [lb] at k
                    exact iteT (k _ _ s05 rfl)
                · rw [decide_eq_false c2]
                  rw [if_neg fun z => c2 z.2.1] at lb
                  rw [lb] at k
                  exact iteT (iteT (k _ _ s05 rfl))
              · rw [decide_eq_false c1]
                rw [if_neg fun z => c1 z.1] at lb
                rw [lb] at k
                exact iteF ⟨_, rfl, iteT (iteT (k _ _ s05 rfl))⟩
    · refine ⟨p, _, rfl, SqT.of upd_same, rfl, _, _, rfl, _, _, rfl, _, _, rfl, rfl, ?_⟩
      refine ⟨_, rfl, 47, St8 B, congrArg V.str c_slash, rfl, _, rfl, ?_⟩
      show if (!decide (47 ∈ B)) = true then _ else _
      rw [decide_eq_false hm]
      refine iteT ?_
      have lb : lawB B = match figL B with | some n => some (n, 1, false) | none => none := by
        unfold lawB
        rw [if_neg hm]
        try rfl
      refine ⟨_, rfl, B, rfl, by omega, fun H5 s5 => ?_⟩
      have s05 := (same1 np : Same H _).trans s5
      cases f1 : figL B with
      | none =>
        rw [f1] at lb
        rw [show lawB B = none from lb] at k
        exact ⟨_, rfl, rfl, _, rfl, iteT (iteT (k _ _ s05 rfl))⟩
      | some n =>
        rw [f1] at lb
        rw [show lawB B = some (n, 1, false) from lb] at k
        have k : ∀ (v : V) (H' : Hp), Same H H' → ReadV H' v (if b && (!false && decide (n = 0)) then none else some (n * (if b then -1 else 1), 1)) → Q v H' := k
        obtain ⟨n0, sn⟩ := fig_sz f1
        refine ⟨_, rfl, rfl, _, rfl, iteF ?_⟩
        refine ⟨_, rfl, _, rfl, ?_⟩
        have fin : (b && (!false && decide (n = 0))) = false → tTup (tCons (tOp (rI (fun i j => CMul i j ∨ CMulW i j) fun i j => .int (i * j)) (tC (.int n)) (tC (.int (1 - 2 * (if b then 1 else 0))))) (tCons (tC (.int 1)) tNil)) ([] : L2.St) H5 Q := fun e => by
          rw [e] at k
          have sg : Sz 4 (1 - 2 * (if b then 1 else 0) : Int) := by cases b <;> decide
          refine ⟨_, _, rfl, rfl, sn.cmul sg (by decide) (by decide) (by decide), by show 2 ≤ sizeLine; decide, fun r nr => ?_⟩
          refine k _ _ (s05.up nr) ⟨r, rfl, ?_⟩
          rw [upd_same, sgnB]
        have s2 : Sz 2 (2 : Int) := by decide
        have sb : Sz 2 (if b then 1 else 0 : Int) := by cases b <;> decide
        cases b with
        | true =>
          refine iteT ?_
          refine ⟨_, rfl, rfl, _, rfl, ?_⟩
          rw [show decide (figVal (some n) = V.int 0) = decide (n = 0) from dI]
          by_cases z : n = 0
          · rw [decide_eq_true z] at k ⊢
            exact iteT (k _ _ s05 rfl)
          · rw [decide_eq_false z]
            refine iteF ?_
            refine ⟨_, rfl, _, rfl, .inr ⟨_, rfl, _, _, rfl, rfl, s2.cmul sb (by decide) (by decide) (by decide), _, _, rfl, rfl, ?_⟩⟩
            exact fin (by rw [decide_eq_false z]; rfl)
        | false =>
          refine iteF (iteF ?_)
          refine ⟨_, rfl, _, rfl, .inr ⟨_, rfl, _, _, rfl, rfl, s2.cmul sb (by decide) (by decide) (by decide), _, _, rfl, rfl, ?_⟩⟩
          exact fin rfl
theorem ok_l_right {P : Program} {w : World} {K : PySem.W.Frag} {mg : Str → Option Value} {base : Heap} {φ : Fds} (T : Txt K mg φ) : FnOk P w K mg base CX0 12 (He.fAd K ("_law_right", none)) φ.l_right p_l_right sp_lright := by
  obtain ⟨_, B0v, B0⟩ := b_l_read_1 T
  obtain ⟨_, B1⟩ := b_read_measure_0_text T
  obtain ⟨_, B2v, B2⟩ := b_read_measure_1 T
  obtain ⟨_, B3v, B3⟩ := b_Measure_str_1 T
  obtain ⟨_, B4v, B4⟩ := b_l_is_3 T
  refine T.f_l_right.ok sc_l_right (fun vs H Q E h => ?_) (fun cdv A outer s H vs Q E hr h => ?_)
  · obtain ⟨l, rfl, hl, k⟩ := h; rfl
  · obtain ⟨l, rfl, hl, k⟩ := h
    refine ⟨_, PSs.nox (pss_cons (ps_par (i := 1) (j := 2) rfl sc_l_right.nd rfl rfl (by decide) rfl rfl (pa_cons (pe_call (ok_l_read T) (hr.mono (by decide)) rfl T.g_l_read T.f_l_read.kp B0 B0v pass0 (pa_cons (pv 0) pa_nil)) (pa_cons pe_non pa_nil)) (by rfl))
      (pss_cons (ps_try_as (i := 3) rfl rfl sc_l_right.nd rfl rfl ⟨rfl, by decide, .inl T.g_LadderError⟩ takes0 (fun W pn xe tk _ => (pss_one (ps_set (i := 2) sc_l_right.nd rfl (Or.inl rfl) (pe_cut (pe_ifExp (pt_cmpR op_eq (pe_op op_mod (pe_callB (id := "len") call_len_str (by rfl) T.z_len PySem.boot_len (pa_cons (pv 0) pa_nil)) pe_int) pe_int (nomark _)) (pe_callKS0 (okc_read_measure T) (hr.mono (by decide)) rfl T.g_read_measure T.f_read_measure.kp B1 (fun σ => passAt tk σ) (pk_cons (pv 0) pk_nil)) (pe_callS (okc_read_measure T) (hr.mono (by decide)) rfl T.g_read_measure T.f_read_measure.kp (bnil B2v B2) (fun σ => passAt tk σ) (pa_cons (pv 0) pa_nil))))))) (fun a oe cls d pn hz hf => (pss_cons (ps_set (i := 4) sc_l_right.nd rfl (Or.inl rfl) (pe_callB (id := "isinstance") (isXT (K := K) hz hf) (by rfl) T.z_isinstance (by decide +kernel) (pa_cons (pv 3) (pa_cons (pe_tup (pa_cons (pe_glob (v := .ref (He.ga K "NoStretch")) rfl T.g_NoStretch rfl) (pa_cons (pe_glob (v := .ref (He.ga K "NoLadder")) rfl T.g_NoLadder rfl) (pa_cons (pe_glob (v := .ref (He.ga K "NoLine")) rfl T.g_NoLine rfl) (pa_cons (pe_glob (v := .ref (He.ga K "Slip")) rfl T.g_Slip rfl) (pa_cons (pe_glob (v := .ref (He.ga K "NoText")) rfl T.g_NoText rfl) pa_nil)))))) pa_nil))))
      (pss_one (ps_ret (pe_and (pe_cmpR op_isN (pv 1) pe_non (nomark _)) (pe_and (pe_callB (id := "isinstance") (isX (K := K) hz hf) (by rfl) T.z_isinstance (by decide +kernel) (pa_cons (pv 3) (pa_cons (pe_glob (v := .ref (He.ga K "NoMeasure")) rfl T.g_NoMeasure rfl) pa_nil))) (pe_and (pe_callB (id := "isinstance") (isX (K := K) hz hf) (by rfl) T.z_isinstance (by decide +kernel) (pa_cons (pv 3) (pa_cons (pe_bltn (v := .ty "ValueError") rfl T.z_ValueError (by decide +kernel) rfl) pa_nil))) (pe_one (pe_not (pv 4)))))))))))
      (pss_one (ps_ret (pe_and (pe_cmpR op_notN (pv 1) pe_non (nomark _)) (pe_and (pe_call (ok_l_is T) (hr.mono (by decide)) rfl T.g_l_is T.f_l_is.kp B4 B4v pass0 (pa_cons (pv 2) (pa_cons (pe_ix (ixt (K := K)) (pv 1) pe_int (fun _ _ => rfl)) (pa_cons (pe_ix (ixt (K := K)) (pv 1) pe_int (fun _ _ => rfl)) pa_nil)))) (pe_one (pe_cmpR op_eq (pe_callTy (T := "str") (call_strO (ok_Measure_str T) T.me_Measure_str (bnil B3v B3) pass0 (hr.mono (by decide))) (by rfl) T.z_str (by decide +kernel) (pa_cons (pv 2) pa_nil)) (pv 0) (nomark _))))))))), ?_⟩
    refine ⟨_, rfl, l, rfl, by omega, fun v H1 s1 R => ⟨_, _, rfl, ?_⟩⟩
    refine ⟨fun v' H' => Same H1 H' ∧ ∃ (x : Q2) (r : Addr), lawL l = some x ∧ v' = .ref r ∧ MAt (He.ga K "Measure") H' r x.1 x.2, ?_, ?_⟩
    · refine ⟨_, rfl, _, rfl, (by rw [SX.S_len, sizeLine_eq]; omega), _, _, rfl, rfl, (by show (0 : Int) < 2; decide), rfl, _, rfl, ?_⟩
      refine ite2 (fun _ => ?_) (fun _ => ?_)
      · refine ⟨_, rfl, rfl, .inl ⟨l, rfl, by omega, (fun x e r H2 s2 m => ⟨s2, x, r, e, rfl, m⟩), fun e H2 s2 => ⟨true, T.xm_NoMeasure_LadderError, fun _ a na => ?_, (fun q => nomatch q)⟩⟩⟩
        rw [e] at R
        cases R
        refine ⟨_, rfl, by show 5 ≤ sizeLine; decide, fun tp ntp => ⟨_, tp, _, _, false, rfl, rfl, T.xc_NoMeasure, rfl, upd_same, (.cons (.own _) (.cons (.own _) (.cons (.own _) (.cons (.own _) (.cons (.own _) .nil))))), (kitAny_cons T.k_NoMeasure_NoStretch (fun _ => (kitAny_cons T.k_NoMeasure_NoLadder (fun _ => (kitAny_cons T.k_NoMeasure_NoLine (fun _ => (kitAny_cons T.k_NoMeasure_Slip (fun _ => (kitAny_cons T.k_NoMeasure_NoText (fun _ => kitAny_nil) (fun z => nomatch z))) (fun z => nomatch z))) (fun z => nomatch z))) (fun z => nomatch z))) (fun z => nomatch z)), ?_⟩⟩
        refine ⟨_, rfl, rfl, _, rfl, iteT ?_⟩
        refine ⟨_, rfl, _, rfl, rfl, T.xc_NoMeasure, _, _, true, rfl, (fun u r => r), T.k_NoMeasure_NoMeasure, _, rfl, iteT ?_⟩
        refine ⟨_, rfl, _, rfl, rfl, T.xc_NoMeasure, _, _, true, rfl, (fun u r => r), T.k_NoMeasure_ValueError, _, rfl, iteT ?_⟩
        exact ⟨_, rfl, _, rfl, k _ ((s1.trans s2).up ntp)⟩
      · refine ⟨_, rfl, .inl ⟨l, rfl, by omega, (fun x e r H2 s2 m => ⟨s2, x, r, e, rfl, m⟩), fun e H2 s2 => ⟨true, T.xm_NoMeasure_LadderError, fun _ a na => ?_, (fun q => nomatch q)⟩⟩⟩
        rw [e] at R
        cases R
        refine ⟨_, rfl, by show 5 ≤ sizeLine; decide, fun tp ntp => ⟨_, tp, _, _, false, rfl, rfl, T.xc_NoMeasure, rfl, upd_same, (.cons (.own _) (.cons (.own _) (.cons (.own _) (.cons (.own _) (.cons (.own _) .nil))))), (kitAny_cons T.k_NoMeasure_NoStretch (fun _ => (kitAny_cons T.k_NoMeasure_NoLadder (fun _ => (kitAny_cons T.k_NoMeasure_NoLine (fun _ => (kitAny_cons T.k_NoMeasure_Slip (fun _ => (kitAny_cons T.k_NoMeasure_NoText (fun _ => kitAny_nil) (fun z => nomatch z))) (fun z => nomatch z))) (fun z => nomatch z))) (fun z => nomatch z))) (fun z => nomatch z)), ?_⟩⟩
        refine ⟨_, rfl, rfl, _, rfl, iteT ?_⟩
        refine ⟨_, rfl, _, rfl, rfl, T.xc_NoMeasure, _, _, true, rfl, (fun u r => r), T.k_NoMeasure_NoMeasure, _, rfl, iteT ?_⟩
        refine ⟨_, rfl, _, rfl, rfl, T.xc_NoMeasure, _, _, true, rfl, (fun u r => r), T.k_NoMeasure_ValueError, _, rfl, iteT ?_⟩
        exact ⟨_, rfl, _, rfl, k _ ((s1.trans s2).up ntp)⟩
    rintro v' H2 ⟨s2, x, r, e, rfl, m⟩
    rw [e] at R
    obtain ⟨p, rfl, hp⟩ := R
    obtain ⟨h1, h2, h3, h4⟩ := law_some e
    obtain ⟨_, z1, z2⟩ := loose_sz h3
    have hp2 := s2 _ _ hp
    refine ⟨_, rfl, rfl, _, rfl, iteT ?_⟩
    refine ⟨_, rfl, _, rfl, _, _, _, _, rfl, rfl, SqT.of hp2, rfl, _, rfl, _, _, _, _, rfl, rfl, SqT.of hp2, rfl, r, x.1, x.2, x.1, x.2, rfl, m, ⟨h1, h2, rfl, z1.mono (by decide), z2.mono (by decide), z1.mono (by decide), z2.mono (by decide)⟩, _, rfl, iteT ?_⟩
    obtain ⟨d, hd⟩ := _root_.id m
    refine ⟨_, rfl, _, rfl, r, d, _, rfl, hd, r, x.1, x.2, rfl, m, h1, z1.mono (by decide), z2.mono (by decide), fun H3 s3 => ⟨_, rfl, _, rfl, rfl, ?_⟩⟩
    rw [decide_eq_true (congrArg V.str ((mTxt_S h1).trans (congrArg St8 h4)))]
    exact k _ ((s1.trans s2).trans s3)
theorem ok_l_refused {P : Program} {w : World} {K : PySem.W.Frag} {mg : Str → Option Value} {base : Heap} {φ : Fds} (T : Txt K mg φ) : FnOk P w K mg base CX0 10 (He.fAd K ("_law_refused", none)) φ.l_refused p_l_refused (sp_lrefused (He.ga K "Measure")) := by
  obtain ⟨_, B0v, B0⟩ := b_read_measure_1 T
  refine T.f_l_refused.ok sc_l_refused (fun vs H Q E h => ?_) (fun cdv A outer s H vs Q E hr h => ?_)
  · obtain ⟨v, rfl, o, k⟩ := h; rfl
  · obtain ⟨v, rfl, o, k⟩ := h
    refine ⟨_, PSs.nox (pss_cons (ps_set (i := 1) sc_l_refused.nd rfl (Or.inl rfl) pe_bl)
      (pss_cons (ps_try_only rfl rfl ⟨rfl, by decide, .inl T.g_NoMeasure⟩ takes0 (fun W pn xe tk _ => (pss_one (ps_expr (pe_callS (okc_read_measure T) (hr.mono (by decide)) rfl T.g_read_measure T.f_read_measure.kp (bnil B0v B0) (fun σ => passAt tk σ) (pa_cons (pv 0) pa_nil))))) (fun a oe cls d pn hz hf => (pss_one (ps_set (i := 1) sc_l_refused.nd rfl (Or.inl rfl) pe_bl))))
      (pss_one (ps_ret (pv 1))))), ?_⟩
    refine ⟨_, rfl, .inr ⟨v, rfl, o, true, T.xm_NoMeasure_NoMeasure, fun _ a na => ?_, (fun q => nomatch q)⟩⟩
    exact ⟨_, rfl, k⟩
theorem ok_l_number_of {P : Program} {w : World} {K : PySem.W.Frag} {mg : Str → Option Value} {base : Heap} {φ : Fds} (T : Txt K mg φ) : FnOk P w K mg base CX0 2 (He.fAd K ("_law_number_of", none)) φ.l_number_of p_l_number_of sp_num := by
  obtain ⟨_, B0v, B0⟩ := b_l_take_2 T
  refine T.f_l_number_of.ok sc_l_number_of (fun vs H Q E h => ?_) (fun cdv A outer s H vs Q E hr h => ?_)
  · obtain ⟨h, n, rfl, hh, hn, k⟩ := h; rfl
  · obtain ⟨h, n, rfl, hh, hn, k⟩ := h
    refine ⟨_, PSs.nox (pss_cons (ps_set (i := 1) sc_l_number_of.nd rfl (Or.inl rfl) (pe_ix (ixl (K := K)) (pe_lst (pa_cons pe_int (pa_cons pe_int (pa_cons pe_int (pa_cons pe_int (pa_cons pe_int (pa_cons pe_int (pa_cons pe_int (pa_cons pe_int pa_nil))))))))) (pe_call (ok_l_take T) (hr.mono (by decide)) rfl T.g_l_take T.f_l_take.kp B0 B0v pass0 (pa_cons (pv 0) (pa_cons pe_int pa_nil))) (fun _ _ => rfl)))
      (pss_cons (ps_set (i := 2) sc_l_number_of.nd rfl (Or.inl rfl) (pe_callTy (T := "int") call_int_str (by rfl) T.z_int (by decide +kernel) (pa_cons (pe_op op_add_str pe_str (pe_op op_mulS pe_str (pe_op op_sub (pv 1) pe_int))) pa_nil)))
      (pss_one (ps_ret (pe_ix (ixl (K := K)) (pe_lst (pa_cons (pe_op op_sub (pe_op op_mulA pe_int (pv 2)) pe_int) (pa_cons (pv 2) (pa_cons (pe_op op_add (pv 2) (pe_call (ok_l_take T) (hr.mono (by decide)) rfl T.g_l_take T.f_l_take.kp B0 B0v pass0 (pa_cons (pv 0) (pa_cons (pe_op op_mulA pe_int (pv 2)) pa_nil)))) pa_nil)))) (pe_call (ok_l_take T) (hr.mono (by decide)) rfl T.g_l_take T.f_l_take.kp B0 B0v pass0 (pa_cons (pv 0) (pa_cons pe_int pa_nil))) (fun _ _ => rfl)))))), ?_⟩
    refine ⟨by show 8 ≤ sizeLine; decide, fun p np => ?_⟩
    refine ⟨_, rfl, h, n, _, rfl, hh.up np, by omega, by decide, by decide +kernel, fun d H1 d0 d1 hh1 k1 => ?_⟩
    have hv : ∃ j : Nat, j < 13 ∧ atI [V.int 1, V.int 1, V.int 2, V.int 3, V.int 11, V.int 12, V.int 12, V.int 13] d = some (V.int ((j : Int) + 1)) := by
      obtain rfl | rfl | rfl | rfl | rfl | rfl | rfl | rfl : d = 0 ∨ d = 1 ∨ d = 2 ∨ d = 3 ∨ d = 4 ∨ d = 5 ∨ d = 6 ∨ d = 7 := by omega
      · exact ⟨0, by decide, rfl⟩
      · exact ⟨0, by decide, rfl⟩
      · exact ⟨1, by decide, rfl⟩
      · exact ⟨2, by decide, rfl⟩
      · exact ⟨10, by decide, rfl⟩
      · exact ⟨11, by decide, rfl⟩
      · exact ⟨11, by decide, rfl⟩
      · exact ⟨12, by decide, rfl⟩
    obtain ⟨j, hj, hat⟩ := hv
    refine ⟨p, _, _, _, rfl, rfl, SqL.of (k1 _ _ upd_same (hh.ne np)), hat, ?_⟩
    have l1 : (Str.ofString "1").length = 1 := by decide +kernel
    have lr : (St8 (List.replicate j 48)).length = j := by rw [SX.S_len, List.length_replicate]
    refine ⟨_, rfl, _, _, rfl, rfl, 48, j, congrArg V.str c_zero, (congrArg V.int (by omega)), by omega, _, _, rfl, rfl, (by rw [l1, lr, sizeLine_eq]; omega), _, _, rfl, ten_text ⟨j, hj⟩, (by rw [Str.length_append, l1, lr]; omega), ?_⟩
    have hb : (10 ^ j : Nat) ≤ 10 ^ 12 := Nat.pow_le_pow_right (by decide) (by omega)
    have h0 : 0 < (10 ^ j : Nat) := Nat.pow_pos (by decide)
    generalize (10 ^ j : Nat) = m at hb h0 ⊢
    have sm : Sz 41 (m : Int) := by show ((m : Int)).natAbs < 2 ^ 41; omega
    have s10 : Sz 10 (10 : Int) := by decide
    have s9 : Sz 10 (9 : Int) := by decide
    refine ⟨_, rfl, _, _, rfl, rfl, s10.cmul sm (by decide) (by decide) (by decide), _, _, rfl, rfl, _, rfl, _, rfl, _, rfl, _, rfl, _, _, rfl, rfl, s9.cmul sm (by decide) (by decide) (by decide), h, _, _, rfl, hh1, by omega, by omega, (s9.mul sm).log (by decide) (by decide), fun e H2 e0 e1 hh2 k2 => ?_⟩
    refine ⟨_, _, rfl, rfl, by show 3 ≤ sizeLine; decide, fun q nq => ?_⟩
    refine ⟨_, rfl, h, _, _, rfl, hh2.up nq, by omega, by decide, by decide +kernel, fun c H3 c0 c1 hh3 k3 => ?_⟩
    have hw : ∃ z : Int, 0 < z ∧ z < 10 ^ 13 ∧ atI [V.int (10 * (m : Int) - 1), V.int (m : Int), V.int ((m : Int) + e)] c = some (V.int z) := by
      obtain rfl | rfl | rfl : c = 0 ∨ c = 1 ∨ c = 2 := by omega
      · exact ⟨10 * (m : Int) - 1, by omega, by omega, rfl⟩
      · exact ⟨(m : Int), by omega, by omega, rfl⟩
      · exact ⟨(m : Int) + e, by omega, by omega, rfl⟩
    obtain ⟨z, z0, z1, hat2⟩ := hw
    refine ⟨q, _, _, _, rfl, rfl, SqL.of (k3 _ _ upd_same (hh2.ne nq)), hat2, ?_⟩
    exact k z H3 z0 z1 (hh3.mono (by omega)) ((((((Kp.refl h H).up np).trans k1).trans k2).up nq).trans k3)
theorem ok_l_text_of {P : Program} {w : World} {K : PySem.W.Frag} {mg : Str → Option Value} {base : Heap} {φ : Fds} (T : Txt K mg φ) : FnOk P w K mg base CX0 3 (He.fAd K ("_law_text_of", none)) φ.l_text_of p_l_text_of sp_text := by
  obtain ⟨_, B0v, B0⟩ := b_l_number_of_1 T
  obtain ⟨_, B1v, B1⟩ := b_l_take_2 T
  obtain ⟨_, B2v, B2⟩ := b_l_common_2 T
  refine T.f_l_text_of.ok sc_l_text_of (fun vs H Q E h => ?_) (fun cdv A outer s H vs Q E hr h => ?_)
  · obtain ⟨h, n, rfl, hh, hn, k⟩ := h; rfl
  · obtain ⟨h, n, rfl, hh, hn, k⟩ := h
    refine ⟨_, PSs.nox (pss_cons (ps_asg (pe_tup (pa_cons (pe_call (ok_l_take T) (hr.mono (by decide)) rfl T.g_l_take T.f_l_take.kp B1 B1v pass0 (pa_cons (pv 0) (pa_cons pe_int pa_nil))) (pa_cons (pe_call (ok_l_number_of T) (hr.mono (by decide)) rfl T.g_l_number_of T.f_l_number_of.kp B0 B0v pass0 (pa_cons (pv 0) pa_nil)) (pa_cons (pe_call (ok_l_number_of T) (hr.mono (by decide)) rfl T.g_l_number_of T.f_l_number_of.kp B0 B0v pass0 (pa_cons (pv 0) pa_nil)) (pa_cons (pe_call (ok_l_number_of T) (hr.mono (by decide)) rfl T.g_l_number_of T.f_l_number_of.kp B0 B0v pass0 (pa_cons (pv 0) pa_nil)) pa_nil))))) (pg_tup rfl (pgs_cons (pg_name (i := 1) sc_l_text_of.nd rfl (Or.inl rfl)) (pgs_cons (pg_name (i := 2) sc_l_text_of.nd rfl (Or.inl rfl)) (pgs_cons (pg_name (i := 3) sc_l_text_of.nd rfl (Or.inl rfl)) (pgs_cons (pg_name (i := 4) sc_l_text_of.nd rfl (Or.inl rfl)) pgs_nil))))))
      (pss_cons (ps_set (i := 5) sc_l_text_of.nd rfl (Or.inl rfl) (pe_ix (ixl (K := K)) (pe_lst (pa_cons pe_str (pa_cons pe_str (pa_cons pe_str pa_nil)))) (pe_call (ok_l_take T) (hr.mono (by decide)) rfl T.g_l_take T.f_l_take.kp B1 B1v pass0 (pa_cons (pv 0) (pa_cons pe_int pa_nil))) (fun _ _ => rfl)))
      (pss_cons (ps_set (i := 6) sc_l_text_of.nd rfl (Or.inl rfl) (pe_call (ok_l_common T) (hr.mono (by decide)) rfl T.g_l_common T.f_l_common.kp B2 B2v pass0 (pa_cons (pv 3) (pa_cons (pe_op op_add (pv 3) (pv 4)) pa_nil))))
      (pss_cons (ps_set (i := 7) sc_l_text_of.nd rfl (Or.inl rfl) (pe_op op_add_str (pe_op op_add_str (pe_callTy (T := "str") call_str_int (by rfl) T.z_str (by decide +kernel) (pa_cons (pe_op op_fd (pv 3) (pv 6)) pa_nil)) pe_str) (pe_callTy (T := "str") call_str_int (by rfl) T.z_str (by decide +kernel) (pa_cons (pe_op op_fd (pe_op op_add (pv 3) (pv 4)) (pv 6)) pa_nil))))
      (pss_one (ps_ret (pe_op op_add_str (pv 5) (pe_ix (ixl (K := K)) (pe_lst (pa_cons (pe_callTy (T := "str") call_str_int (by rfl) T.z_str (by decide +kernel) (pa_cons (pv 2) pa_nil)) (pa_cons (pv 7) (pa_cons (pe_op op_add_str (pe_op op_add_str (pe_callTy (T := "str") call_str_int (by rfl) T.z_str (by decide +kernel) (pa_cons (pv 2) pa_nil)) pe_str) (pv 7)) (pa_cons pe_str pa_nil))))) (pv 1) (fun _ _ => rfl))))))))), ?_⟩
    refine ⟨_, rfl, h, n, _, rfl, hh, by omega, by decide, by decide +kernel, fun d H1 d0 d1 hh1 k1 => ?_⟩
    refine ⟨_, rfl, h, _, rfl, hh1, by omega, fun a H2 a0 a1 hh2 k2 => ?_⟩
    refine ⟨_, rfl, h, _, rfl, hh2, by omega, fun b H3 b0 b1 hh3 k3 => ?_⟩
    refine ⟨_, rfl, h, _, rfl, hh3, by omega, fun c H4 c0 c1 hh4 k4 => ?_⟩
    refine ⟨by show 4 ≤ sizeLine; decide, fun t nt => ⟨t, _, rfl, SqT.of upd_same, rfl, _, _, rfl, _, _, rfl, _, _, rfl, _, _, rfl, rfl, ?_⟩⟩
    have hh5 := hh4.up (u := .tup [.int d, .int a, .int b, .int c]) nt
    refine ⟨by show 3 ≤ sizeLine; decide, fun p np => ?_⟩
    refine ⟨_, rfl, h, _, _, rfl, hh5.up np, by omega, by decide, by decide +kernel, fun e H6 e0 e1 hh6 k6 => ?_⟩
    have hs : ∃ z : Str, z.length ≤ 1 ∧ atI [V.str (Str.ofString ""), V.str (Str.ofString "-"), V.str (Str.ofString "")] e = some (V.str z) := by
      obtain rfl | rfl | rfl : e = 0 ∨ e = 1 ∨ e = 2 := by omega
      · exact ⟨_, by decide +kernel, rfl⟩
      · exact ⟨_, by decide +kernel, rfl⟩
      · exact ⟨_, by decide +kernel, rfl⟩
    obtain ⟨sg, lsg, hat⟩ := hs
    refine ⟨p, _, _, _, rfl, rfl, SqL.of (k6 _ _ upd_same (hh5.ne np)), hat, ?_⟩
    have K6 : Kp h H H6 := ((((((k1.trans k2).trans k3).trans k4).up nt).up np).trans k6)
    have hh6' : HandAt H6 h (n + 11) := hh6.mono (by omega)
    clear hh hh1 hh2 hh3 hh4 hh5 hh6 k1 k2 k3 k4 k6
    refine ⟨_, rfl, _, rfl, _, rfl, _, _, rfl, rfl, b, b + c, rfl, by omega, by omega, ?_⟩
    have g0 : 0 < Int.gcd b (b + c) := Int.gcd_pos_of_ne_zero_left _ (by omega)
    have gl : Int.gcd b (b + c) ≤ b.natAbs := Nat.le_of_dvd (by omega) (Int.gcd_dvd_natAbs_left b (b + c))
    generalize Int.gcd b (b + c) = g at g0 gl ⊢
    have sa : Sz 1900 a := Sz.mono (a := 50) (show a.natAbs < 2 ^ 50 by omega) (by decide)
    have sb : Sz 50 b := show b.natAbs < 2 ^ 50 by omega
    have sc : Sz 50 (b + c) := show (b + c).natAbs < 2 ^ 50 by omega
    have sgc : Sz 50 (g : Int) := show ((g : Int)).natAbs < 2 ^ 50 by omega
    have gp : 0 < (g : Int) := by omega
    have f1 : b.fdiv (g : Int) = b / (g : Int) := Int.fdiv_eq_ediv_of_nonneg b (by omega)
    have f2 : (b + c).fdiv (g : Int) = (b + c) / (g : Int) := Int.fdiv_eq_ediv_of_nonneg _ (by omega)
    have d1' : Sz 1900 (b.fdiv (g : Int)) := by rw [f1]; exact (sb.ediv (by omega) gp).mono (by decide)
    have d2' : Sz 1900 ((b + c).fdiv (g : Int)) := by rw [f2]; exact (sc.ediv (by omega) gp).mono (by decide)
    have gn : ((g : Int) ≠ 0 ∧ (g : Int).natAbs.log2 < 9000) := ⟨by omega, sgc.log (by decide) (by decide)⟩
    have lA : (Str.ofString (toString a)).length ≤ 1921 := iT_len sa
    have lB : (Str.ofString (toString (b.fdiv (g : Int)))).length ≤ 1921 := iT_len d1'
    have lC : (Str.ofString (toString ((b + c).fdiv (g : Int)))).length ≤ 1921 := iT_len d2'
    have ls : (Str.ofString "/").length = 1 := by decide +kernel
    have lb : (Str.ofString " ").length = 1 := by decide +kernel
    have l0 : (Str.ofString "0").length = 1 := by decide +kernel
    refine ⟨_, rfl, _, rfl, _, _, rfl, rfl, gn, _, rfl, d1'.log' (by decide) (by decide), _, _, rfl, rfl, ?_, _, rfl, _, rfl, _, _, rfl, rfl, _, rfl, _, _, rfl, rfl, gn, _, rfl, d2'.log' (by decide) (by decide), _, _, rfl, rfl, ?_, ?_⟩
    · rw [sizeLine_eq]; omega
    · rw [sizeLine_eq]; simp only [Str.length_append]; omega
    generalize hR : Str.ofString (toString (b.fdiv (g : Int))) ++ Str.ofString "/" ++ Str.ofString (toString ((b + c).fdiv (g : Int))) = R
    have lR : R.length ≤ 3900 := by rw [← hR, Str.length_append, Str.length_append]; omega
    refine ⟨_, rfl, _, rfl, _, rfl, sa.log' (by decide) (by decide), _, rfl, _, rfl, _, rfl, sa.log' (by decide) (by decide), _, _, rfl, rfl, ?_, _, rfl, _, _, rfl, rfl, ?_, by show 4 ≤ sizeLine; decide, fun q nq => ?_⟩
    · rw [sizeLine_eq]; omega
    · rw [sizeLine_eq]; simp only [Str.length_append]; omega
    have hw : ∃ z : Str, z.length ≤ 6000 ∧ atI [V.str (Str.ofString (toString a)), V.str R, V.str (Str.ofString (toString a) ++ Str.ofString " " ++ R), V.str (Str.ofString "0")] d = some (V.str z) := by
      obtain rfl | rfl | rfl | rfl : d = 0 ∨ d = 1 ∨ d = 2 ∨ d = 3 := by omega
      · exact ⟨_, by omega, rfl⟩
      · exact ⟨_, by omega, rfl⟩
      · exact ⟨_, by rw [Str.length_append, Str.length_append]; omega, rfl⟩
      · exact ⟨_, by omega, rfl⟩
    obtain ⟨z, lz, hat3⟩ := hw
    refine ⟨_, rfl, q, _, _, _, rfl, rfl, SqL.of upd_same, hat3, _, _, rfl, rfl, (by rw [sizeLine_eq]; omega), ?_⟩
    exact k _ _ (by rw [Str.length_append]; omega) (hh6'.up nq) (K6.up nq)
theorem ok_l_nest {P : Program} {w : World} {K : PySem.W.Frag} {mg : Str → Option Value} {base : Heap} {φ : Fds} (T : Txt K mg φ) : FnOk P w K mg base CX0 1 (He.fAd K ("_law_nest", none)) φ.l_nest p_l_nest sp_nest := by
  refine T.f_l_nest.ok sc_l_nest (fun vs H Q E h => ?_) (fun cdv A outer s H vs Q E hr h => ?_)
  · obtain ⟨n, rfl, n1, n2, k⟩ := h; rfl
  · obtain ⟨n, rfl, n1, n2, k⟩ := h
    refine ⟨_, PSs.nox (pss_cons (ps_set (i := 1) sc_l_nest.nd rfl (Or.inl rfl) pe_int)
      (pss_cons (ps_for PassesOwn.never rfl (pi_range1 rfl T.z_range (pa_cons (pv 0) pa_nil)) (pg_name (i := 2) sc_l_nest.nd rfl (Or.inl rfl))
      (pss_one (ps_set (i := 1) sc_l_nest.nd rfl (Or.inl rfl) (pe_ix (ixl (K := K)) (pe_lst (pa_cons (pe_tup (pa_cons (pv 1) pa_nil)) (pa_cons (pe_lst (pa_cons (pv 1) pa_nil)) (pa_cons (pe_tup (pa_cons (pv 1) (pa_cons pe_int pa_nil))) pa_nil)))) (pe_op op_mod (pv 2) pe_int) (fun _ _ => rfl)))))
      (pss_one (ps_ret (pv 1))))), ?_⟩
    refine ⟨_, rfl, _, rfl, by omega, by omega, for_range (fun i σ H' => ∃ (v : V) (u : Option V), σ = [some (.int n), some v, u] ∧ Same H H' ∧ ((i = 0 ∧ v = .int 7) ∨ ∃ (a : Addr) (xs : List V), v = .ref a ∧ H a = none ∧ (H' a = some (.lst xs) ∨ H' a = some (.tup xs)))) ⟨_, _, rfl, Same.refl _, .inl ⟨rfl, rfl⟩⟩ ?_ ?_⟩
    · rintro i σ H1 hi ⟨v, u, rfl, s1, _⟩
      refine ⟨_, rfl, by show 1 ≤ sizeLine; decide, fun p1 q1 => ?_⟩
      refine ⟨_, rfl, by show 1 ≤ sizeLine; decide, fun p2 q2 => ?_⟩
      refine ⟨_, rfl, by show 2 ≤ sizeLine; decide, fun p3 q3 => ?_⟩
      refine ⟨by show 3 ≤ sizeLine; decide, fun p4 q4 => ?_⟩
      refine ⟨_, rfl, _, _, rfl, rfl, (by show (0 : Int) < 3; decide), ?_⟩
      have hat : atI [V.ref p1, V.ref p2, V.ref p3] ((0 + (i : Int)) % 3) = some (V.ref p1) ∨ atI [V.ref p1, V.ref p2, V.ref p3] ((0 + (i : Int)) % 3) = some (V.ref p2) ∨ atI [V.ref p1, V.ref p2, V.ref p3] ((0 + (i : Int)) % 3) = some (V.ref p3) := by
        have m0 := Int.emod_nonneg (0 + (i : Int)) (show (3 : Int) ≠ 0 by decide)
        have m1 := Int.emod_lt_of_pos (0 + (i : Int)) (show (0 : Int) < 3 by decide)
        generalize (0 + (i : Int)) % 3 = m at m0 m1 ⊢
        obtain rfl | rfl | rfl : m = 0 ∨ m = 1 ∨ m = 2 := by omega
        · exact .inl rfl
        · exact .inr (.inl rfl)
        · exact .inr (.inr rfl)
      have f1 : H p1 = none := s1.free q1
      have f2 : H p2 = none := (s1.up q1).free q2
      have f3 : H p3 = none := ((s1.up q1).up q2).free q3
      rcases hat with hat | hat | hat
      · refine ⟨p4, _, _, _, rfl, rfl, SqL.of upd_same, hat, ?_⟩
        exact ⟨_, _, rfl, (((s1.up q1).up q2).up q3).up q4, .inr ⟨p1, _, rfl, f1, .inr (up1 q4 (up1 q3 (up1 q2 upd_same)))⟩⟩
      · refine ⟨p4, _, _, _, rfl, rfl, SqL.of upd_same, hat, ?_⟩
        exact ⟨_, _, rfl, (((s1.up q1).up q2).up q3).up q4, .inr ⟨p2, _, rfl, f2, .inl (up1 q4 (up1 q3 upd_same))⟩⟩
      · refine ⟨p4, _, _, _, rfl, rfl, SqL.of upd_same, hat, ?_⟩
        exact ⟨_, _, rfl, (((s1.up q1).up q2).up q3).up q4, .inr ⟨p3, _, rfl, f3, .inr (up1 q4 upd_same)⟩⟩
    · rintro σ H1 ⟨v, u, rfl, s1, h⟩
      rcases h with ⟨e, _⟩ | ⟨a, xs, rfl, na, h⟩
      · omega
      · exact ⟨_, rfl, k a xs H1 s1 na h⟩
theorem ok_l_any_thing {P : Program} {w : World} {K : PySem.W.Frag} {mg : Str → Option Value} {base : Heap} {φ : Fds} (T : Txt K mg φ) : FnOk P w K mg base CX0 2 (He.fAd K ("_law_any_thing", none)) φ.l_any_thing p_l_any_thing sp_thingS := by
  obtain ⟨_, B0v, B0⟩ := b_l_nest_1 T
  obtain ⟨_, B1v, B1⟩ := b_l_take_2 T
  refine T.f_l_any_thing.ok sc_l_any_thing (fun vs H Q E h => ?_) (fun cdv A outer s H vs Q E hr h => ?_)
  · obtain ⟨h, n, rfl, hh, hn, k⟩ := h; rfl
  · obtain ⟨h, n, rfl, hh, hn, k⟩ := h
    refine ⟨_, PSs.nox (pss_cons (ps_set (i := 1) sc_l_any_thing.nd rfl (Or.inl rfl) (pe_lst (pa_cons pe_non (pa_cons pe_bl (pa_cons pe_bl (pa_cons (pe_tup pa_nil) (pa_cons (pe_tup (pa_cons pe_int pa_nil)) (pa_cons (pe_lst pa_nil) (pa_cons (pe_lst (pa_cons pe_int pa_nil)) (pa_cons pe_dnewK (pa_cons (pe_disp (pps_cons pe_int pe_int pps_nil) (by rfl) (by rfl) (fun z => by cases z) (by decide)) (pa_cons (pe_lst (pa_cons (pe_tup (pa_cons pe_int pa_nil)) pa_nil)) (pa_cons (pe_tup (pa_cons pe_int (pa_cons pe_int pa_nil))) (pa_cons (pe_tup (pa_cons pe_non (pa_cons pe_int pa_nil))) (pa_cons (pe_lst (pa_cons (pe_lst (pa_cons pe_int pa_nil)) (pa_cons pe_int pa_nil))) pa_nil)))))))))))))))
      (pss_one (ps_ret (pe_ix (ixl (K := K)) (pe_op op_cat (pv 1) (pe_lst (pa_cons (pe_call (ok_l_nest T) (hr.mono (by decide)) rfl T.g_l_nest T.f_l_nest.kp B0 B0v pass0 (pa_cons pe_int pa_nil)) (pa_cons (pe_call (ok_l_nest T) (hr.mono (by decide)) rfl T.g_l_nest T.f_l_nest.kp B0 B0v pass0 (pa_cons (pe_op op_add pe_int (pe_call (ok_l_take T) (hr.mono (by decide)) rfl T.g_l_take T.f_l_take.kp B1 B1v pass0 (pa_cons (pv 0) (pa_cons pe_int pa_nil)))) pa_nil)) pa_nil)))) (pe_call (ok_l_take T) (hr.mono (by decide)) rfl T.g_l_take T.f_l_take.kp B1 B1v pass0 (pa_cons (pv 0) (pa_cons pe_int pa_nil))) (fun _ _ => rfl))))), ?_⟩
    refine ⟨by show 0 ≤ sizeLine; decide, fun t1 n1 => ?_⟩
    refine ⟨by show 1 ≤ sizeLine; decide, fun t2 n2 => ?_⟩
    refine ⟨by show 0 ≤ sizeLine; decide, fun t3 n3 => ?_⟩
    refine ⟨by show 1 ≤ sizeLine; decide, fun t4 n4 => ?_⟩
    refine fun t5 n5 => ?_
    refine fun t6 n6 => ⟨upd_same, [(.inl 1, .int 2)], rfl, by decide, ?_⟩
    refine ⟨by show 1 ≤ sizeLine; decide, fun t7 n7 => ⟨by show 1 ≤ sizeLine; decide, fun t8 n8 => ?_⟩⟩
    refine ⟨by show 2 ≤ sizeLine; decide, fun t9 n9 => ?_⟩
    refine ⟨by show 2 ≤ sizeLine; decide, fun t10 n10 => ?_⟩
    refine ⟨by show 1 ≤ sizeLine; decide, fun t11 n11 => ⟨by show 2 ≤ sizeLine; decide, fun t12 n12 => ?_⟩⟩
    refine ⟨by show 13 ≤ sizeLine; decide, fun l1 m1 => ?_⟩
    have H6 : ∀ {x : Addr} {o : HO} {G : Hp} {w : HO}, G t6 = none → G x = some o → upd (upd G t6 (.dK [])) t6 w x = some o := fun e1 e2 => by rw [upd_upd]; exact up1 e1 e2
    have N6 : ∀ {G : Hp} {w : HO}, G t6 = none → Same G (upd (upd G t6 (.dK [])) t6 w) := fun e1 => by rw [upd_upd]; exact same1 e1
    have hne : ∀ {p : Addr} {G : Hp}, G p = none → Same H G → p ≠ h := fun e s => (hh.same s).ne e
    have z3 : t3 ≠ h := hne n3 ((same1 n1 : Same H _).up n2)
    have z4 : t4 ≠ h := hne n4 (((same1 n1 : Same H _).up n2).up n3)
    have S6 := (((((same1 n1 : Same H _).up n2).up n3).up n4).up n5 (u := .dK [])).trans (N6 (w := .dK (mergeK [] [(.inl 1, .int 2)])) n6)
    have z8 : t8 ≠ h := hne n8 (S6.up n7)
    have z11 : t11 ≠ h := hne n11 ((((S6.up n7).up n8).up n9).up n10)
    have z12 : t12 ≠ h := hne n12 (((((S6.up n7).up n8).up n9).up n10).up n11)
    have zl : l1 ≠ h := hne m1 ((((((S6.up n7).up n8).up n9).up n10).up n11).up n12)
    generalize hG : upd _ l1 _ = HG
    have SG : Same H HG := by
      rw [← hG]
      exact (((((((S6.up n7).up n8).up n9).up n10).up n11).up n12).up m1)
    have g1 : HG t1 = some (.tup []) := by
      rw [← hG]; exact up1 m1 (up1 n12 (up1 n11 (up1 n10 (up1 n9 (up1 n8 (up1 n7 (H6 n6 (up1 n5 (up1 n4 (up1 n3 (up1 n2 upd_same)))))))))))
    have g2 : HG t2 = some (.tup [.int 1]) := by
      rw [← hG]; exact up1 m1 (up1 n12 (up1 n11 (up1 n10 (up1 n9 (up1 n8 (up1 n7 (H6 n6 (up1 n5 (up1 n4 (up1 n3 upd_same))))))))))
    have g3 : HG t3 = some (.lst []) := by
      rw [← hG]; exact up1 m1 (up1 n12 (up1 n11 (up1 n10 (up1 n9 (up1 n8 (up1 n7 (H6 n6 (up1 n5 (up1 n4 upd_same)))))))))
    have g4 : HG t4 = some (.lst [.int 1]) := by
      rw [← hG]; exact up1 m1 (up1 n12 (up1 n11 (up1 n10 (up1 n9 (up1 n8 (up1 n7 (H6 n6 (up1 n5 upd_same))))))))
    have g5 : HG t5 = some (.dK []) := by
      rw [← hG]; exact up1 m1 (up1 n12 (up1 n11 (up1 n10 (up1 n9 (up1 n8 (up1 n7 (H6 n6 upd_same)))))))
    have g6 : HG t6 = some (.dK (mergeK [] [(.inl 1, .int 2)])) := by
      rw [← hG]; exact up1 m1 (up1 n12 (up1 n11 (up1 n10 (up1 n9 (up1 n8 (up1 n7 upd_same))))))
    have g8 : HG t8 = some (.lst [.ref t7]) := by
      rw [← hG]; exact up1 m1 (up1 n12 (up1 n11 (up1 n10 (up1 n9 upd_same))))
    have g9 : HG t9 = some (.tup [.int 1, .int 2]) := by
      rw [← hG]; exact up1 m1 (up1 n12 (up1 n11 (up1 n10 upd_same)))
    have g10 : HG t10 = some (.tup [.non, .int 3]) := by
      rw [← hG]; exact up1 m1 (up1 n12 (up1 n11 upd_same))
    have g12 : HG t12 = some (.lst [.ref t11, .int 2]) := by
      rw [← hG]; exact up1 m1 upd_same
    have gl : HG l1 = some (.lst [.non, .bl true, .bl false, .ref t1, .ref t2, .ref t3, .ref t4, .ref t5, .ref t6, .ref t8, .ref t9, .ref t10, .ref t12]) := by
      rw [← hG]; exact upd_same
    have A13 : ∀ x ∈ ([.non, .bl true, .bl false, .ref t1, .ref t2, .ref t3, .ref t4, .ref t5, .ref t6, .ref t8, .ref t9, .ref t10, .ref t12] : List V), Thing h HG x := by
      intro x hx
      simp only [List.mem_cons, List.not_mem_nil, or_false] at hx
      rcases hx with rfl | rfl | rfl | rfl | rfl | rfl | rfl | rfl | rfl | rfl | rfl | rfl | rfl
      · exact .inl rfl
      · exact .inr (.inl ⟨_, rfl⟩)
      · exact .inr (.inl ⟨_, rfl⟩)
      · exact .of_tup g1
      · exact .of_tup g2
      · exact .of_lst z3 g3
      · exact .of_lst z4 g4
      · exact .of_dct g5
      · exact .of_dct g6
      · exact .of_lst z8 g8
      · exact .of_tup g9
      · exact .of_tup g10
      · exact .of_lst z12 g12
    have N13 : ∀ x ∈ ([.non, .bl true, .bl false, .ref t1, .ref t2, .ref t3, .ref t4, .ref t5, .ref t6, .ref t8, .ref t9, .ref t10, .ref t12] : List V), ∀ i : Str, x ≠ .str i := by
      intro x hx i
      simp only [List.mem_cons, List.not_mem_nil, or_false] at hx
      rcases hx with rfl | rfl | rfl | rfl | rfl | rfl | rfl | rfl | rfl | rfl | rfl | rfl | rfl <;> exact fun z => nomatch z
    generalize hX : ([.non, .bl true, .bl false, .ref t1, .ref t2, .ref t3, .ref t4, .ref t5, .ref t6, .ref t8, .ref t9, .ref t10, .ref t12] : List V) = xs at A13 N13 gl
    have lx : xs.length = 13 := by rw [← hX]; rfl
    clear g1 g2 g3 g4 g5 g6 g8 g9 g10 g12 hX hG S6 H6 N6
    have hhG := hh.same SG
    refine ⟨_, rfl, _, rfl, by decide, by decide, fun a1 x1 HA sA nA eA => ?_⟩
    have ta : Thing h HA (.ref a1) := by
      rcases eA with e | e
      · exact .of_lst (hhG.ne nA) e
      · exact .of_tup e
    have hhA := hhG.same sA
    refine ⟨_, rfl, h, n, _, rfl, hhA, by omega, by decide, by decide +kernel, fun d HB d0 d1 hhB kB => ?_⟩
    refine ⟨_, _, rfl, rfl, _, rfl, by omega, by omega, fun a2 x2 HC sC nC eC => ?_⟩
    have tb : Thing h HC (.ref a2) := by
      rcases eC with e | e
      · exact .of_lst (hhB.ne nC) e
      · exact .of_tup e
    have hhC := hhB.same sC
    refine ⟨by show 2 ≤ sizeLine; decide, fun l2 m2 => ?_⟩
    have glC : HC l1 = some (.lst xs) := sC _ _ (kB _ _ (sA _ _ gl) zl)
    refine ⟨l1, l2, _, _, rfl, rfl, up1 m2 glC, upd_same, by rw [lx]; show 15 ≤ sizeLine; decide, fun l3 m3 => ?_⟩
    have hhD := (hhC.up (u := .lst [.ref a1, .ref a2]) m2)
    have z3' : l3 ≠ h := hhD.ne m3
    refine ⟨_, rfl, h, n + 1, _, rfl, hhD.up m3, by omega, by decide, by decide +kernel, fun e HE e0 e1 hhE kE => ?_⟩
    have all : ∀ x ∈ xs ++ [.ref a1, .ref a2], Thing h HE x := by
      intro x hx
      have sCD : Same HC (upd (upd HC l2 (.lst [.ref a1, .ref a2])) l3 (.lst (xs ++ [.ref a1, .ref a2]))) := (same1 m2 : Same HC _).up m3
      have fin : Thing h HC x → Thing h HE x := fun t => (t.same sCD).kp (hhD.up m3) kE
      rcases List.mem_append.mp hx with hx | hx
      · exact fin ((((A13 x hx).same sA).kp hhA kB).same sC)
      · simp at hx
        rcases hx with rfl | rfl
        · exact fin ((ta.kp hhA kB).same sC)
        · exact fin tb
    have hl3 : HE l3 = some (.lst (xs ++ [.ref a1, .ref a2])) := kE _ _ upd_same z3'
    obtain ⟨j, rfl⟩ := Int.eq_ofNat_of_zero_le e0
    have hj : j < (xs ++ [V.ref a1, V.ref a2]).length := by
      rw [List.length_append, lx]
      show j < 15
      omega
    refine ⟨l3, _, _, _, rfl, rfl, SqL.of hl3, atI_nat (List.getElem?_eq_getElem hj), ?_⟩
    have ni : ∀ x ∈ xs ++ [V.ref a1, V.ref a2], ∀ i : Str, x ≠ .str i := by
      intro x hx i
      rcases List.mem_append.mp hx with hx | hx
      · exact N13 x hx i
      · simp at hx
        rcases hx with rfl | rfl <;> exact fun z => nomatch z
    refine k _ HE (all _ (List.getElem_mem hj)) (ni _ (List.getElem_mem hj)) (hhE.mono (by omega)) ?_
    exact ((((Kp.same (SG.trans sA)).trans kB).trans (Kp.same sC)).trans (((Kp.refl h HC).up m2).up m3)).trans kE
theorem ok_l_bent {P : Program} {w : World} {K : PySem.W.Frag} {mg : Str → Option Value} {base : Heap} {φ : Fds} (T : Txt K mg φ) : FnOk P w K mg base CX0 2 (He.fAd K ("_law_bent", none)) φ.l_bent p_l_bent sp_bent := by
  obtain ⟨_, B0v, B0⟩ := b_l_take_2 T
  refine funD_okT T.f_l_bent sc_l_bent (by decide +kernel) (by decide) (fun vs H Q E h => ?_) (fun cdv A outer s H vs Q E hr h => ?_)
  · obtain ⟨h, n, z, rfl, hz, hh, hn, k⟩ := h; rfl
  · obtain ⟨h, n, z, rfl, hz, hh, hn, k⟩ := h
    refine ⟨_, (psst_cons (PST.of (ps_par (i := 2) (j := 3) rfl sc_l_bent.nd rfl rfl (by decide) rfl rfl (pa_cons (pe_call (ok_l_take T) (hr.mono (by decide)) rfl T.g_l_take T.f_l_take.kp B0 B0v pass0 (pa_cons (pv 0) (pa_cons pe_int pa_nil))) (pa_cons (pe_call (ok_l_take T) (hr.mono (by decide)) rfl T.g_l_take T.f_l_take.kp B0 B0v pass0 (pa_cons (pv 0) (pa_cons (pe_op op_add (pe_callB (id := "len") call_len_str (by rfl) T.z_len PySem.boot_len (pa_cons (pv 1) pa_nil)) pe_int) pa_nil))) pa_nil)) (by rfl)))
      (psst_cons (PST.of (ps_set (i := 4) sc_l_bent.nd rfl (Or.inl rfl) (pe_ix ix_str pe_str (pe_call (ok_l_take T) (hr.mono (by decide)) rfl T.g_l_take T.f_l_take.kp B0 B0v pass0 (pa_cons (pv 0) (pa_cons pe_int pa_nil))) (fun _ _ => rfl))))
      (psst_cons (PST.of (ps_set (i := 5) sc_l_bent.nd rfl (Or.inl rfl) (pe_split (pv 1) pe_str)))
      (psst_cons (PST.of (ps_set (i := 6) sc_l_bent.nd rfl (Or.inl rfl) (pe_lst (pa_cons (pe_op op_add_str (pe_op op_add_str (pe_slice sl_str (pv 1) po_none (po_some (pv 3))) (pv 4)) (pe_slice sl_str (pv 1) (po_some (pv 3)) po_none)) (pa_cons (pe_op op_add_str (pe_op op_add_str (pe_slice sl_str (pv 1) po_none (po_some (pv 3))) (pv 4)) (pe_slice sl_str (pv 1) (po_some (pe_op op_add (pv 3) pe_int)) po_none)) (pa_cons (pe_op op_add_str (pe_slice sl_str (pv 1) po_none (po_some (pv 3))) (pe_slice sl_str (pv 1) (po_some (pe_op op_add (pv 3) pe_int)) po_none)) (pa_cons (pe_op op_add_str pe_str (pv 1)) pa_nil)))))))
      (psst_cons (PST.of (ps_set (i := 6) sc_l_bent.nd rfl (Or.inl rfl) (pe_op op_cat (pv 6) (pe_lst (pa_cons (pe_join pe_str (pe_revL (pv 5))) (pa_cons (pe_join pe_str (pe_op op_cat (pv 5) (pe_slice (slL (K := K)) (pv 5) po_none (po_some pe_int)))) (pa_cons (pe_join pe_str (pe_slice (slL (K := K)) (pv 5) (po_some pe_int) po_none)) (pa_cons (pe_op op_add_str pe_str (pv 1)) (pa_cons (pe_op op_add_str (pv 1) pe_str) pa_nil)))))))))
      (CwR.psst_one (CwR.pst_ret (pet_ix (ixl (K := K)) (CwR.pet_op op_cat (CwR.PET.of (pv 6)) (pet_lst (pat_cons (CwR.pet_op op_add_str (CwR.pet_replC (pv 1) (by decide +kernel)) (CwR.PET.of pe_str)) pat_nil))) (CwR.PET.of (pv 2)) (fun _ _ => rfl))))))))), ?_⟩
    refine ⟨_, rfl, h, n, _, rfl, hh, by omega, by decide, by decide +kernel, fun ch H1 c0 c1 hh1 k1 => ?_⟩
    refine ⟨_, rfl, _, rfl, _, rfl, (by rw [sizeLine_eq]; omega), _, _, rfl, rfl, h, _, _, rfl, hh1, by omega, by omega, Sz.log (a := 20) (show ((z.length : Int) + 1).natAbs < 2 ^ 20 by omega) (by decide) (by decide), fun at_ H2 a0 a1 hh2 k2 => ⟨_, _, rfl, ?_⟩⟩
    refine ⟨_, rfl, h, _, _, rfl, hh2, by omega, by decide, by decide +kernel, fun e H3 e0 e1 hh3 k3 => ?_⟩
    have hc : ∃ c : Nat, atI (Str.ofString "0123456789 /-+.,x\n").cps.toList e = some c := by
      have el : (Str.ofString "0123456789 /-+.,x\n").cps.toList = [48, 49, 50, 51, 52, 53, 54, 55, 56, 57, 32, 47, 45, 43, 46, 44, 120, 10] := by decide +kernel
      rw [el]
      obtain ⟨j, rfl⟩ := Int.eq_ofNat_of_zero_le e0
      have hj : j < 18 := by omega
      exact ⟨_, atI_nat (List.getElem?_eq_getElem (by show j < 18; exact hj))⟩
    obtain ⟨c, hat⟩ := hc
    refine ⟨_, e, c, rfl, rfl, by decide +kernel, hat, ?_⟩
    have K3 : Kp h H H3 := (k1.trans k2).trans k3
    have hh3' : HandAt H3 h (n + 3) := hh3.mono (by omega)
    clear hh hh1 hh2 hh3 k1 k2 k3
    have l1 : (⟨#[c]⟩ : Str).length = 1 := rfl
    generalize (⟨#[c]⟩ : Str) = sg at l1 ⊢
    -- the words
    refine ⟨_, rfl, ⟨_, rfl⟩, z, Str.ofString " ", rfl, rfl, by decide +kernel, (by rw [sizeLine_eq]; omega), fun wp nwp => ?_⟩
    have tot := split_tot z
    generalize Txt.split z (Str.ofString " ") = ys at tot ⊢
    have q1 : (Str.ofString " ").length = 1 := by decide +kernel
    have q0 : (Str.ofString "0").length = 1 := by decide +kernel
    have qm : (Str.ofString "-").length = 1 := by decide +kernel
    have qs : (Str.ofString "/1").length = 2 := by decide +kernel
    have cl : ∀ lo hi, (cutS z lo hi).length ≤ z.length := fun lo hi => cutS_len z lo hi
    have A1 := cl none (some at_)
    have A2 := cl (some at_) none
    have A3 := cl (some (at_ + 1)) none
    have sz0 : z.length ≤ sizeLine := by rw [sizeLine_eq]; omega
    -- the first four
    refine ⟨_, rfl, _, rfl, _, rfl, z, rfl, sz0, _, rfl, _, _, rfl, rfl, (by rw [sizeLine_eq]; (try simp only [Str.length_append]); omega), _, rfl, _, rfl, _, rfl, z, rfl, sz0, _, _, rfl, rfl, (by rw [sizeLine_eq]; (try simp only [Str.length_append]); omega), ?_⟩
    refine ⟨_, rfl, _, rfl, _, rfl, z, rfl, sz0, _, rfl, _, _, rfl, rfl, (by rw [sizeLine_eq]; (try simp only [Str.length_append]); omega), _, rfl, _, rfl, _, _, rfl, rfl, _, rfl, z, rfl, sz0, _, _, rfl, rfl, (by rw [sizeLine_eq]; (try simp only [Str.length_append]); omega), ?_⟩
    refine ⟨_, rfl, _, rfl, _, rfl, z, rfl, sz0, _, rfl, _, rfl, _, _, rfl, rfl, _, rfl, z, rfl, sz0, _, _, rfl, rfl, (by rw [sizeLine_eq]; (try simp only [Str.length_append]); omega), ?_⟩
    refine ⟨_, rfl, _, _, rfl, rfl, (by rw [sizeLine_eq]; (try simp only [Str.length_append]); omega), by show 4 ≤ sizeLine; decide, fun l1' nl1 => ?_⟩
    generalize hX : ([V.str (cutS z none (some at_) ++ sg ++ cutS z (some at_) none), V.str (cutS z none (some at_) ++ sg ++ cutS z (some (at_ + 1)) none), V.str (cutS z none (some at_) ++ cutS z (some (at_ + 1)) none), V.str (Str.ofString "0" ++ z)] : List V) = xs1
    have px1 : ∀ x ∈ xs1, ∃ y : Str, x = .str y ∧ y.length ≤ 3 * z.length + 100 := by
      rw [← hX]
      intro x hx
      simp only [List.mem_cons, List.not_mem_nil, or_false] at hx
      rcases hx with rfl | rfl | rfl | rfl
      · exact ⟨_, rfl, by simp only [Str.length_append]; omega⟩
      · exact ⟨_, rfl, by simp only [Str.length_append]; omega⟩
      · exact ⟨_, rfl, by simp only [Str.length_append]; omega⟩
      · exact ⟨_, rfl, by simp only [Str.length_append]; omega⟩
    have lx1 : xs1.length = 4 := by rw [← hX]; rfl
    rw [hX] at *
    clear hX
    have hw1 : (upd (upd H3 wp (.lst (ys.map V.str))) l1' (.lst xs1)) wp = some (.lst (ys.map V.str)) := up1 nl1 upd_same
    -- five more
    refine ⟨_, rfl, ⟨_, rfl⟩, _, rfl, wp, _, rfl, SqL.of hw1, fun r1 nr1 => ?_⟩
    have jr : (((ys.reverse)).map (·.length)).sum = (ys.map (·.length)).sum := by rw [List.map_reverse, sum_rev]
    refine ⟨_, r1, ys.reverse, rfl, rfl, .inl (SqL.of (by rw [upd_same, List.map_reverse])), (by rw [jr, List.length_reverse, q1]; omega), ?_⟩
    have J1 := join_len (Str.ofString " ") ys.reverse
    rw [jr, List.length_reverse, q1] at J1
    generalize Txt.join (Str.ofString " ") ys.reverse = t1 at J1 ⊢
    refine ⟨⟨_, rfl⟩, _, rfl, _, rfl, _, rfl, wp, _, rfl, SqL.of (up1 nr1 hw1), fun r2 nr2 => ?_⟩
    obtain ⟨zs, ez, z1, z2⟩ := cutV_strs ys none (some 1)
    refine ⟨wp, r2, _, _, rfl, rfl, up1 nr2 (up1 nr1 hw1), upd_same, (by rw [ez, List.length_map, List.length_map, sizeLine_eq]; omega), fun r3 nr3 => ?_⟩
    refine ⟨_, r3, ys ++ zs, rfl, rfl, .inl (SqL.of (by rw [upd_same, List.map_append, ez])), (by rw [List.map_append, List.sum_append, List.length_append, q1]; omega), ?_⟩
    have J2 := join_len (Str.ofString " ") (ys ++ zs)
    rw [List.map_append, List.sum_append, List.length_append, q1] at J2
    generalize Txt.join (Str.ofString " ") (ys ++ zs) = t2 at J2 ⊢
    refine ⟨⟨_, rfl⟩, _, rfl, _, rfl, wp, _, rfl, SqL.of (up1 nr3 (up1 nr2 (up1 nr1 hw1))), fun r4 nr4 => ?_⟩
    obtain ⟨us, eu, u1, u2⟩ := cutV_strs ys (some 1) none
    refine ⟨_, r4, us, rfl, rfl, .inl (SqL.of (by rw [upd_same, eu])), (by rw [q1]; omega), ?_⟩
    have J3 := join_len (Str.ofString " ") us
    rw [q1] at J3
    generalize Txt.join (Str.ofString " ") us = t3 at J3 ⊢
    refine ⟨_, rfl, _, _, rfl, rfl, (by rw [sizeLine_eq]; (try simp only [Str.length_append]); omega), _, rfl, _, _, rfl, rfl, (by rw [sizeLine_eq]; (try simp only [Str.length_append]); omega), by show 5 ≤ sizeLine; decide, fun l2 nl2 => ?_⟩
    have hl1 : (upd (upd (upd (upd (upd (upd (upd H3 wp (.lst (ys.map V.str))) l1' (.lst xs1)) r1 (.lst (ys.map V.str).reverse)) r2 (.lst (cutV (ys.map V.str) none (some 1)))) r3 (.lst (ys.map V.str ++ cutV (ys.map V.str) none (some 1)))) r4 (.lst (cutV (ys.map V.str) (some 1) none))) l2 (.lst [.str t1, .str t2, .str t3, .str (Str.ofString "-" ++ z), .str (z ++ Str.ofString "/1")])) l1' = some (.lst xs1) := up1 nl2 (up1 nr4 (up1 nr3 (up1 nr2 (up1 nr1 upd_same))))
    refine ⟨l1', l2, xs1, _, rfl, rfl, hl1, upd_same, (by rw [lx1]; show 9 ≤ sizeLine; decide), fun l3 nl3 => ?_⟩
    generalize hG : upd (upd _ l2 _) l3 _ = HG
    have SG : Same H3 HG := by
      rw [← hG]
      exact (((((((same1 nwp : Same H3 _).up nl1).up nr1).up nr2).up nr3).up nr4).up nl2).up nl3
    have hl3 : HG l3 = some (.lst (xs1 ++ [V.str t1, .str t2, .str t3, .str (Str.ofString "-" ++ z), .str (z ++ Str.ofString "/1")])) := by rw [← hG]; exact upd_same
    clear hG hl1 hw1
    -- the last one
    have lrp := TK.replace_len z (Str.ofString "/") (Str.ofString "0/")
    have q2 : (Str.ofString "0/").length = 2 := by decide +kernel
    rw [q2] at lrp
    refine ⟨_, rfl, _, rfl, z, rfl, (by rw [q2]; omega), _, _, rfl, rfl, (by rw [sizeLine_eq]; omega), by show 1 ≤ sizeLine; decide, fun l4 nl4 => ?_⟩
    refine ⟨l3, l4, _, _, rfl, rfl, up1 nl4 hl3, upd_same, (by rw [List.length_append, lx1]; show 10 ≤ sizeLine; decide), fun l5 nl5 => ?_⟩
    have all : ∀ x ∈ (xs1 ++ [V.str t1, .str t2, .str t3, .str (Str.ofString "-" ++ z), .str (z ++ Str.ofString "/1")]) ++ [V.str (Txt.replace z (Str.ofString "/") (Str.ofString "0/") ++ Str.ofString "0")], ∃ y : Str, x = .str y ∧ y.length ≤ 3 * z.length + 100 := by
      intro x hx
      rcases List.mem_append.mp hx with hx | hx
      · rcases List.mem_append.mp hx with hx | hx
        · exact px1 x hx
        · simp only [List.mem_cons, List.not_mem_nil, or_false] at hx
          rcases hx with rfl | rfl | rfl | rfl | rfl
          · exact ⟨_, rfl, by omega⟩
          · exact ⟨_, rfl, by omega⟩
          · exact ⟨_, rfl, by omega⟩
          · exact ⟨_, rfl, by simp only [Str.length_append]; omega⟩
          · exact ⟨_, rfl, by simp only [Str.length_append]; omega⟩
      · simp only [List.mem_cons, List.not_mem_nil, or_false] at hx
        subst hx
        exact ⟨_, rfl, by simp only [Str.length_append]; omega⟩
    have len : ((xs1 ++ [V.str t1, .str t2, .str t3, .str (Str.ofString "-" ++ z), .str (z ++ Str.ofString "/1")]) ++ [V.str (Txt.replace z (Str.ofString "/") (Str.ofString "0/") ++ Str.ofString "0")]).length = 10 := by
      rw [List.length_append, List.length_append, lx1]; rfl
    generalize hXS : (xs1 ++ [V.str t1, .str t2, .str t3, .str (Str.ofString "-" ++ z), .str (z ++ Str.ofString "/1")]) ++ [V.str (Txt.replace z (Str.ofString "/") (Str.ofString "0/") ++ Str.ofString "0")] = XS at all len ⊢
    obtain ⟨j, rfl⟩ := Int.eq_ofNat_of_zero_le c0
    have hj : j < XS.length := by omega
    obtain ⟨y, ey, ly⟩ := all XS[j] (List.getElem_mem hj)
    refine ⟨_, rfl, l5, XS, _, _, rfl, rfl, SqL.of upd_same, atI_nat (List.getElem?_eq_getElem hj), ?_⟩
    rw [ey]
    exact k y _ ly (((hh3'.same SG).up nl4).up nl5) (((K3.trans (Kp.same SG)).up nl4).up nl5)
theorem ok_law {P : Program} {w : World} {K : PySem.W.Frag} {mg : Str → Option Value} {base : Heap} {φ : Fds} (T : Txt K mg φ) : FnOk P w K mg base CX0 13 (He.fAd K ("law", none)) φ.law p_law (sp_law K) := by
  obtain ⟨_, B0v, B0⟩ := b_l_right_1 T
  obtain ⟨_, B1v, B1⟩ := b_l_hand_of_2 T
  obtain ⟨_, B2v, B2⟩ := b_l_text_of_1 T
  obtain ⟨_, B3v, B3⟩ := b_l_any_thing_1 T
  obtain ⟨_, B4v, B4⟩ := b_Measure_init_3 T
  obtain ⟨_, B5v, B5⟩ := b_l_take_2 T
  obtain ⟨_, B6v, B6⟩ := b_l_refused_1 T
  obtain ⟨_, B7v, B7⟩ := b_l_bent_2 T
  refine T.f_law.ok sc_law (fun vs H Q E h => ?_) (fun cdv A outer s H vs Q E hr h => ?_)
  · obtain ⟨a, ns, rfl, hS, hlen, kk⟩ := h; rfl
  · obtain ⟨a, ns, rfl, hS, hlen, kk⟩ := h
    refine ⟨_, PSs.nox (pss_cons (ps_for PassesOwn.never rfl (pi_tup (pe_tup (pa_cons (pe_op op_mulS pe_str pe_int) (pa_cons (pe_op op_mulS pe_str pe_int) (pa_cons (pe_op op_add_str (pe_op op_mulS pe_str pe_int) pe_str) (pa_cons (pe_op op_add_str pe_str (pe_op op_mulS pe_str pe_int)) pa_nil)))))) (pg_name (i := 1) sc_law.nd rfl (Or.inl rfl))
      (pss_cons (ps_set (i := 2) sc_law.nd rfl (Or.inl rfl) (pe_lst (pa_cons (pv 1) (pa_cons (pe_op op_add_str pe_str (pv 1)) (pa_cons (pe_op op_add_str (pv 1) pe_str) (pa_cons (pe_op op_add_str pe_str (pv 1)) (pa_cons (pe_op op_add_str (pv 1) pe_str) (pa_cons (pe_op op_add_str pe_str (pv 1)) pa_nil))))))))
      (pss_one (ps_if (pt_not (pt_val (pe_callB (id := "all") (allK (K := K)) (by rfl) T.z_all (by decide +kernel) (pa_cons (pe_lc (own := [("_law_line", 6)]) (g := gName 6) rfl sc_law.nd (pi_list (pv 2)) (blkOk_by (own := [("_law_line", 6)]) (N := N_law) (sc := defScope s_law) (by decide +kernel)) (fun _ _ _ _ _ => (pg_name (i := 6) sc_law.nd rfl (Or.inl rfl))) (fun _ _ _ _ _ => pts_nil) (fun _ _ _ _ _ => (pe_call (ok_l_right T) (hr.mono (by decide)) rfl T.g_l_right T.f_l_right.kp B0 B0v pass0 (pa_cons (pv 6) pa_nil)))) pa_nil))))
      (pss_one (ps_ret pe_bl))
      pss_nil))))
      (pss_cons (ps_for PassesOwn.never rfl (pi_range1 rfl T.z_range (pa_cons (pe_op op_add pe_int (pe_callB (id := "min") (call_min2 rfl) (by rfl) T.z_min (by decide +kernel) (pa_cons pe_int (pa_cons (pe_callB (id := "len") (lenS (K := K)) (by rfl) T.z_len PySem.boot_len (pa_cons (pv 0) pa_nil)) pa_nil)))) pa_nil)) (pg_name (i := 3) sc_law.nd rfl (Or.inl rfl))
      (pss_cons (ps_set (i := 4) sc_law.nd rfl (Or.inl rfl) (pe_call (ok_l_hand_of T) (hr.mono (by decide)) rfl T.g_l_hand_of T.f_l_hand_of.kp B1 B1v pass0 (pa_cons (pv 0) (pa_cons (pv 3) pa_nil))))
      (pss_cons (ps_par (i := 5) (j := 6) rfl sc_law.nd rfl rfl (by decide) rfl rfl (pa_cons (pe_call (ok_l_any_thing T) (hr.mono (by decide)) rfl T.g_l_any_thing T.f_l_any_thing.kp B3 B3v pass0 (pa_cons (pv 4) pa_nil)) (pa_cons (pe_call (ok_l_text_of T) (hr.mono (by decide)) rfl T.g_l_text_of T.f_l_text_of.kp B2 B2v pass0 (pa_cons (pv 4) pa_nil)) pa_nil)) (by rfl))
      (pss_cons (ps_set (i := 5) sc_law.nd rfl (Or.inl rfl) (pe_ix (ixl (K := K)) (pe_lst (pa_cons (pv 5) (pa_cons (pe_make T.mk_Measure (ok_Measure_init T) (hr.mono (by decide)) rfl T.g_Measure B4 B4v pass0 (pa_cons pe_int (pa_cons pe_int pa_nil))) (pa_cons pe_int (pa_cons (pe_tup (pa_cons (pv 6) pa_nil)) (pa_cons (pe_lst (pa_cons (pv 6) pa_nil)) pa_nil)))))) (pe_call (ok_l_take T) (hr.mono (by decide)) rfl T.g_l_take T.f_l_take.kp B5 B5v pass0 (pa_cons (pv 4) (pa_cons pe_int pa_nil))) (fun _ _ => rfl)))
      (pss_cons (ps_if (PW.pt (pw_or (pt_not (pt_val (pe_call (ok_l_right T) (hr.mono (by decide)) rfl T.g_l_right T.f_l_right.kp B0 B0v pass0 (pa_cons (pv 6) pa_nil)))) (pw_or1 (pt_not (pt_val (pe_call (ok_l_refused T) (hr.mono (by decide)) rfl T.g_l_refused T.f_l_refused.kp B6 B6v pass0 (pa_cons (pv 5) pa_nil)))))))
      (pss_one (ps_ret pe_bl))
      pss_nil)
      (pss_one (ps_for PassesOwn.never rfl (pi_range1 rfl T.z_range (pa_cons pe_int pa_nil)) (pg_name (i := 7) sc_law.nd rfl (Or.inl rfl))
      (pss_cons (ps_set (i := 8) sc_law.nd rfl (Or.inl rfl) (pe_call (ok_l_bent T) (hr.mono (by decide)) rfl T.g_l_bent T.f_l_bent.kp B7 B7v pass0 (pa_cons (pv 4) (pa_cons (pv 6) pa_nil))))
      (pss_one (ps_if (PW.pt (pw_or (pt_not (pt_val (pe_call (ok_l_right T) (hr.mono (by decide)) rfl T.g_l_right T.f_l_right.kp B0 B0v pass0 (pa_cons (pv 8) pa_nil)))) (pw_or1 (pt_not (pt_val (pe_call (ok_l_right T) (hr.mono (by decide)) rfl T.g_l_right T.f_l_right.kp B0 B0v pass0 (pa_cons (pe_call (ok_l_bent T) (hr.mono (by decide)) rfl T.g_l_bent T.f_l_bent.kp B7 B7v pass0 (pa_cons (pv 4) (pa_cons (pv 8) pa_nil))) pa_nil)))))))
      (pss_one (ps_ret pe_bl))
      pss_nil))))))))))
      (pss_one (ps_ret pe_bl)))), ?_⟩
    have r1 : (St8 (List.replicate 4301 55)).length = 4301 := by rw [SX.S_len, List.length_replicate]
    have r2 : (St8 (List.replicate 4301 48)).length = 4301 := by rw [SX.S_len, List.length_replicate]
    have r3 : (St8 (List.replicate 5000 48)).length = 5000 := by rw [SX.S_len, List.length_replicate]
    have c7 : (Str.ofString "7").length = 1 := by decide +kernel
    have c1 : (Str.ofString "1").length = 1 := by decide +kernel
    refine ⟨55, 4301, (congrArg V.str (by decide +kernel : Str.ofString "7" = St8 [55])), rfl, by decide, 48, 4301, (congrArg V.str (by decide +kernel : Str.ofString "0" = St8 [48])), rfl, by decide, 48, 4301, (congrArg V.str (by decide +kernel : Str.ofString "0" = St8 [48])), rfl, by decide, _, _, rfl, rfl, (by rw [sizeLine_eq]; (try simp only [Str.length_append]); omega), 48, 5000, (congrArg V.str (by decide +kernel : Str.ofString "0" = St8 [48])), rfl, by decide, _, _, rfl, rfl, (by rw [sizeLine_eq]; (try simp only [Str.length_append]); omega), by show 4 ≤ sizeLine; decide, fun t0 nt0 => ?_⟩
    generalize hX : ([V.str (St8 (List.replicate 4301 55)), V.str (St8 (List.replicate 4301 48)), V.str (St8 (List.replicate 4301 48) ++ Str.ofString "7"), V.str (Str.ofString "1" ++ St8 (List.replicate 5000 48))] : List V) = xs0
    have px : ∀ x ∈ xs0, ∃ y : Str, x = .str y ∧ y.length ≤ 6000 := by
      rw [← hX]
      intro x hx
      simp only [List.mem_cons, List.not_mem_nil, or_false] at hx
      rcases hx with rfl | rfl | rfl | rfl
      · exact ⟨_, rfl, by omega⟩
      · exact ⟨_, rfl, by omega⟩
      · exact ⟨_, rfl, by rw [Str.length_append]; omega⟩
      · exact ⟨_, rfl, by rw [Str.length_append]; omega⟩
    clear hX
    have O0 : Old H (upd H t0 (.tup xs0)) := (Old.refl H).up nt0
    have ht0 : (upd H t0 (.tup xs0)) t0 = some (.tup xs0) := upd_same
    generalize upd H t0 (.tup xs0) = H0 at O0 ht0
    refine ⟨t0, rfl, ⟨_, SqT.of ht0⟩, for_tup (K := K) (a := t0) (xs := xs0) (fun i σ H' => ∃ w1 w2 : Option V, σ = [some (.ref a), w1, w2, none, none, none, none, none, none] ∧ Same H0 H') ⟨none, none, rfl, Same.refl _⟩ (fun j σ H' _ ⟨_, _, _, s⟩ => s.sqt (SqT.of ht0)) ?_ ?_⟩
    · rintro i x σ H1 hx ⟨w1, w2, rfl, s1⟩
      obtain ⟨y, rfl, ly⟩ := px x (List.mem_of_getElem? hx)
      have d1 : (Str.ofString "-").length = 1 := by decide +kernel
      have d2 : (Str.ofString "/7").length = 2 := by decide +kernel
      have d3 : (Str.ofString "1/").length = 2 := by decide +kernel
      have d4 : (Str.ofString " 1/2").length = 4 := by decide +kernel
      have d5 : (Str.ofString "3 1/").length = 4 := by decide +kernel
      refine ⟨_, rfl, _, rfl, _, _, rfl, rfl, (by rw [sizeLine_eq]; (try simp only [Str.length_append]); omega), _, rfl, _, _, rfl, rfl, (by rw [sizeLine_eq]; (try simp only [Str.length_append]); omega), _, rfl, _, _, rfl, rfl, (by rw [sizeLine_eq]; (try simp only [Str.length_append]); omega), _, rfl, _, _, rfl, rfl, (by rw [sizeLine_eq]; (try simp only [Str.length_append]); omega), _, rfl, _, _, rfl, rfl, (by rw [sizeLine_eq]; (try simp only [Str.length_append]); omega), by show 6 ≤ sizeLine; decide, fun l nl => ?_⟩
      generalize hX : ([V.str y, V.str (Str.ofString "-" ++ y), V.str (y ++ Str.ofString "/7"), V.str (Str.ofString "1/" ++ y), V.str (y ++ Str.ofString " 1/2"), V.str (Str.ofString "3 1/" ++ y)] : List V) = ys
      have py : ∀ x ∈ ys, ∃ y : Str, x = .str y ∧ y.length ≤ 7000 := by
        rw [← hX]
        intro x hx
        simp only [List.mem_cons, List.not_mem_nil, or_false] at hx
        rcases hx with rfl | rfl | rfl | rfl | rfl | rfl
        · exact ⟨_, rfl, by omega⟩
        all_goals exact ⟨_, rfl, by rw [Str.length_append]; omega⟩
      have ly6 : ys.length = 6 := by rw [← hX]; rfl
      clear hX
      refine ⟨_, rfl, l, rfl, ⟨_, SqL.of upd_same⟩, fun D nD => ?_⟩
      refine lcs (xs := ys) ((List.replicate 6 true).map V.bl) (by rw [ly6]; rfl) (by show 6 < sizeLine; decide) (SqL.of upd_same) nD (fun j x z H4 N M hx hy s4 hN => ?_) (fun H4 s4 hD => ?_)
      · have hy2 : z = .bl true := by
          have := List.mem_of_getElem? hy
          simp at this
          exact this
        subst hy2
        obtain ⟨q, rfl, lq⟩ := py x (List.mem_of_getElem? hx)
        have eq : q = St8 (TL.tl q) := (SX.S_tl q).symm
        refine ⟨rfl, yesT ⟨_, rfl, TL.tl q, (by rw [← eq]; rfl), (by rw [← TL.len_tl]; omega), fun H' s' => hN _ s'⟩⟩
      refine ⟨D, List.replicate 6 true, rfl, SqL.of hD, _, rfl, iteF ?_⟩
      exact ⟨_, _, rfl, (s1.up nl).trans s4⟩
    rintro σ H1 ⟨w1, w2, rfl, s1⟩
    have O1 := O0.then s1
    refine ⟨_, rfl, a, _, rfl, .inl (O1.s.seq hS), _, _, rfl, _, _, rfl, rfl, _, rfl, ?_, ?_, for_range (fun i σ H' => ∃ v1 v2 v3 v4 v5 v6 v7 v8 : Option V, σ = [some (.ref a), v1, v2, v3, v4, v5, v6, v7, v8] ∧ Old H H') ⟨_, _, _, _, _, _, _, _, rfl, O1⟩ ?_ ?_⟩
    · split <;> omega
    · split <;> omega
    · rintro i σ H2 hi ⟨v1, v2, v3, v4, v5, v6, v7, v8, rfl, o2⟩
      rw [Int.zero_add]
      have hi2 : i ≤ 1000 := by
        split at hi <;> omega
      refine ⟨_, rfl, _, rfl, a, ns, i, rfl, o2.s.seq hS, hi2, fun h H3 nh s3 hh3 => ?_⟩
      have nH : H h = none := o2.s.free nh
      have O3 : Old H H3 := o2.then s3
      refine ⟨_, rfl, h, 0, rfl, hh3, by decide, fun tv H4 th ns4 hh4 k4 => ?_⟩
      refine ⟨_, rfl, h, _, rfl, hh4, by decide, fun z H5 lz hh5 k5 => ⟨_, _, rfl, ?_⟩⟩
      have O5 := (O3.kp nH k4).kp nH k5
      have th5 := th.kp hh4 k5
      -- the thing
      refine ⟨_, rfl, fun x dx nx nd ne => ⟨x, dx, _, _, rfl, upd_same, by decide, by decide +kernel, fun t u H6 fr hx kp => ⟨rfl, ?_⟩⟩⟩
      have s6 := made_same nx nd kp
      refine ⟨_, rfl, by show 1 ≤ sizeLine; decide, fun p1 n1 => ⟨_, rfl, by show 1 ≤ sizeLine; decide, fun p2 n2 => ⟨by show 5 ≤ sizeLine; decide, fun p3 n3 => ?_⟩⟩⟩
      have hh6 := hh5.same s6
      have h1h := hh6.ne n1
      have h2h := (hh6.up (u := .tup [.str z]) n1).ne n2
      have hh9 := ((hh6.up (u := .tup [.str z]) n1).up (u := .lst [.str z]) n2).up (u := .lst [tv, .ref x, .int 5, .ref p1, .ref p2]) n3
      have h3h := ((hh6.up (u := .tup [.str z]) n1).up (u := .lst [.str z]) n2).ne n3
      have s69 := ((same1 n1 : Same H6 _).up (u := .lst [.str z]) n2).up (u := .lst [tv, .ref x, .int 5, .ref p1, .ref p2]) n3
      refine ⟨_, rfl, h, _, _, rfl, hh9, by decide, by decide, by decide +kernel, fun d H7 d0 d1 hh7 k7 => ?_⟩
      have hl : H7 p3 = some (.lst [tv, .ref x, .int 5, .ref p1, .ref p2]) := k7 _ _ upd_same h3h
      have O7 := ((O5.then s6).then s69).kp nH k7
      have hw : ∃ v, atI [tv, .ref x, .int 5, .ref p1, .ref p2] d = some v ∧ NoStr (He.ga K "Measure") H7 v := by
        obtain rfl | rfl | rfl | rfl | rfl : d = 0 ∨ d = 1 ∨ d = 2 ∨ d = 3 ∨ d = 4 := by omega
        · exact ⟨_, rfl, .inl ⟨⟨h, ((th5.same s6).same s69).kp hh9 k7⟩, ns4⟩⟩
        · exact ⟨_, rfl, .inr ⟨x, t, u, rfl, (MAt.same ⟨dx, hx⟩ s69).kp hh9 k7⟩⟩
        · exact ⟨_, rfl, .inl ⟨⟨h, .inr (.inr (.inl ⟨5, rfl⟩))⟩, (fun _ q => nomatch q)⟩⟩
        · exact ⟨_, rfl, .inl ⟨⟨h, .of_tup (k7 _ _ (up1 n3 (up1 n2 upd_same)) h1h)⟩, (fun _ q => nomatch q)⟩⟩
        · exact ⟨_, rfl, .inl ⟨⟨h, .of_lst h2h (k7 _ _ (up1 n3 upd_same) h2h)⟩, (fun _ q => nomatch q)⟩⟩
      obtain ⟨v, hat, nv⟩ := hw
      refine ⟨p3, _, _, _, rfl, rfl, SqL.of hl, hat, ?_⟩
      have ez : z = St8 (TL.tl z) := (SX.S_tl z).symm
      refine ⟨_, rfl, TL.tl z, (by rw [← ez]; rfl), (by rw [← TL.len_tl]; omega), fun H8 s8 => ⟨_, rfl, iteF ?_⟩⟩
      have nv8 : NoStr (He.ga K "Measure") H8 v := by
        rcases nv with ⟨⟨hd, t⟩, n⟩ | ⟨p, t, u, e, m⟩
        · exact .inl ⟨⟨hd, t.same s8⟩, n⟩
        · exact .inr ⟨p, t, u, e, m.same s8⟩
      refine ⟨_, rfl, v, rfl, nv8, _, rfl, iteF ?_⟩
      have O8 := O7.then s8
      have hh8 : HandAt H8 h 20 := (hh7.same s8).mono (by omega)
      refine ⟨_, rfl, by decide, by decide, for_range (fun j σ H' => ∃ w1 w2 : Option V, σ = [some (.ref a), v1, v2, some (.int i), some (.ref h), some v, some (.str z), w1, w2] ∧ Old H H' ∧ HandAt H' h (20 + 10 * j)) ⟨_, _, rfl, O8, hh8⟩ ?_ ?_⟩
      · rintro j σ G1 hj ⟨w1, w2, rfl, og1, hg1⟩
        have hj : j < 8 := hj
        refine ⟨_, rfl, _, rfl, h, _, z, rfl, by omega, hg1, by omega, fun z1 G2 lz1 hg2 kg2 => ?_⟩
        have e1 : z1 = St8 (TL.tl z1) := (SX.S_tl z1).symm
        refine ⟨_, rfl, TL.tl z1, (by rw [← e1]; rfl), (by rw [← TL.len_tl]; omega), fun G3 sg3 => ⟨_, rfl, iteF ?_⟩⟩
        refine ⟨_, rfl, _, rfl, h, _, z1, rfl, by omega, hg2.same sg3, by omega, fun z2 G4 lz2 hg4 kg4 => ?_⟩
        have e2 : z2 = St8 (TL.tl z2) := (SX.S_tl z2).symm
        refine ⟨TL.tl z2, (by rw [← e2]; rfl), (by rw [← TL.len_tl]; omega), fun G5 sg5 => ⟨_, rfl, iteF ?_⟩⟩
        exact ⟨_, _, rfl, (((og1.kp nH kg2).then sg3).kp nH kg4).then sg5, (hg4.same sg5).mono (by omega)⟩
      · rintro σ G1 ⟨w1, w2, rfl, og1, hg1⟩
        exact ⟨_, _, _, _, _, _, _, _, rfl, og1⟩
    · rintro σ H2 ⟨v1, v2, v3, v4, v5, v6, v7, v8, rfl, o2⟩
      exact kk _
end K05

namespace K05
open PySem PySem.Spec PyProof.Rows L2 My
/-! ### the head -/
def h_is_whole : He.DefD := ⟨("is_whole", none), "is_whole", "is_whole", defArgs s_is_whole, defBody s_is_whole, defScope s_is_whole, [], []⟩
def h_common_part : He.DefD := ⟨("common_part", none), "common_part", "common_part", defArgs s_common_part, defBody s_common_part, defScope s_common_part, [], []⟩
def h_written : He.DefD := ⟨("written", none), "written", "written", defArgs s_written, defBody s_written, defScope s_written, [], []⟩
def h_Measure_init : He.DefD := ⟨("Measure", some "__init__"), "__init__", "Measure.__init__", defArgs s_Measure_init, defBody s_Measure_init, defScope s_Measure_init, [.int 1], []⟩
def h_Measure_str : He.DefD := ⟨("Measure", some "__str__"), "__str__", "Measure.__str__", defArgs s_Measure_str, defBody s_Measure_str, defScope s_Measure_str, [], []⟩
def h_Measure_times : He.DefD := ⟨("Measure", some "times"), "times", "Measure.times", defArgs s_Measure_times, defBody s_Measure_times, defScope s_Measure_times, [], []⟩
def h_number_words : He.DefD := ⟨("number_words", none), "number_words", "number_words", defArgs s_number_words, defBody s_number_words, defScope s_number_words, [], []⟩
def h_is_number_word : He.DefD := ⟨("is_number_word", none), "is_number_word", "is_number_word", defArgs s_is_number_word, defBody s_is_number_word, defScope s_is_number_word, [], []⟩
def h_loosely_read : He.DefD := ⟨("loosely_read", none), "loosely_read", "loosely_read", defArgs s_loosely_read, defBody s_loosely_read, defScope s_loosely_read, [], []⟩
def h_measure_in : He.DefD := ⟨("measure_in", none), "measure_in", "measure_in", defArgs s_measure_in, defBody s_measure_in, defScope s_measure_in, [], []⟩
def h_read_measure : He.DefD := ⟨("read_measure", none), "read_measure", "read_measure", defArgs s_read_measure, defBody s_read_measure, defScope s_read_measure, [], []⟩
def h_l_hand_of : He.DefD := ⟨("_law_hand_of", none), "_law_hand_of", "_law_hand_of", defArgs s_l_hand_of, defBody s_l_hand_of, defScope s_l_hand_of, [], []⟩
def h_l_take : He.DefD := ⟨("_law_take", none), "_law_take", "_law_take", defArgs s_l_take, defBody s_l_take, defScope s_l_take, [], []⟩
def h_l_common : He.DefD := ⟨("_law_common", none), "_law_common", "_law_common", defArgs s_l_common, defBody s_l_common, defScope s_l_common, [], []⟩
def h_l_is : He.DefD := ⟨("_law_is", none), "_law_is", "_law_is", defArgs s_l_is, defBody s_l_is, defScope s_l_is, [], []⟩
def h_l_nest : He.DefD := ⟨("_law_nest", none), "_law_nest", "_law_nest", defArgs s_l_nest, defBody s_l_nest, defScope s_l_nest, [], []⟩
def h_l_any_thing : He.DefD := ⟨("_law_any_thing", none), "_law_any_thing", "_law_any_thing", defArgs s_l_any_thing, defBody s_l_any_thing, defScope s_l_any_thing, [], []⟩
def h_l_figures : He.DefD := ⟨("_law_figures", none), "_law_figures", "_law_figures", defArgs s_l_figures, defBody s_l_figures, defScope s_l_figures, [], []⟩
def h_l_read : He.DefD := ⟨("_law_read", none), "_law_read", "_law_read", defArgs s_l_read, defBody s_l_read, defScope s_l_read, [], []⟩
def h_l_number_of : He.DefD := ⟨("_law_number_of", none), "_law_number_of", "_law_number_of", defArgs s_l_number_of, defBody s_l_number_of, defScope s_l_number_of, [], []⟩
def h_l_text_of : He.DefD := ⟨("_law_text_of", none), "_law_text_of", "_law_text_of", defArgs s_l_text_of, defBody s_l_text_of, defScope s_l_text_of, [], []⟩
def h_l_bent : He.DefD := ⟨("_law_bent", none), "_law_bent", "_law_bent", defArgs s_l_bent, defBody s_l_bent, defScope s_l_bent, [], []⟩
def h_l_right : He.DefD := ⟨("_law_right", none), "_law_right", "_law_right", defArgs s_l_right, defBody s_l_right, defScope s_l_right, [], []⟩
def h_l_refused : He.DefD := ⟨("_law_refused", none), "_law_refused", "_law_refused", defArgs s_l_refused, defBody s_l_refused, defScope s_l_refused, [], []⟩
def h_law : He.DefD := ⟨("law", none), "law", "law", defArgs s_law, defBody s_law, defScope s_law, [], []⟩
def fn : List He.DefD := [h_is_whole, h_common_part, h_written, h_Measure_init, h_Measure_str, h_Measure_times, h_number_words, h_is_number_word, h_loosely_read, h_measure_in, h_read_measure, h_l_hand_of, h_l_take, h_l_common, h_l_is, h_l_nest, h_l_any_thing, h_l_figures, h_l_read, h_l_number_of, h_l_text_of, h_l_bent, h_l_right, h_l_refused, h_law]
def fa : List He.Fa := [.glo "is_whole", .glo "common_part", .glo "written", .glo "number_words", .glo "is_number_word", .glo "loosely_read", .glo "measure_in", .glo "read_measure", .glo "_law_hand_of", .glo "_law_take", .glo "_law_common", .glo "_law_is", .glo "_law_nest", .glo "_law_any_thing", .glo "_law_figures", .glo "_law_read", .glo "_law_number_of", .glo "_law_text_of", .glo "_law_bent", .glo "_law_right", .glo "_law_refused", .glo "law", .glo "Measure", .glo "LadderError", .glo "NoMeasure", .glo "NoStretch", .glo "NoLadder", .glo "NoLine", .glo "Slip", .glo "NoText", .str "FIGURES" "0123456789", .int "MOST_FIGURES" 12, .free "ValueError", .free "abs", .free "all", .free "bool", .free "divmod", .free "int", .free "isinstance", .free "len", .free "min", .free "range", .free "str", .cls "Measure", .noat "Measure" "top", .noat "Measure" "bottom", .meth "Measure" "__str__", .meth "Measure" "times", .mkr "Measure"]
abbrev R : PySem.W.OpenRow := PySem.W.OpenLaw.row PySem.Challenge.rw_sizeladders_k05_measures_read
def ex : List (PySem.W.Frag → Bool) := [isCB "Measure", eqCB "Measure", excCB "NoMeasure", excFB "NoMeasure" [.type "ValueError", .type "Exception", .type "BaseException", .type "object"] "ValueError.__new__", exmB "NoMeasure" "LadderError" true, exmB "NoMeasure" "NoMeasure" true, kitF (.inl "Measure") (.inl "Measure") true, kitF (.inl "Measure") (.inr "str") false, kitF (.inl "NoMeasure") (.inl "NoStretch") false, kitF (.inl "NoMeasure") (.inl "NoLadder") false, kitF (.inl "NoMeasure") (.inl "NoLine") false, kitF (.inl "NoMeasure") (.inl "Slip") false, kitF (.inl "NoMeasure") (.inl "NoText") false, kitF (.inl "NoMeasure") (.inl "NoMeasure") true, kitF (.inl "NoMeasure") (.inr "ValueError") true]
abbrev hk : PySem.W.Hook := hookM 5 fa fn ex
def ob (s : PySem.W.SharedT) : He.AlD × Bool := obsM 5 fa fn ex (HandSHeadRun.getT s)
theorem ob_eq (s : PySem.W.SharedT) : ob s = hk.obs s.abs := obsM_eq (HandSHeadRun.getT_eq s)
theorem run (w : World) : HandSHeadRun.RunEq R (PySem.W.view R.prog [37]) hk ob 20000 [("_wall" : PySem.Str), ("LadderError" : PySem.Str), ("NoMeasure" : PySem.Str), ("NoStretch" : PySem.Str), ("NoLadder" : PySem.Str), ("NoLine" : PySem.Str), ("Slip" : PySem.Str), ("NoText" : PySem.Str), ("NoBottom" : PySem.Str), ("is_whole" : PySem.Str), ("FIGURES" : PySem.Str), ("MOST_FIGURES" : PySem.Str), ("common_part" : PySem.Str), ("written" : PySem.Str), ("Measure" : PySem.Str), ("number_words" : PySem.Str), ("is_number_word" : PySem.Str), ("loosely_read" : PySem.Str), ("measure_in" : PySem.Str), ("read_measure" : PySem.Str), ("_law_hand_of" : PySem.Str), ("_law_take" : PySem.Str), ("_law_common" : PySem.Str), ("_law_is" : PySem.Str), ("_law_nest" : PySem.Str), ("_law_any_thing" : PySem.Str), ("_law_figures" : PySem.Str), ("_law_read" : PySem.Str), ("_law_number_of" : PySem.Str), ("_law_text_of" : PySem.Str), ("_law_bent" : PySem.Str), ("_law_right" : PySem.Str), ("_law_refused" : PySem.Str)] w := by
  intro os
  kernel_rfl
theorem facts {K : PySem.W.Frag} {h : Heap} {mg : Str → Option Value} (X : K.In h) (G : h.Ns mainGlobals mg) (c : He.SaysD fa fn K) (cx : (ex.all fun f => f K) = true) : ∃ φ : Fds, Txt K mg φ := by
  obtain ⟨d0, F0⟩ := c.def_ 0 (d := h_is_whole) rfl
  obtain ⟨d1, F1⟩ := c.def_ 1 (d := h_common_part) rfl
  obtain ⟨d2, F2⟩ := c.def_ 2 (d := h_written) rfl
  obtain ⟨d3, F3⟩ := c.def_ 3 (d := h_Measure_init) rfl
  obtain ⟨d4, F4⟩ := c.def_ 4 (d := h_Measure_str) rfl
  obtain ⟨d5, F5⟩ := c.def_ 5 (d := h_Measure_times) rfl
  obtain ⟨d6, F6⟩ := c.def_ 6 (d := h_number_words) rfl
  obtain ⟨d7, F7⟩ := c.def_ 7 (d := h_is_number_word) rfl
  obtain ⟨d8, F8⟩ := c.def_ 8 (d := h_loosely_read) rfl
  obtain ⟨d9, F9⟩ := c.def_ 9 (d := h_measure_in) rfl
  obtain ⟨d10, F10⟩ := c.def_ 10 (d := h_read_measure) rfl
  obtain ⟨d11, F11⟩ := c.def_ 11 (d := h_l_hand_of) rfl
  obtain ⟨d12, F12⟩ := c.def_ 12 (d := h_l_take) rfl
  obtain ⟨d13, F13⟩ := c.def_ 13 (d := h_l_common) rfl
  obtain ⟨d14, F14⟩ := c.def_ 14 (d := h_l_is) rfl
  obtain ⟨d15, F15⟩ := c.def_ 15 (d := h_l_nest) rfl
  obtain ⟨d16, F16⟩ := c.def_ 16 (d := h_l_any_thing) rfl
  obtain ⟨d17, F17⟩ := c.def_ 17 (d := h_l_figures) rfl
  obtain ⟨d18, F18⟩ := c.def_ 18 (d := h_l_read) rfl
  obtain ⟨d19, F19⟩ := c.def_ 19 (d := h_l_number_of) rfl
  obtain ⟨d20, F20⟩ := c.def_ 20 (d := h_l_text_of) rfl
  obtain ⟨d21, F21⟩ := c.def_ 21 (d := h_l_bent) rfl
  obtain ⟨d22, F22⟩ := c.def_ 22 (d := h_l_right) rfl
  obtain ⟨d23, F23⟩ := c.def_ 23 (d := h_l_refused) rfl
  obtain ⟨d24, F24⟩ := c.def_ 24 (d := h_law) rfl
  refine ⟨⟨d0, d1, d2, d3, d4, d5, d6, d7, d8, d9, d10, d11, d12, d13, d14, d15, d16, d17, d18, d19, d20, d21, d22, d23, d24⟩, ?_⟩
  exact {
    g_is_whole := He.glo_ok X G (c.fact 0 (f := .glo "is_whole") rfl),
    g_common_part := He.glo_ok X G (c.fact 1 (f := .glo "common_part") rfl),
    g_written := He.glo_ok X G (c.fact 2 (f := .glo "written") rfl),
    g_number_words := He.glo_ok X G (c.fact 3 (f := .glo "number_words") rfl),
    g_is_number_word := He.glo_ok X G (c.fact 4 (f := .glo "is_number_word") rfl),
    g_loosely_read := He.glo_ok X G (c.fact 5 (f := .glo "loosely_read") rfl),
    g_measure_in := He.glo_ok X G (c.fact 6 (f := .glo "measure_in") rfl),
    g_read_measure := He.glo_ok X G (c.fact 7 (f := .glo "read_measure") rfl),
    g_l_hand_of := He.glo_ok X G (c.fact 8 (f := .glo "_law_hand_of") rfl),
    g_l_take := He.glo_ok X G (c.fact 9 (f := .glo "_law_take") rfl),
    g_l_common := He.glo_ok X G (c.fact 10 (f := .glo "_law_common") rfl),
    g_l_is := He.glo_ok X G (c.fact 11 (f := .glo "_law_is") rfl),
    g_l_nest := He.glo_ok X G (c.fact 12 (f := .glo "_law_nest") rfl),
    g_l_any_thing := He.glo_ok X G (c.fact 13 (f := .glo "_law_any_thing") rfl),
    g_l_figures := He.glo_ok X G (c.fact 14 (f := .glo "_law_figures") rfl),
    g_l_read := He.glo_ok X G (c.fact 15 (f := .glo "_law_read") rfl),
    g_l_number_of := He.glo_ok X G (c.fact 16 (f := .glo "_law_number_of") rfl),
    g_l_text_of := He.glo_ok X G (c.fact 17 (f := .glo "_law_text_of") rfl),
    g_l_bent := He.glo_ok X G (c.fact 18 (f := .glo "_law_bent") rfl),
    g_l_right := He.glo_ok X G (c.fact 19 (f := .glo "_law_right") rfl),
    g_l_refused := He.glo_ok X G (c.fact 20 (f := .glo "_law_refused") rfl),
    g_law := He.glo_ok X G (c.fact 21 (f := .glo "law") rfl),
    g_Measure := He.glo_ok X G (c.fact 22 (f := .glo "Measure") rfl),
    g_LadderError := He.glo_ok X G (c.fact 23 (f := .glo "LadderError") rfl),
    g_NoMeasure := He.glo_ok X G (c.fact 24 (f := .glo "NoMeasure") rfl),
    g_NoStretch := He.glo_ok X G (c.fact 25 (f := .glo "NoStretch") rfl),
    g_NoLadder := He.glo_ok X G (c.fact 26 (f := .glo "NoLadder") rfl),
    g_NoLine := He.glo_ok X G (c.fact 27 (f := .glo "NoLine") rfl),
    g_Slip := He.glo_ok X G (c.fact 28 (f := .glo "Slip") rfl),
    g_NoText := He.glo_ok X G (c.fact 29 (f := .glo "NoText") rfl),
    v_FIGURES := He.str_ok X G (c.fact 30 (f := .str "FIGURES" "0123456789") rfl),
    v_MOST_FIGURES := He.int_ok X G (c.fact 31 (f := .int "MOST_FIGURES" 12) rfl),
    z_ValueError := He.free_ok X G (c.fact 32 (f := .free "ValueError") rfl),
    z_abs := He.free_ok X G (c.fact 33 (f := .free "abs") rfl),
    z_all := He.free_ok X G (c.fact 34 (f := .free "all") rfl),
    z_bool := He.free_ok X G (c.fact 35 (f := .free "bool") rfl),
    z_divmod := He.free_ok X G (c.fact 36 (f := .free "divmod") rfl),
    z_int := He.free_ok X G (c.fact 37 (f := .free "int") rfl),
    z_isinstance := He.free_ok X G (c.fact 38 (f := .free "isinstance") rfl),
    z_len := He.free_ok X G (c.fact 39 (f := .free "len") rfl),
    z_min := He.free_ok X G (c.fact 40 (f := .free "min") rfl),
    z_range := He.free_ok X G (c.fact 41 (f := .free "range") rfl),
    z_str := He.free_ok X G (c.fact 42 (f := .free "str") rfl),
    cl_Measure := He.cls_ok (c.fact 43 (f := .cls "Measure") rfl),
    na_Measure_top := He.noat_ok (c.fact 44 (f := .noat "Measure" "top") rfl),
    na_Measure_bottom := He.noat_ok (c.fact 45 (f := .noat "Measure" "bottom") rfl),
    me_Measure_str := He.meth_ok (c.fact 46 (f := .meth "Measure" "__str__") rfl),
    me_Measure_times := He.meth_ok (c.fact 47 (f := .meth "Measure" "times") rfl),
    mk_Measure := He.mkr_ok (c.fact 48 (f := .mkr "Measure") rfl),
    ii_Measure := isC_ok (ex_at cx 0 (f := isCB "Measure") rfl),
    ec_Measure := eqC_ok (ex_at cx 1 (f := eqCB "Measure") rfl),
    xc_NoMeasure := excC_ok (ex_at cx 2 (f := excCB "NoMeasure") rfl),
    xf_NoMeasure := excF_ok (ex_at cx 3 (f := excFB "NoMeasure" [.type "ValueError", .type "Exception", .type "BaseException", .type "object"] "ValueError.__new__") rfl),
    xm_NoMeasure_LadderError := My.exm_ok (ex_at cx 4 (f := exmB "NoMeasure" "LadderError" true) rfl),
    xm_NoMeasure_NoMeasure := My.exm_ok (ex_at cx 5 (f := exmB "NoMeasure" "NoMeasure" true) rfl),
    k_Measure_Measure := kitF_ok (ex_at cx 6 (f := kitF (.inl "Measure") (.inl "Measure") true) rfl),
    k_Measure_str := kitF_ok (ex_at cx 7 (f := kitF (.inl "Measure") (.inr "str") false) rfl),
    k_NoMeasure_NoStretch := kitF_ok (ex_at cx 8 (f := kitF (.inl "NoMeasure") (.inl "NoStretch") false) rfl),
    k_NoMeasure_NoLadder := kitF_ok (ex_at cx 9 (f := kitF (.inl "NoMeasure") (.inl "NoLadder") false) rfl),
    k_NoMeasure_NoLine := kitF_ok (ex_at cx 10 (f := kitF (.inl "NoMeasure") (.inl "NoLine") false) rfl),
    k_NoMeasure_Slip := kitF_ok (ex_at cx 11 (f := kitF (.inl "NoMeasure") (.inl "Slip") false) rfl),
    k_NoMeasure_NoText := kitF_ok (ex_at cx 12 (f := kitF (.inl "NoMeasure") (.inl "NoText") false) rfl),
    k_NoMeasure_NoMeasure := kitF_ok (ex_at cx 13 (f := kitF (.inl "NoMeasure") (.inl "NoMeasure") true) rfl),
    k_NoMeasure_ValueError := kitF_ok (ex_at cx 14 (f := kitF (.inl "NoMeasure") (.inr "ValueError") true) rfl),
    f_is_whole := F0,
    f_common_part := F1,
    f_written := F2,
    f_Measure_init := F3,
    f_Measure_str := F4,
    f_Measure_times := F5,
    f_number_words := F6,
    f_is_number_word := F7,
    f_loosely_read := F8,
    f_measure_in := F9,
    f_read_measure := F10,
    f_l_hand_of := F11,
    f_l_take := F12,
    f_l_common := F13,
    f_l_is := F14,
    f_l_nest := F15,
    f_l_any_thing := F16,
    f_l_figures := F17,
    f_l_read := F18,
    f_l_number_of := F19,
    f_l_text_of := F20,
    f_l_bent := F21,
    f_l_right := F22,
    f_l_refused := F23,
    f_law := F24 }
end K05
open PySem PySem.W PySem.Calls PyProof.Rows
set_option maxRecDepth 100000 in
set_option maxHeartbeats 0 in
theorem PySem.Challenge.cw_sizeladders_k05_measures_read_holds : PySem.Challenge.rw_sizeladders_k05_measures_read.Holds := by
  w_on; o_law
  refine HandSHeadRun.head_any (r := OpenLaw.row PySem.Challenge.rw_sizeladders_k05_measures_read) (q := view (OpenLaw.row PySem.Challenge.rw_sizeladders_k05_measures_read).prog [37]) (H := K05.hk) (ob := K05.ob) (M := 20000) (loose := [("_wall" : PySem.Str), ("LadderError" : PySem.Str), ("NoMeasure" : PySem.Str), ("NoStretch" : PySem.Str), ("NoLadder" : PySem.Str), ("NoLine" : PySem.Str), ("Slip" : PySem.Str), ("NoText" : PySem.Str), ("NoBottom" : PySem.Str), ("is_whole" : PySem.Str), ("FIGURES" : PySem.Str), ("MOST_FIGURES" : PySem.Str), ("common_part" : PySem.Str), ("written" : PySem.Str), ("Measure" : PySem.Str), ("number_words" : PySem.Str), ("is_number_word" : PySem.Str), ("loosely_read" : PySem.Str), ("measure_in" : PySem.Str), ("read_measure" : PySem.Str), ("_law_hand_of" : PySem.Str), ("_law_take" : PySem.Str), ("_law_common" : PySem.Str), ("_law_is" : PySem.Str), ("_law_nest" : PySem.Str), ("_law_any_thing" : PySem.Str), ("_law_figures" : PySem.Str), ("_law_read" : PySem.Str), ("_law_number_of" : PySem.Str), ("_law_text_of" : PySem.Str), ("_law_bent" : PySem.Str), ("_law_right" : PySem.Str), ("_law_refused" : PySem.Str)]) (d := HandSHeadRun.topDef (OpenLaw.row PySem.Challenge.rw_sizeladders_k05_measures_read).prog 37) (kwd := []) K05.ob_eq
    (by kernel_rfl) (fun s => by kernel_rfl) K05.run (by kernel_rfl) (by kernel_rfl) (by kernel_rfl) (by rfl) (by first | assumption | decide +kernel) (by decide +kernel) ⟨rfl, rfl, rfl, rfl, rfl, by decide +kernel⟩ ?hw ?hc
  case hw => w_witness2
  case hc =>
    refine L2.walk_ofE (l := PySem.Challenge.rw_sizeladders_k05_measures_read) (n := 63) (k := 13) (x := "_law_script") (CX := L2.CX0) rfl (by decide) (by kernel_rfl) ⟨rfl, by decide, by decide⟩ ?F (fun _ _ _ _ z => z)
    intro w mg fa h Y G hmg0
    obtain ⟨K, KX, c, cx⟩ := Y
    have hmg : mg ("law" : PySem.Str) = some (.ref fa) := by
      have e : (HandSHeadRun.topDef (OpenLaw.row PySem.Challenge.rw_sizeladders_k05_measures_read).prog 37).name = ("law" : PySem.Str) := by kernel_rfl
      rw [← e]
      exact hmg0
    obtain ⟨φ, T⟩ := K05.facts KX G c cx
    have e := hmg.symm.trans T.g_law
    cases e
    have b := L2.FunD.bindsA (ps := K05.p_law) T.f_law fun _ _ _ _ _ _ us hl => match us, hl with | [_], _ => rfl
    exact ⟨K, φ.law, K05.sp_law K, KX, fun s v => b s [v] rfl, fun H a ns hl _ hS => ⟨a, ns, rfl, hS, hl, fun _ => rfl⟩, fun base _ _ => K05.ok_law T⟩
