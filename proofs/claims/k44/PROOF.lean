import PyProof.Rows.All
import Wide.All
import OpenK.AllK
import Wide.FinOn
import KE.KStateDown
import HandS.ForMost
import HandS.More
import HandS.WordsExc
import HandS.Defaults
import HandS.MakeKw
import HandS.MakeKwOnly
import HandS.Wide
import HandS.IsInst
import HandS.Flow
import HandS.Style
import HandS.OwnEq
import HandS.Head0
import HandS.Head1
import HandS.Head2
import HandS.HeadEnd
import HandS.HeadHook1
import HandS.HeadHook2
import HandS.ExcIs
import HandS.ExcOwn
import HandS.TryOnly
import HandS.ExcBuiltin
import HandS.FStr
import HandS.Text
import HandS.Codes
import HandS.StrMore
import HandS.Walk
import HandS.Zip
import HandS.Conv
import HandS.Iter
import KE.GoesEnum
import KE.DataMinMax
import HandS.SortKw
import HandS.TupAny
import HandS.FStrTup
import HandS.Deep
import HandS.SetFor
import HandS.Strs
import PySem.Challenge.RW_sizeladders_k44_fewest_of_all_lots
set_option Elab.async false
set_option linter.all false
set_option maxRecDepth 100000
set_option maxHeartbeats 4000000
namespace My
open PySem PySem.Spec PyProof.Rows L2
/-! ### operators of great numbers -/
section
variable {X : Cx}
theorem op_fd : OpR X (binaryOp .FloorDiv) (rI (fun _ j => j ≠ 0 ∧ j.natAbs.log2 < 9000) fun i j => .int (i.fdiv j)) :=
  opI fun _ _ _ _ _ _ _ hc q => floordiv_int hc.1 q (.inl (PyProof.noPylong_of_log2 hc.2))
theorem op_mulA : OpR X (binaryOp .Mult) (rI (fun i j => CMul i j ∨ CMulW i j) fun i j => .int (i * j)) :=
  opI fun _ _ _ _ _ _ _ hc q => mul_int q (hc.elim (fun h => h.ok) (fun h => h.ok))
/-! ### cuts: what is wanted behind a piece, said by a word of one's own -/
def tCutS (t : TS) : TS := fun D σ H => ∃ J : L2.St → Hp → Prop, t { D with nx := J } σ H ∧ ∀ σ' H', J σ' H' → D.nx σ' H'
theorem ps_cut {st : Stmt} {t : TS} (h : PS X st t) : PS X st (tCutS t) := by
  refine ⟨fun pins s σ H D I hw => ?_⟩
  obtain ⟨J, h1, h2⟩ := hw
  refine thn (h.run pins s σ H _ I h1) fun f s' q => ?_
  cases f with
  | next => obtain ⟨σ', H', I', q'⟩ := q; exact ⟨σ', H', I', h2 _ _ q'⟩
  | brk => exact q
  | cont => exact q
  | ret u => exact q
def tCutE (t : TE) : TE := fun σ H Q => ∃ J : V → Hp → Prop, t σ H J ∧ ∀ v H', J v H' → Q v H'
theorem pe_cut {e : Expr} {t : TE} (h : PE X e t) : PE X e (tCutE t) := by
  refine ⟨fun pins s σ H Q I hw => ?_⟩
  obtain ⟨J, h1, h2⟩ := hw
  exact thn (h.run pins s σ H _ I h1) fun u s' ⟨v, H', I', r, q'⟩ => ⟨v, H', I', r, h2 _ _ q'⟩
def tCutT (t : TT) : TT := fun σ H Q => ∃ J : Bool → Hp → Prop, t σ H J ∧ ∀ v H', J v H' → Q v H'
theorem pt_cut {e : Expr} {t : TT} (h : PT X e t) : PT X e (tCutT t) := by
  refine ⟨fun pins s σ H Q I hw => ?_⟩
  obtain ⟨J, h1, h2⟩ := hw
  exact thn (h.run pins s σ H _ I h1) fun u s' ⟨H', I', q'⟩ => ⟨H', I', h2 _ _ q'⟩
/-! ### calls by keywords -/
variable {CX : CXT} {k n : Nat} {f C : Addr} {fd : FuncData} {ps ks : List Str} {sp : Sp} {E : XK} {x m : Str} {p pos apos : Pos} {o e : Expr} {es : List Expr} {kws : List Keyword} {ta : TE} {t tk : TA} {g : List Value → List Value → List Value} {gV : List V → List V → List V}
/-- f(k = v, ..) -/
theorem pe_callK0 (F : FnOk X.prog X.w X.K X.mg X.base CX k f fd ps sp) (hr : Room k X.A) (hg : Gl X x) (hm : X.mg x = some (.ref f)) (hk : PySem.W.keepIn X.K (.ref f) = true) (hb : KBn X.K fd ps 0 ks g gV) (hx : Passes CX X E)
    (hkw : PK X kws tk) (hall : (backToKw pos (keywordEach kws X.env)).all (·.1.isSome) = true := by rfl) (hks : (backToKw pos (keywordEach kws X.env)).filterMap (·.1) = ks := by rfl)
    (hdb : (x == ("__debug__" : Str)) = false := by decide) (hpl : ((backTo pos (starEach [] X.env)).any (·.1) || (backToKw pos (keywordEach kws X.env)).any (·.1.isNone)) = false := by rfl) :
    PE X (.Call (.Name x p) [] kws pos) (tCallN 0 ks.length sp gV E tNil tk) := by
  refine ⟨fun pins s σ H Q I h => ?_⟩
  refine wpAny_Call_Name_kw (ld_glob I hg hm ?_ hdb)
  refine PySem.W.callWith_KW0 (h₀ := X.base) I.ok.mod.kin hk hall ?_ hpl
  refine thn (hkw.run pos pins s σ H _ I h) fun ws s2 ⟨zs, H2, I2, rz, l1, l2, q2⟩ => ⟨I2.kIn, ?_⟩
  rw [hks]
  exact run_fnN (us := []) (vs := []) F hr hb hx I2 .nil rz rfl l2 q2
/-- o.m(e, .., k = v, ..) -/
def tMethN (C : Addr) (m : Str) (n l : Nat) (sp : Sp) (gV : List V → List V → List V) (E : XK) (ta : TE) (t tk : TA) : TE := fun σ H Q => ta σ H fun x H1 => ∃ a dx fs, x = .ref a ∧ H1 a = some (.ins C dx fs) ∧ fs.lookup m = none ∧
  t σ H1 fun vs H2 => tk σ H2 fun zs H3 => vs.length = n ∧ zs.length = l ∧ sp (gV (.ref a :: vs) zs) H3 Q E
theorem pe_methK {pl : Sem Bool} (he : PE X o ta) (c : Cls X.K C) (hm : Meth X.K C m f) (F : FnOk X.prog X.w X.K X.mg X.base CX k f fd ps sp) (hr : Room k X.A) (hb : KBn X.K fd ps (n + 1) ks g gV) (hx : Passes CX X E) (ha : PA X (e :: es) t) (hkw : PK X kws tk)
    (hall : (backToKw pos (keywordEach kws X.env)).all (·.1.isSome) = true := by rfl) (hks : (backToKw pos (keywordEach kws X.env)).filterMap (·.1) = ks := by rfl)
    (hst : starEach (e :: es) X.env = (false, eval e X.env) :: starEach es X.env := by rfl)
    (hpl : ((backTo pos (starEach (e :: es) X.env)).any (·.1) || (backToKw pos (keywordEach kws X.env)).any (·.1.isNone)) = false := by rfl)
    (ht : eval (.Call (.Attribute o m apos) (e :: es) kws pos) X.env = (do
      let ov ← eval o X.env
      standAt apos.atName
      let (f, first) ← holding [ov] (getMethod ov m pl)
      callWith pos f first (backTo pos (starEach (e :: es) X.env)) (backToKw pos (keywordEach kws X.env))) := by rfl) :
    PE X (.Call (.Attribute o m apos) (e :: es) kws pos) (tMethN C m n ks.length sp gV E ta t tk) := by
  refine ⟨fun pins s σ H Q I h => ?_⟩
  refine PySem.W.methodCall_KW (pl := pl) (thn (he.run pins s σ H _ I h) fun u s1 ⟨x, H1, I1, rx, a, dx, fs, ex, ea, l, q⟩ => ?_) ht
  subst ex
  obtain rfl : u = Value.ref a := rx
  refine getmeth_ok I1 ea c hm l ?_
  refine PySem.W.callWith_KW (first := [.ref a]) (h₀ := X.base) I.ok.mod.kin hm.kp hall (thn (ha.run pos pins s1 σ H1 _ I1 q) fun us s2 ⟨vs, H2, I2, r, q2⟩ => ?_) hpl hst
  refine thn (hkw.run pos pins s2 σ H2 _ I2 q2) fun ws s3 ⟨zs, H3, I3, rz, l1, l2, q3⟩ => ⟨I3.kIn, ?_⟩
  rw [hks]
  exact run_fnN (us := .ref a :: us) (vs := .ref a :: vs) F hr hb hx I3 (.cons rfl r) rz (congrArg Nat.succ l1) l2 q3
theorem pe_methK0 {pl : Sem Bool} (he : PE X o ta) (c : Cls X.K C) (hm : Meth X.K C m f) (F : FnOk X.prog X.w X.K X.mg X.base CX k f fd ps sp) (hr : Room k X.A) (hb : KBn X.K fd ps 1 ks g gV) (hx : Passes CX X E) (hkw : PK X kws tk)
    (hall : (backToKw pos (keywordEach kws X.env)).all (·.1.isSome) = true := by rfl) (hks : (backToKw pos (keywordEach kws X.env)).filterMap (·.1) = ks := by rfl)
    (hpl : ((backTo pos (starEach [] X.env)).any (·.1) || (backToKw pos (keywordEach kws X.env)).any (·.1.isNone)) = false := by rfl)
    (ht : eval (.Call (.Attribute o m apos) [] kws pos) X.env = (do
      let ov ← eval o X.env
      standAt apos.atName
      let (f, first) ← holding [ov] (getMethod ov m pl)
      callWith pos f first (backTo pos (starEach [] X.env)) (backToKw pos (keywordEach kws X.env))) := by rfl) :
    PE X (.Call (.Attribute o m apos) [] kws pos) (tMethN C m 0 ks.length sp gV E ta tNil tk) := by
  refine ⟨fun pins s σ H Q I h => ?_⟩
  refine PySem.W.methodCall_KW (pl := pl) (thn (he.run pins s σ H _ I h) fun u s1 ⟨x, H1, I1, rx, a, dx, fs, ex, ea, l, q⟩ => ?_) ht
  subst ex
  obtain rfl : u = Value.ref a := rx
  refine getmeth_ok I1 ea c hm l ?_
  refine PySem.W.callWith_KW0 (first := [.ref a]) (h₀ := X.base) I.ok.mod.kin hm.kp hall ?_ hpl
  refine thn (hkw.run pos pins s1 σ H1 _ I1 q) fun ws s3 ⟨zs, H3, I3, rz, l1, l2, q3⟩ => ⟨I3.kIn, ?_⟩
  rw [hks]
  exact run_fnN (us := [.ref a]) (vs := [.ref a]) F hr hb hx I3 (.cons rfl .nil) rz rfl l2 q3
end
theorem kb_none {K : PySem.W.Frag} {x qual : Str} {params : Arguments} {body : List Stmt} {scope : Scope} {kws : List (Str × V)} {f : Addr} {fd : FuncData} {ps : List Str} {n : Nat} {ks : List Str}
    (F : FunD K x qual params body scope [] kws f fd) (g : {α : Type} → List α → List α → List α)
    (hrel : ∀ {vs zs : List V} {us ws : List Value}, Vals vs us → Vals zs ws → Vals (g vs zs) (g us ws))
    (h : ∀ (kV doc pm : Value) (an : Option Addr) (cdv ct : Value) (us ws : List Value), us.length = n → ws.length = ks.length → bindArgs (PySem.W.fnOf x qual params body scope .none kV doc pm an cdv ct) ⟨us, ks.zip ws⟩ = pure (ps.zip (g us ws))) :
    KBn K fd ps n ks (fun us ws => g us ws) (fun vs zs => g vs zs) := by
  obtain ⟨oc, od, dV, kV, doc, pm, an, cdv, ct, osl, rfl, lk, hcd, hD, hK⟩ := F.ex
  rcases hD with ⟨_, rfl⟩ | ⟨e, _⟩
  · exact ⟨fun s us ws X l1 l2 => .of_eq (h kV doc pm an cdv ct us ws l1 l2), fun r1 r2 => hrel r1 r2⟩
  · exact absurd rfl e
/-! ### heaps -/
theorem up1 {H : Hp} {p x : Addr} {o u : HO} (hp : H p = none) (hx : H x = some o) : upd H p u x = some o := by
  rw [upd_ne (ne_of_none hx hp)]; exact hx
theorem same1 {H : Hp} {p : Addr} {u : HO} (hp : H p = none) : Same H (upd H p u) := fun _ _ e => up1 hp e
theorem _root_.L2.Same.sqt {K : PySem.W.Frag} {H H' : Hp} {a : Addr} {xs : List V} (e : Same H H') (h : SqT K H a xs) : SqT K H' a xs := by
  rcases h with (h | ⟨o, h⟩) | h
  · exact .inl (.inl (e _ _ h))
  · exact .inl (.inr ⟨o, e _ _ h⟩)
  · exact .inr h
/-- all stays but what stands at h -/
def Kp (h : Addr) (H H' : Hp) : Prop := ∀ b o, H b = some o → b ≠ h → H' b = some o
theorem Kp.refl (h : Addr) (H : Hp) : Kp h H H := fun _ _ e _ => e
theorem Kp.trans {h : Addr} {H H1 H2 : Hp} (a : Kp h H H1) (b : Kp h H1 H2) : Kp h H H2 := fun c o e n => b c o (a c o e n) n
theorem Kp.same {h : Addr} {H H1 : Hp} (a : Same H H1) : Kp h H H1 := fun c o e _ => a c o e
theorem Kp.up {h p : Addr} {H H1 : Hp} {u : HO} (a : Kp h H H1) (hp : H1 p = none) : Kp h H (upd H1 p u) := fun c o e n => up1 hp (a c o e n)
theorem Kp.set {h : Addr} {H H1 : Hp} {u : HO} (a : Kp h H H1) : Kp h H (upd H1 h u) := fun c o e n => by
  rw [upd_ne n]; exact a c o e n
/-- a list other than that at h, the script among them -/
theorem Kp.seq {K : PySem.W.Frag} {h a : Addr} {H H1 : Hp} {xs : List V} (k : Kp h H H1) (n : a ≠ h) (s : SqL K H a xs) : SqL K H1 a xs := by
  rcases s with (s | ⟨o, s⟩) | s
  · exact .inl (.inl (k _ _ s n))
  · exact .inl (.inr ⟨o, k _ _ s n⟩)
  · exact .inr s
/-! ### the hand: a list of three ints, drawn from -/
def HandAt (H : Hp) (h : Addr) (n : Nat) : Prop := ∃ a b c : Int, H h = some (.lst [.int a, .int b, .int c]) ∧ 0 ≤ a ∧ 0 ≤ b ∧ b < 4611686018427387904 ∧ 0 ≤ c ∧ c ≤ n
theorem HandAt.mono {H : Hp} {h : Addr} {n m : Nat} (a : HandAt H h n) (l : n ≤ m) : HandAt H h m := by
  obtain ⟨x, y, z, h1, h2, h3, h4, h5, h6⟩ := a
  exact ⟨x, y, z, h1, h2, h3, h4, h5, by omega⟩
theorem HandAt.same {H H' : Hp} {h : Addr} {n : Nat} (a : HandAt H h n) (s : Same H H') : HandAt H' h n := by
  obtain ⟨x, y, z, h1, h2⟩ := a
  exact ⟨x, y, z, s _ _ h1, h2⟩
theorem HandAt.up {H : Hp} {h p : Addr} {u : HO} {n : Nat} (a : HandAt H h n) (hp : H p = none) : HandAt (upd H p u) h n := a.same (same1 hp)
theorem HandAt.ne {H : Hp} {h p : Addr} {n : Nat} (a : HandAt H h n) (hp : H p = none) : p ≠ h := by
  obtain ⟨x, y, z, h1, _⟩ := a
  exact (ne_of_none h1 hp).symm
def notHand : HO → Bool
  | .lst _ => false
  | _ => true
theorem HandAt.apart {H : Hp} {h p : Addr} {o : HO} {n : Nat} (a : HandAt H h n) (hp : H p = some o) (ho : notHand o = true) : p ≠ h := by
  obtain ⟨x, y, z, h1, _⟩ := a
  exact ne_of hp h1 (by intro e; rw [e] at ho; cases ho)
def sp_take : Sp := fun vs H Q _ => ∃ (h : Addr) (n : Nat) (m : Int), vs = [.ref h, .int m] ∧ HandAt H h n ∧ n < 1000000 ∧ 0 < m ∧ m.natAbs.log2 < 9000 ∧
  ∀ (d : Int) (H' : Hp), 0 ≤ d → d < m → HandAt H' h (n + 1) → Kp h H H' → Q (.int d) H'
def sp_hand (K : PySem.W.Frag) : Sp := fun vs H Q _ => ∃ (a : Addr) (ns : List Int) (k : Nat), vs = [.ref a, .int k] ∧ SqL K H a (ns.map V.int) ∧ k ≤ 1000 ∧
  ∀ (p : Addr) (H' : Hp), H p = none → Same H H' → HandAt H' p 0 → Q (.ref p) H'
/-! ### numbers -/
abbrev Sz (k : Nat) (z : Int) : Prop := z.natAbs < 2 ^ k
theorem Sz.mono {a b : Nat} {z : Int} (h : Sz a z) (l : a ≤ b) : Sz b z := Nat.lt_of_lt_of_le h (Nat.pow_le_pow_right (by decide) l)
theorem Sz.mul {a b : Nat} {x y : Int} (h : Sz a x) (g : Sz b y) : Sz (a + b) (x * y) := wide_lt h g
theorem Sz.neg {a : Nat} {x : Int} (h : Sz a x) : Sz a (-x) := by
  show (-x).natAbs < 2 ^ a
  rw [Int.natAbs_neg]; exact h
theorem Sz.add {a : Nat} {x y : Int} (h : Sz a x) (g : Sz a y) : Sz (a + 1) (x + y) := by
  show (x + y).natAbs < 2 ^ (a + 1)
  have h1 : x.natAbs < 2 ^ a := h
  have h2 : y.natAbs < 2 ^ a := g
  rw [Nat.pow_succ]; omega
theorem Sz.sub {a : Nat} {x y : Int} (h : Sz a x) (g : Sz a y) : Sz (a + 1) (x - y) := by
  show (x - y).natAbs < 2 ^ (a + 1)
  have h1 : x.natAbs < 2 ^ a := h
  have h2 : y.natAbs < 2 ^ a := g
  rw [Nat.pow_succ]; omega
theorem Sz.le {a : Nat} {x y : Int} (h : Sz a x) (l : y.natAbs ≤ x.natAbs) : Sz a y := Nat.lt_of_le_of_lt l h
theorem Sz.cmul {a b : Nat} {x y : Int} (h : Sz a x) (g : Sz b y) (h0 : 0 < a) (h1 : 0 < b) (l : a + b ≤ 1000000) : CMul x y ∨ CMulW x y := .inr (wide_mul h g h0 h1 l)
theorem Sz.log {a : Nat} {x : Int} (h : Sz a x) (h0 : 0 < a) (l : a ≤ 9000) : x.natAbs.log2 < 9000 := Nat.lt_of_lt_of_le (PySem.Flt.log2_lt_of h0 h) l
theorem dI {i j : Int} : decide (V.int i = V.int j) = decide (i = j) := by
  rw [dec_int, Bool.beq_eq_decide_eq]
/-- t / u is a / b in lowest terms -/
structure Fr (t u a b : Int) : Prop where
  pos : 0 < u
  eq : t * b = a * u
  co : Int.gcd t u = 1
  lt : t.natAbs ≤ a.natAbs
  lu : u.natAbs ≤ b.natAbs
def sgn (b : Int) : Int := if 0 < b then 1 else -1
theorem gcd_step {g s : Int} (hs : 0 < s) (hg : 0 ≤ g) : Int.gcd s (g % s) = Int.gcd g s := by
  obtain ⟨m, rfl⟩ := Int.eq_ofNat_of_zero_le hg
  obtain ⟨n, rfl⟩ := Int.eq_ofNat_of_zero_le (Int.le_of_lt hs)
  show Nat.gcd n (m % n) = Nat.gcd m n
  rw [Nat.gcd_comm m n, Nat.gcd_comm n (m % n), ← Nat.gcd_rec]
theorem fr_mk {a b c : Int} (hb : b ≠ 0) (hc : c = sgn b * (Int.gcd a b : Int)) : c ≠ 0 ∧ c.natAbs ≤ b.natAbs ∧ Fr (a.fdiv c) (b.fdiv c) a b := by
  have g0 : 0 < Int.gcd a b := Int.gcd_pos_of_ne_zero_right a hb
  have gd : (Int.gcd a b : Int) ∣ a := Int.gcd_dvd_left ..
  have gb : (Int.gcd a b : Int) ∣ b := Int.gcd_dvd_right ..
  have hs : sgn b = 1 ∨ sgn b = -1 := by unfold sgn; split <;> simp
  have cd : c ∣ a := by
    rcases hs with e | e <;> rw [hc, e]
    · rw [Int.one_mul]; exact gd
    · rw [Int.neg_one_mul]; exact (Int.neg_dvd).mpr gd
  have cb : c ∣ b := by
    rcases hs with e | e <;> rw [hc, e]
    · rw [Int.one_mul]; exact gb
    · rw [Int.neg_one_mul]; exact (Int.neg_dvd).mpr gb
  have cn : c.natAbs = Int.gcd a b := by
    rcases hs with e | e <;> rw [hc, e]
    · rw [Int.one_mul, Int.natAbs_natCast]
    · rw [Int.neg_one_mul, Int.natAbs_neg, Int.natAbs_natCast]
  have c0 : c ≠ 0 := by
    intro e; rw [e] at cn; simp at cn; omega
  have ta : a.fdiv c * c = a := Int.fdiv_mul_cancel cd
  have tb : b.fdiv c * c = b := Int.fdiv_mul_cancel cb
  have c1 : 1 ≤ c.natAbs := by omega
  have na : a.natAbs = (a.fdiv c).natAbs * c.natAbs := by rw [← Int.natAbs_mul, ta]
  have nb : b.natAbs = (b.fdiv c).natAbs * c.natAbs := by rw [← Int.natAbs_mul, tb]
  refine ⟨c0, ?_, ?_, ?_, ?_, ?_, ?_⟩
  · rw [cn]
    exact Nat.le_of_dvd (by omega) (Int.gcd_dvd_natAbs_right a b)
  · rcases Int.lt_trichotomy b 0 with h | h | h
    · have e : sgn b = -1 := by unfold sgn; rw [if_neg (by omega)]
      have cneg : c < 0 := by rw [hc, e]; omega
      rcases Int.lt_or_le 0 (b.fdiv c) with z | z
      · exact z
      · have : 0 ≤ b.fdiv c * c := Int.mul_nonneg_of_nonpos_of_nonpos z (by omega)
        omega
    · exact absurd h hb
    · have e : sgn b = 1 := by unfold sgn; rw [if_pos h]
      have cpos : 0 < c := by rw [hc, e]; omega
      rcases Int.lt_or_le 0 (b.fdiv c) with z | z
      · exact z
      · have : b.fdiv c * c ≤ 0 := Int.mul_nonpos_of_nonpos_of_nonneg z (by omega)
        omega
  · have : a.fdiv c * (b.fdiv c * c) = a.fdiv c * c * b.fdiv c := by
      rw [Int.mul_assoc, Int.mul_comm c]
    rw [tb, ta] at this
    exact this
  · have e : Int.gcd a b = Int.gcd (a.fdiv c) (b.fdiv c) * c.natAbs := by
      have := Int.gcd_mul_right (a.fdiv c) c (b.fdiv c)
      rw [ta, tb] at this
      exact this
    rw [← cn] at e
    have e2 : 1 * c.natAbs = Int.gcd (a.fdiv c) (b.fdiv c) * c.natAbs := by rw [Nat.one_mul]; exact e
    exact (Nat.eq_of_mul_eq_mul_right (by omega) e2).symm
  · rw [na]; exact Nat.le_mul_of_pos_right _ (by omega)
  · rw [nb]; exact Nat.le_mul_of_pos_right _ (by omega)
/-! ### a Measure -/
def mf (t u : Int) : List (Str × V) := [("top", .int t), ("bottom", .int u)]
theorem ne_tb : ¬ (("top" : Str) = "bottom") := by decide +kernel
theorem mf_put (t u : Int) : putF "bottom" (.int u) (putF "top" (.int t) []) = mf t u := by
  show (if ("top" : Str) = "bottom" then [(("top" : Str), V.int u)] else (("top" : Str), V.int t) :: putF "bottom" (V.int u) []) = mf t u
  rw [if_neg ne_tb] <;> rfl
theorem mf_top (t u : Int) : (mf t u).lookup ("top" : Str) = some (.int t) := by
  rw [← mf_put, lookup_putF, if_neg ne_tb, lookup_putF, if_pos rfl]
theorem mf_bottom (t u : Int) : (mf t u).lookup ("bottom" : Str) = some (.int u) := by
  rw [← mf_put, lookup_putF, if_pos rfl]
theorem mf_no (t u : Int) {m : Str} (h1 : ¬ m = "top") (h2 : ¬ m = "bottom") : (mf t u).lookup m = none := by
  rw [← mf_put, lookup_putF, if_neg h2, lookup_putF, if_neg h1] <;> rfl
def MAt (C : Addr) (H : Hp) (p : Addr) (t u : Int) : Prop := ∃ dx, H p = some (.ins C dx (mf t u))
theorem MAt.same {C p : Addr} {H H' : Hp} {t u : Int} (m : MAt C H p t u) (s : Same H H') : MAt C H' p t u := by
  obtain ⟨dx, h⟩ := m; exact ⟨dx, s _ _ h⟩
theorem MAt.kp {C p h : Addr} {H H' : Hp} {t u : Int} {n : Nat} (m : MAt C H p t u) (hh : HandAt H h n) (s : Kp h H H') : MAt C H' p t u := by
  obtain ⟨dx, e⟩ := m; exact ⟨dx, s _ _ e (hh.apart e rfl)⟩
def sp_minit (C : Addr) : Sp := fun vs H Q _ => ∃ (p dx : Addr) (a b : Int), vs = [.ref p, .int a, .int b] ∧ H p = some (.ins C dx []) ∧ b ≠ 0 ∧ b.natAbs.log2 < 9000 ∧
  ∀ (t u : Int) (H' : Hp), Fr t u a b → H' p = some (.ins C dx (mf t u)) → (∀ c o, H c = some o → c ≠ p → H' c = some o) → Q .non H'
theorem made {C : Addr} {H : Hp} {Q : VK} {E : XK} {a b : Int} (hb : b ≠ 0) (hl : b.natAbs.log2 < 9000) (k : ∀ (p : Addr) (t u : Int) (H' : Hp), H p = none → Same H H' → MAt C H' p t u → Fr t u a b → Q (.ref p) H') :
    ∀ x dx, H x = none → H dx = none → dx ≠ x → sp_minit C [.ref x, .int a, .int b] (upd (upd H dx (.own x)) x (.ins C dx [])) (fun v H2 => v = .non ∧ Q (.ref x) H2) E := by
  intro x dx nx nd ne
  refine ⟨x, dx, a, b, rfl, upd_same, hb, hl, fun t u H' fr hx kp => ⟨rfl, ?_⟩⟩
  refine k x t u H' nx (fun c o e => ?_) ⟨dx, hx⟩ fr
  have n1 : c ≠ x := ne_of_none e nx
  refine kp c o ?_ n1
  rw [upd_ne n1]
  exact up1 nd e
def sp_whole : Sp := fun vs H Q _ => ∃ n : Int, vs = [.int n] ∧ Q (.bl true) H
def sp_common : Sp := fun vs H Q _ => ∃ a b : Int, vs = [.int a, .int b] ∧ Q (.int (Int.gcd a b : Int)) H
def lessA (t u t' u' : Int) (al : Bool) : Bool := decide (t * u' < t' * u) || (al && decide (t * u' = t' * u))
def sp_below (C : Addr) : Sp := fun vs H Q _ => ∃ (p q : Addr) (t u t' u' : Int) (al : Bool), vs = [.ref p, .ref q, .bl al] ∧ MAt C H p t u ∧ MAt C H q t' u' ∧ Sz 9000 t ∧ Sz 9000 u ∧ Sz 9000 t' ∧ Sz 9000 u' ∧ Q (.bl (lessA t u t' u' al)) H
/-- a comprehension over a list whose elements are reckoned without a change of what stands -/
theorem lcs {K : PySem.W.Frag} {a : Addr} {xs : List V} {g : TG} {tt : TT} {te : TE} {vs : List Nat} {σ : L2.St} {H1 : Hp} {D : Addr} {Qd : Hp → Prop} (ys : List V) (hlen : ys.length = xs.length) (hz : ys.length < sizeLine) (hS : SqL K H1 a xs) (hD : H1 D = none)
    (hs : ∀ (i : Nat) (x y : V) (H : Hp) (N : VK) (M : Hp → Prop), xs[i]? = some x → ys[i]? = some y → Same H1 H → (∀ H4, Same H H4 → N y H4) → g x (wipe σ vs) H fun σ2 H2 => wipe σ2 vs = wipe σ vs ∧ tt σ2 H2 fun b H3 => if b = true then te σ2 H3 N else M H3)
    (hd : ∀ H, Same H1 H → H D = some (.lst ys) → Qd H) :
    ∃ W : Nat → Nat → Hp → Prop, (∃ m, W 0 m (upd H1 D (.lst []))) ∧ ∀ i m H, W i m H →
      ((Itl K a).stop i H ∧ Qd H) ∨ ((Itl K a).go i H ∧ ∃ Nx : Hp → Prop, (∀ H', Nx H' → ∃ m', m' < m ∧ W (i + 1) m' H') ∧ ∀ x H', (Itl K a).yld i H x H' → g x (wipe σ vs) H' fun σ2 H2 => wipe σ2 vs = wipe σ vs ∧ tt σ2 H2 fun b H3 =>
        if b = true then te σ2 H3 fun y H4 => ∃ acc, H4 D = some (.lst acc) ∧ acc.length < sizeLine ∧ Nx (upd H4 D (.lst (acc ++ [y]))) else Nx H3) := by
  refine lc_list (fun i H => Same H1 H ∧ H D = some (.lst (ys.take i))) ⟨same1 hD, upd_same⟩ (fun i H _ p => p.1.seq hS) (fun i x H hx p => ?_) (fun H p => hd H p.1 ?_)
  · have hi : i < ys.length := by rw [hlen]; exact (List.getElem?_eq_some_iff.mp hx).1
    refine hs i x ys[i] H _ _ hx (List.getElem?_eq_getElem hi) p.1 fun H4 s4 => ⟨_, s4 _ _ p.2, ?_, ?_, ?_⟩
    · rw [List.length_take]; omega
    · intro c o e
      rw [upd_ne (ne_of_none e hD)]
      exact s4 _ _ (p.1 _ _ e)
    · rw [upd_same, List.take_add_one, List.getElem?_eq_getElem hi]
      rfl
  · have e := p.2
    rw [← hlen, List.take_length] at e
    exact e
theorem Kp.get {h q : Addr} {H H' : Hp} {o : HO} {n : Nat} (k : Kp h H H') (hh : HandAt H h n) (e : H q = some o) (no : notHand o = true) : H' q = some o := k _ _ e (hh.apart e no)
theorem _root_.L2.Same.get {q : Addr} {H H' : Hp} {o : HO} (k : Same H H') (e : H q = some o) : H' q = some o := k _ _ e
theorem _root_.L2.Same.ofKp {h : Addr} {H H1 H2 : Hp} (s : Same H H1) (nh : H h = none) (k : Kp h H1 H2) : Same H H2 := fun c o e => k c o (s c o e) (ne_of_none e nh)
theorem _root_.L2.Same.up {p : Addr} {H H1 : Hp} {u : HO} (s : Same H H1) (hp : H1 p = none) : Same H (upd H1 p u) := s.trans (same1 hp)
theorem dp_bls {K : PySem.W.Frag} {H : Hp} : ∀ bs : List Bool, DpAll K H (bs.map V.bl) (bs.map PyData.bool)
  | [] => .nil
  | b :: r => .cons (.bl b) (dp_bls r)
theorem isTrueN {b : Bool} (h : ¬ b = true) : b = false := by cases b <;> simp_all
theorem sgn_cases (b : Int) : sgn b = 1 ∨ sgn b = -1 := by unfold sgn; split <;> simp
/-- the order of two fractions by their own numbers and by any others -/
theorem below_iff {t u a b t' u' c d : Int} (f : Fr t u a b) (g : Fr t' u' c d) (hb : b ≠ 0) (hd : d ≠ 0) : (a * d * (sgn b * sgn d) < c * b * (sgn b * sgn d)) ↔ t * u' < t' * u := by
  have hu := f.pos
  have hu' := g.pos
  have e1 := f.eq
  have e2 := g.eq
  have sb : 0 < b * sgn b := by
    unfold sgn; split
    · omega
    · rename_i h; rw [Int.mul_neg_one]; omega
  have sd : 0 < d * sgn d := by
    unfold sgn; split
    · omega
    · rename_i h; rw [Int.mul_neg_one]; omega
  have p1 : a * d * (sgn b * sgn d) * (u * u') = (t * u') * ((b * sgn b) * (d * sgn d)) := by
    have : a * d * (sgn b * sgn d) * (u * u') = (a * u) * u' * (d * sgn d) * sgn b := by
      simp only [Int.mul_assoc, Int.mul_comm, Int.mul_left_comm]
    rw [this, ← e1]
    simp only [Int.mul_assoc, Int.mul_comm, Int.mul_left_comm]
  have p2 : c * b * (sgn b * sgn d) * (u * u') = (t' * u) * ((b * sgn b) * (d * sgn d)) := by
    have : c * b * (sgn b * sgn d) * (u * u') = (c * u') * u * (b * sgn b) * sgn d := by
      simp only [Int.mul_assoc, Int.mul_comm, Int.mul_left_comm]
    rw [this, ← e2]
    simp only [Int.mul_assoc, Int.mul_comm, Int.mul_left_comm]
  have q : 0 < u * u' := Int.mul_pos hu hu'
  have r : 0 < (b * sgn b) * (d * sgn d) := Int.mul_pos sb sd
  constructor
  · intro h
    have := Int.mul_lt_mul_of_pos_right h q
    rw [p1, p2] at this
    exact Int.lt_of_mul_lt_mul_right this (Int.le_of_lt r)
  · intro h
    have := Int.mul_lt_mul_of_pos_right h r
    rw [← p1, ← p2] at this
    exact Int.lt_of_mul_lt_mul_right this (Int.le_of_lt q)
/-! ### rules with the written part by its name (for the blocks of comprehensions) -/
section
variable {X : Cx} {K : PySem.W.Frag}
theorem ixl (hK : X.K = K := by rfl) : IxR X (rIxL K) := by subst hK; exact ix_list
theorem ixt (hK : X.K = K := by rfl) : IxR X (rIxT K) := by subst hK; exact ix_tup
theorem isi (hK : X.K = K := by rfl) : CallR X (.builtin "isinstance") (rIsi K) := by subst hK; exact call_isi
theorem isiT (hK : X.K = K := by rfl) : CallR X (.builtin "isinstance") (rIsiT K) := by subst hK; exact call_isiT
def rLenS (K : PySem.W.Frag) : List V → Hp → VK → Prop := fun xs H Q => ∃ p ys, xs = [.ref p] ∧ (SqL K H p ys ∨ SqT K H p ys) ∧ Q (.int (ys.length : Int)) H
theorem lenS (hK : X.K = K := by rfl) : CallR X (.builtin "len") (rLenS K) := by subst hK; exact call_len_seq
theorem allK (hK : X.K = K := by rfl) (hc : X.calm = true := by rfl) : CallR X (.builtin "all") (rAll K) := by subst hK; exact cr_all hc
theorem anyK (hK : X.K = K := by rfl) (hc : X.calm = true := by rfl) : CallR X (.builtin "any") (rAny K) := by subst hK; exact cr_any hc
theorem eqDK (hu : X.A.units + 64 < cLine) (hK : X.K = K := by rfl) : OpR X (compareOp .Eq) (rEqD K) := by subst hK; exact op_eqD hu
theorem neDK (hu : X.A.units + 64 < cLine) (hK : X.K = K := by rfl) : OpR X (compareOp .NotEq) (rNeD K) := by subst hK; exact op_neD hu
theorem inK (hK : X.K = K := by rfl) : OpR X (compareOp .In) (rIn K false) := by subst hK; exact op_in_seq
theorem notInK (hK : X.K = K := by rfl) : OpR X (compareOp .NotIn) (rIn K true) := by subst hK; exact op_notIn_seq
theorem slL (hK : X.K = K := by rfl) : SlR X (rSlL K) := by subst hK; exact sl_list
theorem slT (hK : X.K = K := by rfl) : SlR X (rSlT K) := by subst hK; exact sl_tup
theorem catT (hK : X.K = K := by rfl) : OpR X (binaryOp .Add) (rCatT K) := by subst hK; exact op_catT
theorem fldK {e : Expr} {f : Str} {pos : Pos} {ta : TE} (he : PE X e ta) (hb : attributeBase e f X.env (eval e X.env) = eval e X.env) (hK : X.K = K := by rfl) : PE X (.Attribute e f pos) (tFld K ta f) := by subst hK; exact pe_fld he hb
end
theorem yesT {te : TE} {σ : L2.St} {H : Hp} {N : VK} {M : Hp → Prop} (h : te σ H N) : tYes σ H (fun b H3 => if b = true then te σ H3 N else M H3) := by
  show (if true = true then te σ H N else M H)
  rw [if_pos rfl]; exact h
theorem made_same {H H' : Hp} {x dx C : Addr} (nx : H x = none) (nd : H dx = none) (kp : ∀ c o, (upd (upd H dx (.own x)) x (.ins C dx [])) c = some o → c ≠ x → H' c = some o) : Same H H' := fun c o e => by
  have n1 : c ≠ x := ne_of_none e nx
  refine kp c o ?_ n1
  rw [upd_ne n1]
  exact up1 nd e
/-! ### the head's facts, and more of them -/
def obsM (n : Nat) (fa : List He.Fa) (fn : List He.DefD) (ex : List (PySem.W.Frag → Bool)) (g : Addr → Option Obj) : He.AlD × Bool := (He.obsDG n fa fn g, ex.all fun f => f (He.frG g (He.asD g n)))
def hookM (n : Nat) (fa : List He.Fa) (fn : List He.DefD) (ex : List (PySem.W.Frag → Bool)) : PySem.W.Hook where
  α := He.AlD × Bool
  obs := fun s => obsM n fa fn ex s.heap.get?
  val := fun _ => (He.valD fn, true)
  says := fun _ h => ∃ K : PySem.W.Frag, K.In h ∧ He.SaysD fa fn K ∧ (ex.all fun f => f K) = true
  of := fun _ _ e => ⟨_, He.frG_in, congrArg (fun z : He.AlD × Bool => z.1) e, congrArg (fun z : He.AlD × Bool => z.2) e⟩
  keeps := fun _ _ _ ⟨K, hK, c⟩ k => ⟨K, PySem.W.Frag.In.keeps hK k, c⟩
theorem obsM_eq {n : Nat} {fa : List He.Fa} {fn : List He.DefD} {ex : List (PySem.W.Frag → Bool)} {g : Addr → Option Obj} {s : Shared} (h : ∀ a, g a = s.heap.get? a) : obsM n fa fn ex g = (hookM n fa fn ex).obs s := by
  have e : g = s.heap.get? := funext h
  rw [e] <;> rfl
theorem ex_at {ex : List (PySem.W.Frag → Bool)} {K : PySem.W.Frag} (c : (ex.all fun f => f K) = true) (i : Nat) {f : PySem.W.Frag → Bool} (h : ex[i]? = some f) : f K = true := List.all_eq_true.mp c f (List.mem_of_getElem? h)
/-- what isinstance asks of an own class -/
structure IsC (K : PySem.W.Frag) (C : Addr) : Prop where
  ha : PySem.W.findIn K (.ref C) "__class__" = some (some (.builtin "object.__class__"))
  hn : PySem.W.specialIn K (.builtin "object.__class__") "__get__" = some (some (.builtin "getset_descriptor.__get__"))
  htk : PySem.W.takesIn K (.builtin "object.__class__") = some true
  hm : PySem.W.mroIn K C (.type "object") = some true
def isCB (x : Str) : PySem.W.Frag → Bool := fun K => He.eqO (PySem.W.findIn K (.ref (He.ga K x)) "__class__") (some (some (.builtin "object.__class__"))) && (He.eqO (PySem.W.specialIn K (.builtin "object.__class__") "__get__") (some (some (.builtin "getset_descriptor.__get__"))) &&
  (decide (PySem.W.takesIn K (.builtin "object.__class__") = some true) && decide (PySem.W.mroIn K (He.ga K x) (.type "object") = some true)))
theorem isC_ok {x : Str} {K : PySem.W.Frag} (c : isCB x K = true) : IsC K (He.ga K x) := by
  obtain ⟨c1, c⟩ := He.ba c
  obtain ⟨c2, c⟩ := He.ba c
  obtain ⟨c3, c4⟩ := He.ba c
  exact ⟨He.eqO_ok c1, He.eqO_ok c2, of_decide_eq_true c3, of_decide_eq_true c4⟩
/-- a class by name: an own one, a built-in one -/
def cv (K : PySem.W.Frag) : Str ⊕ String → Value
  | .inl x => .ref (He.ga K x)
  | .inr n => .type n
def kitF (a b : Str ⊕ String) (r : Bool) : PySem.W.Frag → Bool := fun K => decide (PySem.W.kitOne K (cv K a) (cv K b) = some r)
theorem kitF_ok {a b : Str ⊕ String} {r : Bool} {K : PySem.W.Frag} (c : kitF a b r K = true) : PySem.W.kitOne K (cv K a) (cv K b) = some r := of_decide_eq_true c
theorem tyM {K : PySem.W.Frag} {H : Hp} {a C dx : Addr} {fs : List (Str × V)} (e : H a = some (.ins C dx fs)) (cl : Cls K C) (i : IsC K C) : TyX K H (.ref a) (.ref C) := .base (.ins e cl i.ha i.hn i.htk i.hm)
/-! ### sums and parts of Measures -/
def sp_bin (C : Addr) (f g : Int → Int → Int → Int → Int) : Sp := fun vs H Q _ => ∃ (p q : Addr) (t u t' u' : Int), vs = [.ref p, .ref q] ∧ MAt C H p t u ∧ MAt C H q t' u' ∧ 0 < u ∧ 0 < u' ∧ Sz 100000 t ∧ Sz 4400 u ∧ Sz 100000 t' ∧ Sz 4400 u' ∧
  ∀ (r : Addr) (t2 u2 : Int) (H' : Hp), H r = none → Same H H' → MAt C H' r t2 u2 → Fr t2 u2 (f t u t' u') (g t u t' u') → Q (.ref r) H'
def sp_part (C : Addr) : Sp := fun vs H Q _ => ∃ (p : Addr) (t u m : Int), vs = [.ref p, .int m] ∧ MAt C H p t u ∧ 0 < u ∧ m ≠ 0 ∧ Sz 100000 t ∧ Sz 4400 u ∧ Sz 4400 m ∧
  ∀ (r : Addr) (t2 u2 : Int) (H' : Hp), H r = none → Same H H' → MAt C H' r t2 u2 → Fr t2 u2 t (u * m) → Q (.ref r) H'
/-- the same fraction once more -/
theorem Fr.of {t u a b c d : Int} (f : Fr t u a b) (hb : b ≠ 0) (e : a * d = c * b) : t * d = c * u := by
  have h1 := f.eq
  have h2 : (t * d) * b = (c * u) * b := by
    calc (t * d) * b = (t * b) * d := by simp only [Int.mul_assoc, Int.mul_comm, Int.mul_left_comm]
      _ = (a * u) * d := by rw [h1]
      _ = (a * d) * u := by simp only [Int.mul_assoc, Int.mul_comm, Int.mul_left_comm]
      _ = (c * b) * u := by rw [e]
      _ = (c * u) * b := by simp only [Int.mul_assoc, Int.mul_comm, Int.mul_left_comm]
  exact Int.eq_of_mul_eq_mul_right hb h2
/-- what stood at the start stands (by another name than the steps') -/
structure Old (H H' : Hp) : Prop where
  s : Same H H'
theorem Old.refl (H : Hp) : Old H H := ⟨Same.refl _⟩
theorem Old.up {p : Addr} {H H1 : Hp} {u : HO} (a : Old H H1) (hp : H1 p = none) : Old H (upd H1 p u) := ⟨a.s.up hp⟩
theorem Old.then {H H1 H2 : Hp} (a : Old H H1) (b : Same H1 H2) : Old H H2 := ⟨a.s.trans b⟩
theorem Old.kp {h : Addr} {H H1 H2 : Hp} (a : Old H H1) (nh : H h = none) (k : Kp h H1 H2) : Old H H2 := ⟨a.s.ofKp nh k⟩
theorem Old.put {h : Addr} {H H1 : Hp} {u : HO} (a : Old H H1) (nh : H h = none) : Old H (upd H1 h u) := ⟨fun c o e => by rw [upd_ne (ne_of_none e nh)]; exact a.s _ _ e⟩
/-- a list is changed, what is no list stays -/
theorem up2 {H : Hp} {l x : Addr} {xs : List V} {o u : HO} (hl : H l = some (.lst xs)) (hx : H x = some o) (no : notHand o = true) : upd H l u x = some o := by
  rw [upd_ne (ne_of hx hl (by intro e; rw [e] at no; cases no))]; exact hx
/-- what _law_is asks of a Measure -/
structure Good (t u a b : Int) : Prop where
  pos : 0 < u
  co : Int.gcd t u = 1
  eq : t * b = a * u
  st : Sz 100000 t
  su : Sz 100000 u
  sa : Sz 100000 a
  sb : Sz 100000 b
def sp_is (C : Addr) : Sp := fun vs H Q _ => ∃ (r : Addr) (t u a b : Int), vs = [.ref r, .int a, .int b] ∧ MAt C H r t u ∧ Good t u a b ∧ Q (.bl true) H
def sp_gcd : Sp := fun vs H Q _ => ∃ a b : Int, vs = [.int a, .int b] ∧ 0 ≤ a ∧ 0 ≤ b ∧ Q (.int (Int.gcd a b : Int)) H
end My
namespace My
open PySem PySem.Spec PyProof.Rows L2
/-! ### fractions as pairs, stretches as ends -/
abbrev Q2 := Int × Int
def ltq (a b : Q2) : Bool := decide (a.1 * b.2 < b.1 * a.2)
def eqq (a b : Q2) : Bool := decide (a.1 * b.2 = b.1 * a.2)
def someB : Option Q2 → Option Q2 → Bool → Bool → Bool
  | some a, some b, ia, ib => ltq a b || (eqq a b && ia && ib)
  | _, _, _, _ => true
def Re (a b : Q2) : Prop := 0 < a.2 ∧ 0 < b.2 ∧ a.1 * b.2 = b.1 * a.2
def ReO : Option Q2 → Option Q2 → Prop
  | none, none => True
  | some a, some b => Re a b
  | _, _ => False
theorem Re.symm {a b : Q2} (h : Re a b) : Re b a := ⟨h.2.1, h.1, h.2.2.symm⟩
theorem Re.refl {a : Q2} (h : 0 < a.2) : Re a a := ⟨h, h, rfl⟩
theorem ReO.symm : ∀ {a b : Option Q2}, ReO a b → ReO b a
  | none, none, _ => trivial
  | some _, some _, h => Re.symm h
  | none, some _, h => h.elim
  | some _, none, h => h.elim
theorem pos_key {a b c d : Q2} (h : Re a c) (g : Re b d) : (a.1 * b.2) * (c.2 * d.2) = (c.1 * d.2) * (a.2 * b.2) := by
  have := h.2.2
  grind
theorem pos_key' {a b c d : Q2} (h : Re a c) (g : Re b d) : (b.1 * a.2) * (c.2 * d.2) = (d.1 * c.2) * (a.2 * b.2) := by
  have := g.2.2
  grind
theorem ltq_congr {a b c d : Q2} (h : Re a c) (g : Re b d) : ltq a b = ltq c d := by
  unfold ltq
  have k1 := pos_key h g
  have k2 := pos_key' h g
  have p1 : 0 < c.2 * d.2 := Int.mul_pos h.2.1 g.2.1
  have p2 : 0 < a.2 * b.2 := Int.mul_pos h.1 g.1
  refine decide_eq_decide.mpr ⟨fun x => ?_, fun x => ?_⟩
  · have := Int.mul_lt_mul_of_pos_right x p1
    rw [k1, k2] at this
    exact Int.lt_of_mul_lt_mul_right this (Int.le_of_lt p2)
  · have := Int.mul_lt_mul_of_pos_right x p2
    rw [← k1, ← k2] at this
    exact Int.lt_of_mul_lt_mul_right this (Int.le_of_lt p1)
theorem eqq_congr {a b c d : Q2} (h : Re a c) (g : Re b d) : eqq a b = eqq c d := by
  unfold eqq
  have k1 := pos_key h g
  have k2 := pos_key' h g
  have p1 : 0 < c.2 * d.2 := Int.mul_pos h.2.1 g.2.1
  have p2 : 0 < a.2 * b.2 := Int.mul_pos h.1 g.1
  refine decide_eq_decide.mpr ⟨fun x => ?_, fun x => ?_⟩
  · rw [x] at k1
    rw [k1] at k2
    exact Int.eq_of_mul_eq_mul_right (by omega) k2
  · rw [x] at k1
    rw [← k2] at k1
    exact Int.eq_of_mul_eq_mul_right (by omega) k1
theorem someB_congr : ∀ {a b c d : Option Q2} {i j : Bool}, ReO a c → ReO b d → someB a b i j = someB c d i j
  | some a, some b, some c, some d, i, j, h, g => by
    show (ltq a b || (eqq a b && i && j)) = (ltq c d || (eqq c d && i && j))
    rw [ltq_congr h g, eqq_congr h g]
  | none, some _, none, some _, _, _, _, _ => rfl
  | none, none, none, none, _, _, _, _ => rfl
  | some _, none, some _, none, _, _, _, _ => rfl
  | some _, _, none, _, _, _, h, _ => h.elim
  | none, _, some _, _, _, _, h, _ => h.elim
  | some _, some _, some _, none, _, _, _, g => g.elim
  | some _, none, some _, some _, _, _, _, g => g.elim
  | none, some _, none, none, _, _, _, g => g.elim
  | none, none, none, some _, _, _, _, g => g.elim
theorem lt_tri (a b : Q2) : (ltq a b = true ∧ eqq a b = false ∧ ltq b a = false) ∨ (ltq a b = false ∧ eqq a b = true ∧ ltq b a = false) ∨ (ltq a b = false ∧ eqq a b = false ∧ ltq b a = true) := by
  unfold ltq eqq
  rcases Int.lt_trichotomy (a.1 * b.2) (b.1 * a.2) with h | h | h
  · exact .inl ⟨decide_eq_true h, decide_eq_false (by omega), decide_eq_false (by omega)⟩
  · exact .inr (.inl ⟨decide_eq_false (by omega), decide_eq_true h, decide_eq_false (by omega)⟩)
  · exact .inr (.inr ⟨decide_eq_false (by omega), decide_eq_false (by omega), decide_eq_true h⟩)
theorem eqq_comm (a b : Q2) : eqq a b = eqq b a := by
  unfold eqq
  exact decide_eq_decide.mpr ⟨fun h => h.symm, fun h => h.symm⟩
/-- in lowest terms, its numbers of less than four thousand bits -/
structure Low (a : Q2) : Prop where
  pos : 0 < a.2
  co : Int.gcd a.1 a.2 = 1
  s1 : Sz 4000 a.1
  s2 : Sz 4000 a.2
def LowO : Option Q2 → Prop
  | none => True
  | some a => Low a
theorem dvd_co {a b c : Int} (h : a ∣ b * c) (g : Int.gcd a b = 1) : a ∣ c := by
  have h1 : a.natAbs ∣ b.natAbs * c.natAbs := by rw [← Int.natAbs_mul]; exact Int.natAbs_dvd_natAbs.mpr h
  exact Int.natAbs_dvd_natAbs.mp (Nat.Coprime.dvd_of_dvd_mul_left g h1)
theorem low_eq {a b : Q2} (h : Low a) (g : Low b) (e : a.1 * b.2 = b.1 * a.2) : a = b := by
  have h1 := h.pos
  have g1 := g.pos
  have d1 : a.2 ∣ b.2 := by
    have : a.2 ∣ a.1 * b.2 := ⟨b.1, by rw [e, Int.mul_comm]⟩
    exact dvd_co this (by rw [Int.gcd_comm]; exact h.co)
  have d2 : b.2 ∣ a.2 := by
    have : b.2 ∣ b.1 * a.2 := ⟨a.1, by rw [← e, Int.mul_comm]⟩
    exact dvd_co this (by rw [Int.gcd_comm]; exact g.co)
  have e2 : a.2 = b.2 := Int.le_antisymm (Int.le_of_dvd g1 d1) (Int.le_of_dvd h1 d2)
  rw [e2] at e
  exact Prod.ext (Int.eq_of_mul_eq_mul_right (by omega) e) e2
theorem low_eqq {a b : Q2} (h : Low a) (g : Low b) : (decide (a.1 = b.1) && decide (a.2 = b.2)) = eqq a b := by
  unfold eqq
  by_cases e : a.1 * b.2 = b.1 * a.2
  · rw [decide_eq_true e, low_eq h g e]; simp
  · rw [decide_eq_false e]
    cases z1 : decide (a.1 = b.1) with
    | false => rfl
    | true =>
      cases z2 : decide (a.2 = b.2) with
      | false => rfl
      | true =>
        exact absurd (by rw [of_decide_eq_true z1, of_decide_eq_true z2]) e
/-! ### their values -/
/-- None, or the tuple of an end's two numbers -/
def EndV (k : Nat) (H : Hp) (v : V) : Option Q2 → Prop
  | none => v = .non
  | some a => ∃ p, v = .ref p ∧ H p = some (.tup [.int a.1, .int a.2]) ∧ 0 < a.2 ∧ Sz k a.1 ∧ Sz k a.2
theorem EndV.mono {k j : Nat} (l : k ≤ j) {H : Hp} {v : V} : ∀ {e : Option Q2}, EndV k H v e → EndV j H v e
  | none, h => h
  | some _, ⟨p, h1, h2, h3, h4, h5⟩ => ⟨p, h1, h2, h3, h4.mono l, h5.mono l⟩
def MsV (C : Addr) (H : Hp) (v : V) : Option Q2 → Prop
  | none => v = .non
  | some a => ∃ p, v = .ref p ∧ MAt C H p a.1 a.2
theorem EndV.same {k : Nat} {H H' : Hp} {v : V} : ∀ {e : Option Q2}, EndV k H v e → Same H H' → EndV k H' v e
  | none, h, _ => h
  | some _, ⟨p, h1, h2, h3⟩, s => ⟨p, h1, s _ _ h2, h3⟩
theorem EndV.kp {j : Nat} {H H' : Hp} {h : Addr} {n : Nat} {v : V} : ∀ {e : Option Q2}, EndV j H v e → HandAt H h n → Kp h H H' → EndV j H' v e
  | none, h, _, _ => h
  | some _, ⟨p, h1, h2, h3⟩, hh, k => ⟨p, h1, k.get hh h2 rfl, h3⟩
theorem MsV.same {C : Addr} {H H' : Hp} {v : V} : ∀ {e : Option Q2}, MsV C H v e → Same H H' → MsV C H' v e
  | none, h, _ => h
  | some _, ⟨p, h1, h2⟩, s => ⟨p, h1, h2.same s⟩
theorem MsV.kp {C : Addr} {H H' : Hp} {h : Addr} {n : Nat} {v : V} : ∀ {e : Option Q2}, MsV C H v e → HandAt H h n → Kp h H H' → MsV C H' v e
  | none, h, _, _ => h
  | some _, ⟨p, h1, h2⟩, hh, k => ⟨p, h1, h2.kp hh k⟩
/-! ### a Stretch -/
def sf (l h : V) (li hi : Bool) : List (Str × V) := [("low", l), ("high", h), ("low_in", .bl li), ("high_in", .bl hi)]
theorem sf_put (l h : V) (li hi : Bool) : putF "high_in" (.bl hi) (putF "low_in" (.bl li) (putF "high" h (putF "low" l []))) = sf l h li hi := by
  have e1 : putF ("high" : Str) h (putF ("low" : Str) l []) = ([("low", l), ("high", h)] : List (Str × V)) := by
    show (if ("low" : Str) = "high" then [(("low" : Str), h)] else (("low" : Str), l) :: putF "high" h []) = _
    rw [if_neg (by decide +kernel)] <;> rfl
  have e2 : putF ("low_in" : Str) (.bl li) [("low", l), ("high", h)] = ([("low", l), ("high", h), ("low_in", .bl li)] : List (Str × V)) := by
    show (if ("low" : Str) = "low_in" then _ else (("low" : Str), l) :: (if ("high" : Str) = "low_in" then _ else (("high" : Str), h) :: putF "low_in" (V.bl li) [])) = _
    rw [if_neg (by decide +kernel), if_neg (by decide +kernel)] <;> rfl
  have e3 : putF ("high_in" : Str) (.bl hi) [("low", l), ("high", h), ("low_in", .bl li)] = sf l h li hi := by
    show (if ("low" : Str) = "high_in" then _ else (("low" : Str), l) :: (if ("high" : Str) = "high_in" then _ else (("high" : Str), h) :: (if ("low_in" : Str) = "high_in" then _ else (("low_in" : Str), V.bl li) :: putF "high_in" (V.bl hi) []))) = _
    rw [if_neg (by decide +kernel), if_neg (by decide +kernel), if_neg (by decide +kernel)] <;> rfl
  rw [e1, e2, e3]
theorem sf_low (l h : V) (li hi : Bool) : (sf l h li hi).lookup ("low" : Str) = some l := by
  rw [← sf_put, lookup_putF, if_neg (by decide +kernel), lookup_putF, if_neg (by decide +kernel), lookup_putF, if_neg (by decide +kernel), lookup_putF, if_pos rfl]
theorem sf_high (l h : V) (li hi : Bool) : (sf l h li hi).lookup ("high" : Str) = some h := by
  rw [← sf_put, lookup_putF, if_neg (by decide +kernel), lookup_putF, if_neg (by decide +kernel), lookup_putF, if_pos rfl]
theorem sf_low_in (l h : V) (li hi : Bool) : (sf l h li hi).lookup ("low_in" : Str) = some (.bl li) := by
  rw [← sf_put, lookup_putF, if_neg (by decide +kernel), lookup_putF, if_pos rfl]
theorem sf_high_in (l h : V) (li hi : Bool) : (sf l h li hi).lookup ("high_in" : Str) = some (.bl hi) := by
  rw [← sf_put, lookup_putF, if_pos rfl]
theorem sf_no (l h : V) (li hi : Bool) {m : Str} (h1 : ¬ m = "low") (h2 : ¬ m = "high") (h3 : ¬ m = "low_in") (h4 : ¬ m = "high_in") : (sf l h li hi).lookup m = none := by
  rw [← sf_put, lookup_putF, if_neg h4, lookup_putF, if_neg h3, lookup_putF, if_neg h2, lookup_putF, if_neg h1] <;> rfl
/-- a Stretch at p: its ends, whether they are in -/
structure StAt (CM CS : Addr) (H : Hp) (p : Addr) (lo hi : Option Q2) (li hj : Bool) : Prop where
  ob : ∃ dx l h, H p = some (.ins CS dx (sf l h li hj)) ∧ MsV CM H l lo ∧ MsV CM H h hi
  l1 : LowO lo
  l2 : LowO hi
  n1 : lo = none → li = false
  n2 : hi = none → hj = false
theorem StAt.same {CM CS p : Addr} {H H' : Hp} {lo hi : Option Q2} {li hj : Bool} (a : StAt CM CS H p lo hi li hj) (s : Same H H') : StAt CM CS H' p lo hi li hj := by
  obtain ⟨⟨dx, l, h, h1, h2, h3⟩, a1, a2, a3, a4⟩ := a
  exact ⟨⟨dx, l, h, s _ _ h1, h2.same s, h3.same s⟩, a1, a2, a3, a4⟩
theorem StAt.kp {CM CS p h : Addr} {H H' : Hp} {n : Nat} {lo hi : Option Q2} {li hj : Bool} (a : StAt CM CS H p lo hi li hj) (hh : HandAt H h n) (s : Kp h H H') : StAt CM CS H' p lo hi li hj := by
  obtain ⟨⟨dx, l, h, h1, h2, h3⟩, a1, a2, a3, a4⟩ := a
  exact ⟨⟨dx, l, h, s.get hh h1 rfl, h2.kp hh s, h3.kp hh s⟩, a1, a2, a3, a4⟩
theorem cmpBack_of {X : Cx} {pins : List (Addr × Obj)} {σ : L2.St} {Q : VK} {u : Value} {s' : Shared} (h : EP X pins σ Q u s') : PySem.W.CmpBack (EP X pins σ Q) u s' := by
  have h0 := h
  obtain ⟨v, H', I', r, q⟩ := h
  cases v with
  | non => cases r; exact h0
  | bl _ => cases r; exact h0
  | int _ => obtain ⟨t, rfl⟩ := r; exact h0
  | str _ => obtain ⟨t, rfl⟩ := r; exact h0
  | byt _ => obtain ⟨t, rfl⟩ := r; exact h0
  | flt _ => obtain ⟨t, rfl⟩ := r; exact h0
  | ref _ => cases r; exact h0
  | ty _ => cases r; exact h0
/-- == by an own __eq__, of two instances of one class -/
theorem op_eqI {X : Cx} {CX : CXT} {n : Nat} {C f : Addr} {fd : FuncData} {ps : List Str} {sp : Sp} {E : XK} (F : FnOk X.prog X.w X.K X.mg X.base CX n f fd ps sp) (hr : Room n X.A) {ds : List Value} (hm : Meth X.K C "__eq__" f) (hb : Binds X.K fd ps ds) (hd : Vals [] ds) (hx : Passes CX X E) :
    OpR X (compareOp .Eq) (fun x y H Q => ∃ a b dx dy fs gs, x = .ref a ∧ y = .ref b ∧ H a = some (.ins C dx fs) ∧ H b = some (.ins C dy gs) ∧ sp [.ref a, .ref b] H Q E) := by
  intro pins s σ H x y v u Q I rx ry hq
  obtain ⟨a, b, dx, dy, fs, gs, rfl, rfl, ha, hb', hsp⟩ := hq
  cases rx
  cases ry
  show wpAny (model X.prog X.w) X.A (richCompare .Eq (.ref a) (.ref b)) (EP X pins σ Q) X.xe s
  obtain ⟨mA, J, _⟩ := ins_get I.hok ha
  obtain ⟨mB, J', _⟩ := ins_get I.hok hb'
  obtain ⟨od, J, _⟩ := J.look
  obtain ⟨od', J', _⟩ := J'.look
  obtain ⟨m, hF⟩ := I.fr
  refine PySem.W.cmp_K (op := .Eq) (tb := .ref C) hr.units0 hF I.ok.mod.kin J J'.type (by simp [PySem.W.notFirst]) hm.at_ hm.fn ?_
  refine thn ?_ fun u s' => cmpBack_of
  exact run_fn (us := [.ref a, .ref b]) (vs := [.ref a, .ref b]) F hr hb hd hx I (.cons rfl (.cons rfl .nil)) hsp
theorem MsV.lt_ne {C : Addr} {H : Hp} {v : V} (h : MsV C H v none) : v = .non := h
/-! ### promises -/
def sp_end : Sp := fun vs H Q _ => ∃ (h : Addr) (n : Nat), vs = [.ref h] ∧ HandAt H h n ∧ n < 100000 ∧
  ∀ (p : Addr) (a : Q2) (H' : Hp), EndV 140 H' (.ref p) (some a) → HandAt H' h (n + 3) → Kp h H H' → Q (.ref p) H'
def sp_cmp2 (f : Q2 → Q2 → Bool) : Sp := fun vs H Q _ => ∃ (va vb : V) (a b : Q2), vs = [va, vb] ∧ EndV 20000 H va (some a) ∧ EndV 20000 H vb (some b) ∧ Q (.bl (f a b)) H
def sp_lmeasure (CM : Addr) : Sp := fun vs H Q _ => ∃ (v : V) (e : Option Q2), vs = [v] ∧ EndV 4000 H v e ∧
  ∀ (v' : V) (m : Option Q2) (H' : Hp), Same H H' → MsV CM H' v' m → ReO m e → LowO m → Q v' H'
def sp_some : Sp := fun vs H Q _ => ∃ (va vb : V) (ea eb : Option Q2) (ia ib : Bool), vs = [va, vb, .bl ia, .bl ib] ∧ EndV 20000 H va ea ∧ EndV 20000 H vb eb ∧ Q (.bl (someB ea eb ia ib)) H
/-- the tuple of two ends and two truths, between which something is -/
structure EndsAt (H : Hp) (p : Addr) (ea eb : Option Q2) (ia ib : Bool) : Prop where
  ob : ∃ va vb, H p = some (.tup [va, vb, .bl ia, .bl ib]) ∧ EndV 140 H va ea ∧ EndV 140 H vb eb
  so : someB ea eb ia ib = true
theorem EndsAt.same {H H' : Hp} {p : Addr} {ea eb : Option Q2} {ia ib : Bool} (a : EndsAt H p ea eb ia ib) (s : Same H H') : EndsAt H' p ea eb ia ib := by
  obtain ⟨⟨va, vb, h1, h2, h3⟩, h4⟩ := a
  exact ⟨⟨va, vb, s _ _ h1, h2.same s, h3.same s⟩, h4⟩
theorem EndsAt.kp {H H' : Hp} {p h : Addr} {n : Nat} {ea eb : Option Q2} {ia ib : Bool} (a : EndsAt H p ea eb ia ib) (hh : HandAt H h n) (s : Kp h H H') : EndsAt H' p ea eb ia ib := by
  obtain ⟨⟨va, vb, h1, h2, h3⟩, h4⟩ := a
  exact ⟨⟨va, vb, s.get hh h1 rfl, h2.kp hh s, h3.kp hh s⟩, h4⟩
def sp_ends : Sp := fun vs H Q _ => ∃ (h : Addr) (n : Nat), vs = [.ref h] ∧ HandAt H h n ∧ n < 10000 ∧
  ∀ (p : Addr) (ea eb : Option Q2) (ia ib : Bool) (H' : Hp), EndsAt H' p ea eb ia ib → HandAt H' h (n + 9) → Kp h H H' → Q (.ref p) H'
def sp_isend (CM : Addr) : Sp := fun vs H Q _ => ∃ (v : V) (m : Option Q2), vs = [v] ∧ MsV CM H v m ∧ Q (.bl true) H
def sp_meq (CM : Addr) : Sp := fun vs H Q _ => ∃ (p q : Addr) (a b : Q2), vs = [.ref p, .ref q] ∧ MAt CM H p a.1 a.2 ∧ MAt CM H q b.1 b.2 ∧ Q (.bl (decide (a.1 = b.1) && decide (a.2 = b.2))) H
def sp_empty (CM : Addr) : Sp := fun vs H Q _ => ∃ (l h : V) (lo hi : Option Q2) (li hj : Bool), vs = [l, h, .bl li, .bl hj] ∧ MsV CM H l lo ∧ MsV CM H h hi ∧ LowO lo ∧ LowO hi ∧ Q (.bl (!someB lo hi li hj)) H
def sp_sinit (CM CS : Addr) : Sp := fun vs H Q _ => ∃ (p dx : Addr) (l h : V) (lo hi : Option Q2) (li hj : Bool), vs = [.ref p, l, h, .bl li, .bl hj] ∧ H p = some (.ins CS dx []) ∧ MsV CM H l lo ∧ MsV CM H h hi ∧ LowO lo ∧ LowO hi ∧ someB lo hi li hj = true ∧
  ∀ H', H' p = some (.ins CS dx (sf l h (li && lo.isSome) (hj && hi.isSome))) → (∀ q o, H q = some o → q ≠ p → H' q = some o) → Q .non H'
theorem MsV.put {CM p C dx : Addr} {H : Hp} {v : V} {o : HO} (hp : H p = some (.ins C dx [])) : ∀ {m : Option Q2}, MsV CM H v m → MsV CM (upd H p o) v m
  | none, h => h
  | some _, ⟨q, h1, ⟨dy, h2⟩⟩ => ⟨q, h1, ⟨dy, by
      rw [upd_ne (ne_of h2 hp (by intro e; injection e with _ _ e; cases e))]; exact h2⟩⟩
theorem StAt.mk' {CM CS p dx : Addr} {H H' : Hp} {l h : V} {lo hi : Option Q2} {li hj : Bool} (h1 : H' p = some (.ins CS dx (sf l h (li && lo.isSome) (hj && hi.isSome)))) (s : Same H H') (ml : MsV CM H l lo) (mh : MsV CM H h hi) (l1 : LowO lo) (l2 : LowO hi) :
    StAt CM CS H' p lo hi (li && lo.isSome) (hj && hi.isSome) :=
  ⟨⟨dx, l, h, h1, ml.same s, mh.same s⟩, l1, l2, fun e => by rw [e]; simp, fun e => by rw [e]; simp⟩
def sp_made (CM CS : Addr) : Sp := fun vs H Q _ => ∃ (p : Addr) (ea eb : Option Q2) (ia ib : Bool), vs = [.ref p] ∧ EndsAt H p ea eb ia ib ∧
  ∀ (r : Addr) (lo hi : Option Q2) (H' : Hp), Same H H' → StAt CM CS H' r lo hi (ia && ea.isSome) (ib && eb.isSome) → ReO lo ea → ReO hi eb → Q (.ref r) H'
theorem ReO.isS : ∀ {a b : Option Q2}, ReO a b → a.isSome = b.isSome
  | none, none, _ => rfl
  | some _, some _, _ => rfl
  | none, some _, h => h.elim
  | some _, none, h => h.elim
theorem Fr.re {t u a b : Int} (f : Fr t u a b) (hb : 0 < b) : Re (t, u) (a, b) := ⟨f.pos, hb, f.eq⟩
/-! ### what two stretches have in common -/
def cutLo : Option Q2 → Bool → Option Q2 → Bool → Option Q2 × Bool
  | none, _, n, j => (n, j)
  | some a, i, none, _ => (some a, i)
  | some a, i, some b, j => if ltq a b then (some b, j) else if eqq a b then (some a, i && j) else (some a, i)
def cutHi : Option Q2 → Bool → Option Q2 → Bool → Option Q2 × Bool
  | none, _, n, j => (n, j)
  | some a, i, none, _ => (some a, i)
  | some a, i, some b, j => if ltq b a then (some b, j) else if eqq a b then (some a, i && j) else (some a, i)
/-- the same end, and in or not alike where there is one -/
def Alike (x y : Option Q2 × Bool) : Prop := ReO x.1 y.1 ∧ (x.1.isSome = true → x.2 = y.2)
theorem Alike.flag {x y : Option Q2 × Bool} (h : Alike x y) : (x.2 && x.1.isSome) = (y.2 && y.1.isSome) := by
  obtain ⟨h1, h2⟩ := h
  rw [← h1.isS]
  cases e : x.1.isSome with
  | true => rw [h2 e]
  | false => simp
theorem Alike.someB {x y z w : Option Q2 × Bool} (h : Alike x y) (g : Alike z w) : My.someB x.1 z.1 x.2 z.2 = My.someB y.1 w.1 y.2 w.2 := by
  obtain ⟨x, i⟩ := x
  obtain ⟨y, j⟩ := y
  obtain ⟨z, k⟩ := z
  obtain ⟨w, l⟩ := w
  obtain ⟨h1, h2⟩ := h
  obtain ⟨g1, g2⟩ := g
  rw [someB_congr h1 g1]
  cases x with
  | none => cases y with
    | none => rfl
    | some _ => exact h1.elim
  | some a => cases z with
    | none => cases w with
      | none => cases y <;> rfl
      | some _ => exact g1.elim
    | some b =>
      have e1 : i = j := h2 rfl
      have e2 : k = l := g2 rfl
      rw [e1, e2]
theorem Alike.norm {a b : Option Q2} {i : Bool} (h : ReO a b) : Alike (a, i && b.isSome) (b, i) := ⟨h, fun e => by
  have e1 : a.isSome = true := e
  rw [h.isS] at e1
  show (i && b.isSome) = i
  rw [e1]; simp⟩
theorem cutLo_alike {x y z w : Option Q2 × Bool} (h : Alike x y) (g : Alike z w) : Alike (cutLo x.1 x.2 z.1 z.2) (cutLo y.1 y.2 w.1 w.2) := by
  obtain ⟨x, i⟩ := x
  obtain ⟨y, j⟩ := y
  obtain ⟨z, k⟩ := z
  obtain ⟨w, l⟩ := w
  obtain ⟨h1, h2⟩ := h
  obtain ⟨g1, g2⟩ := g
  cases x with
  | none => cases y with
    | none => exact ⟨g1, g2⟩
    | some _ => exact h1.elim
  | some a => cases y with
    | none => exact h1.elim
    | some a' => cases z with
      | none => cases w with
        | none => exact ⟨h1, h2⟩
        | some _ => exact g1.elim
      | some b => cases w with
        | none => exact g1.elim
        | some b' =>
          have e1 : i = j := h2 rfl
          have e2 : k = l := g2 rfl
          show Alike (if ltq a b then (some b, k) else if eqq a b then (some a, i && k) else (some a, i)) (if ltq a' b' then (some b', l) else if eqq a' b' then (some a', j && l) else (some a', j))
          rw [ltq_congr h1 g1, eqq_congr h1 g1, e1, e2]
          split
          · exact ⟨g1, fun _ => rfl⟩
          · split
            · exact ⟨h1, fun _ => rfl⟩
            · exact ⟨h1, fun _ => rfl⟩
theorem cutHi_alike {x y z w : Option Q2 × Bool} (h : Alike x y) (g : Alike z w) : Alike (cutHi x.1 x.2 z.1 z.2) (cutHi y.1 y.2 w.1 w.2) := by
  obtain ⟨x, i⟩ := x
  obtain ⟨y, j⟩ := y
  obtain ⟨z, k⟩ := z
  obtain ⟨w, l⟩ := w
  obtain ⟨h1, h2⟩ := h
  obtain ⟨g1, g2⟩ := g
  cases x with
  | none => cases y with
    | none => exact ⟨g1, g2⟩
    | some _ => exact h1.elim
  | some a => cases y with
    | none => exact h1.elim
    | some a' => cases z with
      | none => cases w with
        | none => exact ⟨h1, h2⟩
        | some _ => exact g1.elim
      | some b => cases w with
        | none => exact g1.elim
        | some b' =>
          have e1 : i = j := h2 rfl
          have e2 : k = l := g2 rfl
          show Alike (if ltq b a then (some b, k) else if eqq a b then (some a, i && k) else (some a, i)) (if ltq b' a' then (some b', l) else if eqq a' b' then (some a', j && l) else (some a', j))
          rw [ltq_congr g1 h1, eqq_congr h1 g1, e1, e2]
          split
          · exact ⟨g1, fun _ => rfl⟩
          · split
            · exact ⟨h1, fun _ => rfl⟩
            · exact ⟨h1, fun _ => rfl⟩
theorem cutLo_low {a b : Option Q2} {i j : Bool} (h : LowO a) (g : LowO b) : LowO (cutLo a i b j).1 := by
  cases a with
  | none => exact g
  | some a => cases b with
    | none => exact h
    | some b =>
      show LowO (if ltq a b then (some b, j) else if eqq a b then (some a, i && j) else (some a, i)).1
      split
      · exact g
      · split <;> exact h
theorem cutHi_low {a b : Option Q2} {i j : Bool} (h : LowO a) (g : LowO b) : LowO (cutHi a i b j).1 := by
  cases a with
  | none => exact g
  | some a => cases b with
    | none => exact h
    | some b =>
      show LowO (if ltq b a then (some b, j) else if eqq a b then (some a, i && j) else (some a, i)).1
      split
      · exact g
      · split <;> exact h
def sp_cutEnd (CM CS : Addr) (f : Option Q2 → Option Q2 → Bool → Bool → Option Q2 → Option Q2 → Bool → Bool → Option Q2 × Bool) : Sp := fun vs H Q _ => ∃ (p q : Addr) (m1 m2 n1 n2 : Option Q2) (i1 i2 j1 j2 : Bool), vs = [.ref p, .ref q] ∧ StAt CM CS H p m1 m2 i1 i2 ∧ StAt CM CS H q n1 n2 j1 j2 ∧
  ∀ (r : Addr) (v : V) (H' : Hp), Same H H' → H' r = some (.tup [v, .bl (f m1 m2 i1 i2 n1 n2 j1 j2).2]) → MsV CM H' v (f m1 m2 i1 i2 n1 n2 j1 j2).1 → Q (.ref r) H'
/-- a Stretch, or None where nothing is between -/
def CutV (CM CS : Addr) (H : Hp) (v : V) (lo hi : Option Q2 × Bool) : Prop :=
  (someB lo.1 hi.1 lo.2 hi.2 = true ∧ ∃ r, v = .ref r ∧ StAt CM CS H r lo.1 hi.1 (lo.2 && lo.1.isSome) (hi.2 && hi.1.isSome)) ∨ (someB lo.1 hi.1 lo.2 hi.2 = false ∧ v = .non)
def sp_cutS (CM CS : Addr) : Sp := fun vs H Q _ => ∃ (p q : Addr) (m1 m2 n1 n2 : Option Q2) (i1 i2 j1 j2 : Bool), vs = [.ref p, .ref q] ∧ StAt CM CS H p m1 m2 i1 i2 ∧ StAt CM CS H q n1 n2 j1 j2 ∧
  ∀ (v : V) (H' : Hp), Same H H' → CutV CM CS H' v (cutLo m1 i1 n1 j1) (cutHi m2 i2 n2 j2) → Q v H'
/-- the law's own: a tuple of four, or None -/
def DueV (H : Hp) (v : V) (lo hi : Option Q2 × Bool) : Prop :=
  (someB lo.1 hi.1 lo.2 hi.2 = true ∧ ∃ r, v = .ref r ∧ EndsAt H r lo.1 hi.1 lo.2 hi.2) ∨ (someB lo.1 hi.1 lo.2 hi.2 = false ∧ v = .non)
theorem DueV.same {H H' : Hp} {v : V} {lo hi : Option Q2 × Bool} (h : DueV H v lo hi) (s : Same H H') : DueV H' v lo hi := by
  rcases h with ⟨h1, r, h2, h3⟩ | h
  · exact .inl ⟨h1, r, h2, h3.same s⟩
  · exact .inr h
theorem CutV.same {CM CS : Addr} {H H' : Hp} {v : V} {lo hi : Option Q2 × Bool} (h : CutV CM CS H v lo hi) (s : Same H H') : CutV CM CS H' v lo hi := by
  rcases h with ⟨h1, r, h2, h3⟩ | h
  · exact .inl ⟨h1, r, h2, h3.same s⟩
  · exact .inr h
def sp_lcut : Sp := fun vs H Q _ => ∃ (p q : Addr) (ea eb fa fb : Option Q2) (ia ib ja jb : Bool), vs = [.ref p, .ref q] ∧ EndsAt H p ea eb ia ib ∧ EndsAt H q fa fb ja jb ∧
  ∀ (v : V) (H' : Hp), Same H H' → DueV H' v (cutLo ea ia fa ja) (cutHi eb ib fb jb) → Q v H'
def sp_pair : Sp := fun vs H Q _ => ∃ (h : Addr) (n : Nat), vs = [.ref h] ∧ HandAt H h n ∧ n < 1000 ∧
  ∀ (r p q : Addr) (ea eb fa fb : Option Q2) (ia ib ja jb : Bool) (H' : Hp), H' r = some (.tup [.ref p, .ref q]) → EndsAt H' p ea eb ia ib → EndsAt H' q fa fb ja jb → HandAt H' h (n + 19) → Kp h H H' → Q (.ref r) H'
def sp_kept (CM : Addr) : Sp := fun vs H Q _ => ∃ (v w : V) (e m : Option Q2), vs = [v, w] ∧ EndV 140 H v e ∧ MsV CM H w m ∧ ReO m e ∧ LowO m ∧ ∀ H', Same H H' → Q (.bl true) H'
def sp_truth : Sp := fun vs H Q _ => ∃ b c : Bool, vs = [.bl b, .bl c] ∧ Q (.bl (decide (b = c))) H
/-- what is told is what is due -/
def Match (CM CS : Addr) (H : Hp) (found due : V) : Prop :=
  (found = .non ∧ due = .non) ∨ ∃ (r d : Addr) (lo hi ea eb : Option Q2) (ia ib : Bool), found = .ref r ∧ due = .ref d ∧ EndsAt H d ea eb ia ib ∧ StAt CM CS H r lo hi (ia && ea.isSome) (ib && eb.isSome) ∧ ReO lo ea ∧ ReO hi eb
theorem Match.same {CM CS : Addr} {H H' : Hp} {f d : V} (h : Match CM CS H f d) (s : Same H H') : Match CM CS H' f d := by
  rcases h with h | ⟨r, d, lo, hi, ea, eb, ia, ib, h1, h2, h3, h4, h5, h6⟩
  · exact .inl h
  · exact .inr ⟨r, d, lo, hi, ea, eb, ia, ib, h1, h2, h3.same s, h4.same s, h5, h6⟩
theorem match_of {CM CS : Addr} {H : Hp} {f d : V} {x y z w : Option Q2 × Bool} (c : CutV CM CS H f x z) (g : DueV H d y w) (h1 : Alike x y) (h2 : Alike z w) : Match CM CS H f d := by
  have e := h1.someB h2
  rcases c with ⟨c1, r, c2, c3⟩ | ⟨c1, c2⟩
  · rcases g with ⟨g1, t, g2, g3⟩ | ⟨g1, g2⟩
    · rw [h1.flag, h2.flag] at c3
      exact .inr ⟨r, t, _, _, _, _, _, _, c2, g2, g3, c3, h1.1, h2.1⟩
    · rw [e, g1] at c1; cases c1
  · rcases g with ⟨g1, t, g2, g3⟩ | ⟨g1, g2⟩
    · rw [e, g1] at c1; cases c1
    · exact .inl ⟨c2, g2⟩
def sp_right (CM CS : Addr) : Sp := fun vs H Q _ => ∃ f d : V, vs = [f, d] ∧ Match CM CS H f d ∧ ∀ H', Same H H' → Q (.bl true) H'
theorem decB (b c : Bool) : decide (V.bl b = V.bl c) = decide (b = c) := by
  cases b <;> cases c <;> decide
/-- a comprehension over a tuple whose elements are reckoned without a change of what stands -/
theorem lcsT {K : PySem.W.Frag} {a : Addr} {xs : List V} {g : TG} {tt : TT} {te : TE} {vs : List Nat} {σ : L2.St} {H1 : Hp} {D : Addr} {Qd : Hp → Prop} (ys : List V) (hlen : ys.length = xs.length) (hz : ys.length < sizeLine) (hS : SqT K H1 a xs) (hD : H1 D = none)
    (hs : ∀ (i : Nat) (x y : V) (H : Hp) (N : VK) (M : Hp → Prop), xs[i]? = some x → ys[i]? = some y → Same H1 H → (∀ H4, Same H H4 → N y H4) → g x (wipe σ vs) H fun σ2 H2 => wipe σ2 vs = wipe σ vs ∧ tt σ2 H2 fun b H3 => if b = true then te σ2 H3 N else M H3)
    (hd : ∀ H, Same H1 H → H D = some (.lst ys) → Qd H) :
    ∃ W : Nat → Nat → Hp → Prop, (∃ m, W 0 m (upd H1 D (.lst []))) ∧ ∀ i m H, W i m H →
      ((Itt K a).stop i H ∧ Qd H) ∨ ((Itt K a).go i H ∧ ∃ Nx : Hp → Prop, (∀ H', Nx H' → ∃ m', m' < m ∧ W (i + 1) m' H') ∧ ∀ x H', (Itt K a).yld i H x H' → g x (wipe σ vs) H' fun σ2 H2 => wipe σ2 vs = wipe σ vs ∧ tt σ2 H2 fun b H3 =>
        if b = true then te σ2 H3 fun y H4 => ∃ acc, H4 D = some (.lst acc) ∧ acc.length < sizeLine ∧ Nx (upd H4 D (.lst (acc ++ [y]))) else Nx H3) := by
  refine lc_tup (fun i H => Same H1 H ∧ H D = some (.lst (ys.take i))) ⟨same1 hD, upd_same⟩ (fun i H _ p => p.1.sqt hS) (fun i x H hx p => ?_) (fun H p => hd H p.1 ?_)
  · have hi : i < ys.length := by rw [hlen]; exact (List.getElem?_eq_some_iff.mp hx).1
    refine hs i x ys[i] H _ _ hx (List.getElem?_eq_getElem hi) p.1 fun H4 s4 => ⟨_, s4 _ _ p.2, ?_, ?_, ?_⟩
    · rw [List.length_take]; omega
    · intro c o e
      rw [upd_ne (ne_of_none e hD)]
      exact s4 _ _ (p.1 _ _ e)
    · rw [upd_same, List.take_add_one, List.getElem?_eq_getElem hi]
      rfl
  · have e := p.2
    rw [← hlen, List.take_length] at e
    exact e
theorem Re.trans {a b c : Q2} (h : Re a b) (g : Re b c) : Re a c := by
  obtain ⟨h1, h2, h3⟩ := h
  obtain ⟨g1, g2, g3⟩ := g
  refine ⟨h1, g2, Int.eq_of_mul_eq_mul_right (show b.2 ≠ 0 by omega) ?_⟩
  grind
theorem ReO.trans : ∀ {a b c : Option Q2}, ReO a b → ReO b c → ReO a c
  | none, none, none, _, _ => trivial
  | some _, some _, some _, h, g => Re.trans h g
  | none, some _, _, h, _ => h.elim
  | some _, none, _, h, _ => h.elim
  | none, none, some _, _, g => g.elim
  | some _, some _, none, _, g => g.elim
def PosO : Option Q2 → Prop
  | none => True
  | some a => 0 < a.2
theorem LowO.posO : ∀ {a : Option Q2}, LowO a → PosO a
  | none, _ => trivial
  | some _, h => Low.pos h
theorem ReO.refl : ∀ {a : Option Q2}, PosO a → ReO a a
  | none, _ => trivial
  | some _, h => Re.refl h
theorem Alike.trans {x y z : Option Q2 × Bool} (h : Alike x y) (g : Alike y z) : Alike x z := ⟨h.1.trans g.1, fun e => (h.2 e).trans (g.2 (by rw [← h.1.isS]; exact e))⟩
theorem Alike.normL {x y : Option Q2 × Bool} (h : Alike x y) : Alike (x.1, x.2 && x.1.isSome) y := ⟨h.1, fun e => by
  have e1 : x.1.isSome = true := e
  show (x.2 && x.1.isSome) = y.2
  rw [e1, h.2 e1]; simp⟩
theorem cutLo_comm {a b : Option Q2} {i j : Bool} (ha : PosO a) (hb : PosO b) : Alike (cutLo b j a i) (cutLo a i b j) := by
  cases a with
  | none => cases b with
    | none => exact ⟨trivial, fun e => nomatch e⟩
    | some b => exact ⟨Re.refl hb, fun _ => rfl⟩
  | some a => cases b with
    | none => exact ⟨Re.refl ha, fun _ => rfl⟩
    | some b =>
      show Alike (if ltq b a then (some a, i) else if eqq b a then (some b, j && i) else (some b, j)) (if ltq a b then (some b, j) else if eqq a b then (some a, i && j) else (some a, i))
      rw [eqq_comm b a]
      rcases lt_tri a b with ⟨h1, h2, h3⟩ | ⟨h1, h2, h3⟩ | ⟨h1, h2, h3⟩
      · rw [h1, h2, h3]; exact ⟨Re.refl hb, fun _ => rfl⟩
      · rw [h1, h2, h3]; exact ⟨⟨hb, ha, (of_decide_eq_true h2).symm⟩, fun _ => Bool.and_comm _ _⟩
      · rw [h1, h2, h3]; exact ⟨Re.refl ha, fun _ => rfl⟩
theorem cutHi_comm {a b : Option Q2} {i j : Bool} (ha : PosO a) (hb : PosO b) : Alike (cutHi b j a i) (cutHi a i b j) := by
  cases a with
  | none => cases b with
    | none => exact ⟨trivial, fun e => nomatch e⟩
    | some b => exact ⟨Re.refl hb, fun _ => rfl⟩
  | some a => cases b with
    | none => exact ⟨Re.refl ha, fun _ => rfl⟩
    | some b =>
      show Alike (if ltq a b then (some a, i) else if eqq b a then (some b, j && i) else (some b, j)) (if ltq b a then (some b, j) else if eqq a b then (some a, i && j) else (some a, i))
      rw [eqq_comm b a]
      rcases lt_tri a b with ⟨h1, h2, h3⟩ | ⟨h1, h2, h3⟩ | ⟨h1, h2, h3⟩
      · rw [h1, h2, h3]; exact ⟨Re.refl ha, fun _ => rfl⟩
      · rw [h1, h2, h3]; exact ⟨⟨hb, ha, (of_decide_eq_true h2).symm⟩, fun _ => Bool.and_comm _ _⟩
      · rw [h1, h2, h3]; exact ⟨Re.refl hb, fun _ => rfl⟩
theorem cutLo_self {a : Option Q2} {i : Bool} (ha : PosO a) : Alike (cutLo a i a i) (a, i) := by
  cases a with
  | none => exact ⟨trivial, fun e => nomatch e⟩
  | some a =>
    have e : eqq a a = true := decide_eq_true rfl
    have f : ltq a a = false := decide_eq_false (by omega)
    show Alike (if ltq a a then (some a, i) else if eqq a a then (some a, i && i) else (some a, i)) _
    rw [e, f]
    exact ⟨Re.refl ha, fun _ => Bool.and_self _⟩
theorem cutHi_self {a : Option Q2} {i : Bool} (ha : PosO a) : Alike (cutHi a i a i) (a, i) := by
  cases a with
  | none => exact ⟨trivial, fun e => nomatch e⟩
  | some a =>
    have e : eqq a a = true := decide_eq_true rfl
    have f : ltq a a = false := decide_eq_false (by omega)
    show Alike (if ltq a a then (some a, i) else if eqq a a then (some a, i && i) else (some a, i)) _
    rw [e, f]
    exact ⟨Re.refl ha, fun _ => Bool.and_self _⟩
theorem StAt.raw {CM CS p : Addr} {H : Hp} {lo hi : Option Q2} {li hj : Bool} (a : StAt CM CS H p lo hi li hj) {m : Str} (h1 : ¬ m = "low") (h2 : ¬ m = "high") (h3 : ¬ m = "low_in") (h4 : ¬ m = "high_in") : ∃ dx fs, H p = some (.ins CS dx fs) ∧ fs.lookup m = none := by
  obtain ⟨⟨dx, l, h, e, _⟩, _⟩ := a
  exact ⟨dx, _, e, sf_no _ _ _ _ h1 h2 h3 h4⟩
theorem EndsAt.due {H : Hp} {p : Addr} {ea eb : Option Q2} {ia ib : Bool} (a : EndsAt H p ea eb ia ib) : DueV H (.ref p) (ea, ia) (eb, ib) := .inl ⟨a.so, p, rfl, a⟩
/-! ### what a stretch holds -/
def loIn : Option Q2 → Bool → Q2 → Bool
  | none, _, _ => true
  | some a, i, x => ltq a x || (i && eqq a x)
def hiIn : Option Q2 → Bool → Q2 → Bool
  | none, _, _ => true
  | some b, j, x => ltq x b || (j && eqq x b)
theorem ltq_trans {a b c : Q2} (hb : 0 < b.2) (ha : 0 < a.2) (hc : 0 < c.2) (h : ltq a b = true) (g : ltq b c = true) : ltq a c = true := by
  unfold ltq at *
  have h := of_decide_eq_true h
  have g := of_decide_eq_true g
  refine decide_eq_true ?_
  have h2 := Int.mul_lt_mul_of_pos_right h hc
  have g2 := Int.mul_lt_mul_of_pos_right g ha
  have e1 : b.1 * a.2 * c.2 = b.1 * c.2 * a.2 := by simp only [Int.mul_assoc, Int.mul_comm, Int.mul_left_comm]
  rw [e1] at h2
  have k := Int.lt_trans h2 g2
  have e2 : a.1 * b.2 * c.2 = a.1 * c.2 * b.2 := by simp only [Int.mul_assoc, Int.mul_comm, Int.mul_left_comm]
  have e3 : c.1 * b.2 * a.2 = c.1 * a.2 * b.2 := by simp only [Int.mul_assoc, Int.mul_comm, Int.mul_left_comm]
  rw [e2, e3] at k
  exact Int.lt_of_mul_lt_mul_right k (Int.le_of_lt hb)
theorem eqq_re {a b : Q2} (ha : 0 < a.2) (hb : 0 < b.2) (h : eqq a b = true) : Re a b := ⟨ha, hb, of_decide_eq_true h⟩
theorem loIn_alike {x y : Option Q2 × Bool} {q r : Q2} (h : Alike x y) (g : Re q r) : loIn x.1 x.2 q = loIn y.1 y.2 r := by
  obtain ⟨x, i⟩ := x
  obtain ⟨y, j⟩ := y
  obtain ⟨h1, h2⟩ := h
  cases x with
  | none => cases y with
    | none => rfl
    | some _ => exact h1.elim
  | some a => cases y with
    | none => exact h1.elim
    | some b =>
      have e : i = j := h2 rfl
      show (ltq a q || (i && eqq a q)) = (ltq b r || (j && eqq b r))
      rw [ltq_congr h1 g, eqq_congr h1 g, e]
theorem hiIn_alike {x y : Option Q2 × Bool} {q r : Q2} (h : Alike x y) (g : Re q r) : hiIn x.1 x.2 q = hiIn y.1 y.2 r := by
  obtain ⟨x, i⟩ := x
  obtain ⟨y, j⟩ := y
  obtain ⟨h1, h2⟩ := h
  cases x with
  | none => cases y with
    | none => rfl
    | some _ => exact h1.elim
  | some a => cases y with
    | none => exact h1.elim
    | some b =>
      have e : i = j := h2 rfl
      show (ltq q a || (i && eqq q a)) = (ltq r b || (j && eqq r b))
      rw [ltq_congr g h1, eqq_congr g h1, e]
theorem loIn_up {a b x : Q2} {i j : Bool} (ha : 0 < a.2) (hb : 0 < b.2) (hx : 0 < x.2) (h : ltq a b = true) (g : (ltq b x || (j && eqq b x)) = true) : (ltq a x || (i && eqq a x)) = true := by
  have e : ltq a x = true := by
    cases e1 : ltq b x with
    | true => exact ltq_trans hb ha hx h e1
    | false =>
      rw [e1, Bool.false_or] at g
      have e2 := (Bool.and_eq_true_iff.mp g).2
      rw [← ltq_congr (Re.refl ha) (eqq_re hb hx e2)]
      exact h
  rw [e]; rfl
theorem hiIn_up {a b x : Q2} {i j : Bool} (ha : 0 < a.2) (hb : 0 < b.2) (hx : 0 < x.2) (h : ltq b a = true) (g : (ltq x b || (j && eqq x b)) = true) : (ltq x a || (i && eqq x a)) = true := by
  have e : ltq x a = true := by
    cases e1 : ltq x b with
    | true => exact ltq_trans hb hx ha e1 h
    | false =>
      rw [e1, Bool.false_or] at g
      have e2 := (Bool.and_eq_true_iff.mp g).2
      rw [ltq_congr (eqq_re hx hb e2) (Re.refl ha)]
      exact h
  rw [e]; rfl
theorem cutLo_in {a b : Option Q2} {i j : Bool} {x : Q2} (ha : PosO a) (hb : PosO b) (hx : 0 < x.2) : loIn (cutLo a i b j).1 (cutLo a i b j).2 x = (loIn a i x && loIn b j x) := by
  cases a with
  | none => rfl
  | some a => cases b with
    | none => exact (Bool.and_true _).symm
    | some b =>
      show loIn (if ltq a b then (some b, j) else if eqq a b then (some a, i && j) else (some a, i)).1 (if ltq a b then (some b, j) else if eqq a b then (some a, i && j) else (some a, i)).2 x = ((ltq a x || (i && eqq a x)) && (ltq b x || (j && eqq b x)))
      rcases lt_tri a b with ⟨h1, h2, h3⟩ | ⟨h1, h2, h3⟩ | ⟨h1, h2, h3⟩
      · rw [h1]
        show (ltq b x || (j && eqq b x)) = _
        cases e : (ltq b x || (j && eqq b x)) with
        | false => simp
        | true => rw [loIn_up ha hb hx h1 e]; rfl
      · rw [h1, h2]
        show (ltq a x || (i && j && eqq a x)) = _
        have r := eqq_re ha hb h2
        rw [← ltq_congr r (Re.refl hx), ← eqq_congr r (Re.refl hx)]
        cases ltq a x <;> cases eqq a x <;> cases i <;> cases j <;> rfl
      · rw [h1, h2]
        show (ltq a x || (i && eqq a x)) = _
        cases e : (ltq a x || (i && eqq a x)) with
        | false => rfl
        | true => rw [loIn_up hb ha hx h3 e]; rfl
theorem cutHi_in {a b : Option Q2} {i j : Bool} {x : Q2} (ha : PosO a) (hb : PosO b) (hx : 0 < x.2) : hiIn (cutHi a i b j).1 (cutHi a i b j).2 x = (hiIn a i x && hiIn b j x) := by
  cases a with
  | none => rfl
  | some a => cases b with
    | none => exact (Bool.and_true _).symm
    | some b =>
      show hiIn (if ltq b a then (some b, j) else if eqq a b then (some a, i && j) else (some a, i)).1 (if ltq b a then (some b, j) else if eqq a b then (some a, i && j) else (some a, i)).2 x = ((ltq x a || (i && eqq x a)) && (ltq x b || (j && eqq x b)))
      rcases lt_tri a b with ⟨h1, h2, h3⟩ | ⟨h1, h2, h3⟩ | ⟨h1, h2, h3⟩
      · rw [h3, h2]
        show (ltq x a || (i && eqq x a)) = _
        cases e : (ltq x a || (i && eqq x a)) with
        | false => rfl
        | true => rw [hiIn_up hb ha hx h1 e]; rfl
      · rw [h3, h2]
        show (ltq x a || (i && j && eqq x a)) = _
        have r := eqq_re ha hb h2
        rw [← ltq_congr (Re.refl hx) r, ← eqq_congr (Re.refl hx) r]
        cases ltq x a <;> cases eqq x a <;> cases i <;> cases j <;> rfl
      · rw [h3]
        show (ltq x b || (j && eqq x b)) = _
        cases e : (ltq x b || (j && eqq x b)) with
        | false => simp
        | true => rw [hiIn_up ha hb hx h3 e]; rfl
/-! ### sums, once more, by the size of the new bottom -/
def sp_bin2 (C : Addr) (f g : Int → Int → Int → Int → Int) : Sp := fun vs H Q _ => ∃ (p q : Addr) (t u t' u' : Int), vs = [.ref p, .ref q] ∧ MAt C H p t u ∧ MAt C H q t' u' ∧ 0 < u ∧ 0 < u' ∧ Sz 100000 t ∧ Sz 100000 u ∧ Sz 100000 t' ∧ Sz 100000 u' ∧ Sz 9000 (u * u') ∧
  ∀ (r : Addr) (t2 u2 : Int) (H' : Hp), H r = none → Same H H' → MAt C H' r t2 u2 → Fr t2 u2 (f t u t' u') (g t u t' u') → Q (.ref r) H'
def sp_part2 (C : Addr) : Sp := fun vs H Q _ => ∃ (p : Addr) (t u m : Int), vs = [.ref p, .int m] ∧ MAt C H p t u ∧ 0 < u ∧ m ≠ 0 ∧ Sz 100000 t ∧ Sz 100000 u ∧ Sz 100000 m ∧ Sz 9000 (u * m) ∧
  ∀ (r : Addr) (t2 u2 : Int) (H' : Hp), H r = none → Same H H' → MAt C H' r t2 u2 → Fr t2 u2 t (u * m) → Q (.ref r) H'
/-- a Measure that the stretch holds -/
structure Held (CM : Addr) (H : Hp) (r : Addr) (x : Q2) (lo hi : Option Q2) (li hj : Bool) : Prop where
  at_ : MAt CM H r x.1 x.2
  pos : 0 < x.2
  s1 : Sz 15000 x.1
  s2 : Sz 15000 x.2
  low : loIn lo li x = true
  high : hiIn hi hj x = true
def sp_somem (CM CS : Addr) : Sp := fun vs H Q _ => ∃ (p : Addr) (lo hi : Option Q2) (li hj : Bool), vs = [.ref p] ∧ StAt CM CS H p lo hi li hj ∧ someB lo hi li hj = true ∧
  ∀ (r : Addr) (x : Q2) (H' : Hp), Same H H' → Held CM H' r x lo hi li hj → Q (.ref r) H'
def sp_meets (CM CS : Addr) : Sp := fun vs H Q _ => ∃ (p q : Addr) (m1 m2 n1 n2 : Option Q2) (i1 i2 j1 j2 : Bool), vs = [.ref p, .ref q] ∧ StAt CM CS H p m1 m2 i1 i2 ∧ StAt CM CS H q n1 n2 j1 j2 ∧
  ∀ H' : Hp, Same H H' → Q (.bl (someB (cutLo m1 i1 n1 j1).1 (cutHi m2 i2 n2 j2).1 (cutLo m1 i1 n1 j1).2 (cutHi m2 i2 n2 j2).2)) H'
/-- a Measure in both, or None -/
def ShV (CM : Addr) (H : Hp) (v : V) (m1 m2 n1 n2 : Option Q2) (i1 i2 j1 j2 : Bool) : Prop :=
  (someB (cutLo m1 i1 n1 j1).1 (cutHi m2 i2 n2 j2).1 (cutLo m1 i1 n1 j1).2 (cutHi m2 i2 n2 j2).2 = true ∧ ∃ r x, v = .ref r ∧ Held CM H r x m1 m2 i1 i2 ∧ Held CM H r x n1 n2 j1 j2) ∨
  (someB (cutLo m1 i1 n1 j1).1 (cutHi m2 i2 n2 j2).1 (cutLo m1 i1 n1 j1).2 (cutHi m2 i2 n2 j2).2 = false ∧ v = .non)
theorem Held.same {CM r : Addr} {H H' : Hp} {x : Q2} {lo hi : Option Q2} {li hj : Bool} (a : Held CM H r x lo hi li hj) (s : Same H H') : Held CM H' r x lo hi li hj := ⟨a.at_.same s, a.pos, a.s1, a.s2, a.low, a.high⟩
theorem ShV.same {CM : Addr} {H H' : Hp} {v : V} {m1 m2 n1 n2 : Option Q2} {i1 i2 j1 j2 : Bool} (a : ShV CM H v m1 m2 n1 n2 i1 i2 j1 j2) (s : Same H H') : ShV CM H' v m1 m2 n1 n2 i1 i2 j1 j2 := by
  rcases a with ⟨e, r, x, h1, h2, h3⟩ | h
  · exact .inl ⟨e, r, x, h1, h2.same s, h3.same s⟩
  · exact .inr h
def sp_shared (CM CS : Addr) : Sp := fun vs H Q _ => ∃ (p q : Addr) (m1 m2 n1 n2 : Option Q2) (i1 i2 j1 j2 : Bool), vs = [.ref p, .ref q] ∧ StAt CM CS H p m1 m2 i1 i2 ∧ StAt CM CS H q n1 n2 j1 j2 ∧
  ∀ (v : V) (H' : Hp), Same H H' → ShV CM H' v m1 m2 n1 n2 i1 i2 j1 j2 → Q v H'
theorem held_cut {CM r : Addr} {H : Hp} {x : Q2} {m1 m2 n1 n2 : Option Q2} {i1 i2 j1 j2 : Bool} (p1 : PosO m1) (p2 : PosO m2) (p3 : PosO n1) (p4 : PosO n2)
    (h : Held CM H r x (cutLo m1 i1 n1 j1).1 (cutHi m2 i2 n2 j2).1 ((cutLo m1 i1 n1 j1).2 && (cutLo m1 i1 n1 j1).1.isSome) ((cutHi m2 i2 n2 j2).2 && (cutHi m2 i2 n2 j2).1.isSome)) : Held CM H r x m1 m2 i1 i2 ∧ Held CM H r x n1 n2 j1 j2 := by
  have e1 : loIn (cutLo m1 i1 n1 j1).1 ((cutLo m1 i1 n1 j1).2 && (cutLo m1 i1 n1 j1).1.isSome) x = loIn (cutLo m1 i1 n1 j1).1 (cutLo m1 i1 n1 j1).2 x := by
    generalize cutLo m1 i1 n1 j1 = c
    obtain ⟨c, i⟩ := c
    cases c with
    | none => rfl
    | some a => show (ltq a x || ((i && true) && eqq a x)) = _; rw [Bool.and_true]; rfl
  have e2 : hiIn (cutHi m2 i2 n2 j2).1 ((cutHi m2 i2 n2 j2).2 && (cutHi m2 i2 n2 j2).1.isSome) x = hiIn (cutHi m2 i2 n2 j2).1 (cutHi m2 i2 n2 j2).2 x := by
    generalize cutHi m2 i2 n2 j2 = c
    obtain ⟨c, i⟩ := c
    cases c with
    | none => rfl
    | some a => show (ltq x a || ((i && true) && eqq x a)) = _; rw [Bool.and_true]; rfl
  have h1 := h.low
  have h2 := h.high
  rw [e1, cutLo_in p1 p3 h.pos] at h1
  rw [e2, cutHi_in p2 p4 h.pos] at h2
  obtain ⟨a1, a2⟩ := Bool.and_eq_true_iff.mp h1
  obtain ⟨b1, b2⟩ := Bool.and_eq_true_iff.mp h2
  exact ⟨⟨h.at_, h.pos, h.s1, h.s2, a1, b1⟩, ⟨h.at_, h.pos, h.s1, h.s2, a2, b2⟩⟩
def sp_lin : Sp := fun vs H Q _ => ∃ (p : Addr) (v va vb : V) (ea eb : Option Q2) (ia ib : Bool) (x : Q2), vs = [.ref p, v] ∧ H p = some (.tup [va, vb, .bl ia, .bl ib]) ∧ EndV 140 H va ea ∧ EndV 140 H vb eb ∧ EndV 20000 H v (some x) ∧ Q (.bl (loIn ea ia x && hiIn eb ib x)) H
theorem one_one {t u : Int} (f : Fr t u 1 1) : t = u := by have := f.eq; omega
theorem below_one {b : Q2} {t u t2 u2 : Int} (hb : 0 < b.2) (f : Fr t u 1 1) (g : Fr t2 u2 (b.1 * u - t * b.2) (b.2 * u)) : ltq (t2, u2) b = true := by
  have e := one_one f
  subst e
  have ht := f.pos
  have hp : 0 < b.2 * t := Int.mul_pos hb ht
  rw [ltq_congr (g.re hp) (Re.refl hb)]
  refine decide_eq_true ?_
  show (b.1 * t - t * b.2) * b.2 < b.1 * (b.2 * t)
  have h1 : 0 < t * b.2 * b.2 := Int.mul_pos (Int.mul_pos ht hb) hb
  have h2 : (b.1 * t - t * b.2) * b.2 = b.1 * (b.2 * t) - t * b.2 * b.2 := by grind
  omega
theorem above_one {a : Q2} {t u t2 u2 : Int} (ha : 0 < a.2) (f : Fr t u 1 1) (g : Fr t2 u2 (a.1 * u + t * a.2) (a.2 * u)) : ltq a (t2, u2) = true := by
  have e := one_one f
  subst e
  have ht := f.pos
  have hp : 0 < a.2 * t := Int.mul_pos ha ht
  rw [ltq_congr (Re.refl ha) (g.re hp)]
  refine decide_eq_true ?_
  show a.1 * (a.2 * t) < (a.1 * t + t * a.2) * a.2
  have h1 : 0 < t * a.2 * a.2 := Int.mul_pos (Int.mul_pos ht ha) ha
  have h2 : (a.1 * t + t * a.2) * a.2 = a.1 * (a.2 * t) + t * a.2 * a.2 := by grind
  omega
theorem mid_lt {a b : Q2} {t2 u2 t3 u3 : Int} (ha : 0 < a.2) (hb : 0 < b.2) (h : ltq a b = true) (g : Fr t2 u2 (a.1 * b.2 + b.1 * a.2) (a.2 * b.2)) (g3 : Fr t3 u3 t2 (u2 * 2)) : ltq a (t3, u3) = true ∧ ltq (t3, u3) b = true := by
  have hu := g.pos
  have hp : 0 < a.2 * b.2 := Int.mul_pos ha hb
  have e2 := g.eq
  have r1 : Re (t3, u3) (t2, u2 * 2) := g3.re (by omega)
  have r2 : Re (t2, u2 * 2) (a.1 * b.2 + b.1 * a.2, a.2 * b.2 * 2) := ⟨by show 0 < u2 * 2; omega, by show 0 < a.2 * b.2 * 2; omega, by
    show t2 * (a.2 * b.2 * 2) = (a.1 * b.2 + b.1 * a.2) * (u2 * 2)
    grind⟩
  have r := r1.trans r2
  have h := of_decide_eq_true h
  constructor
  · rw [ltq_congr (Re.refl ha) r]
    refine decide_eq_true ?_
    show a.1 * (a.2 * b.2 * 2) < (a.1 * b.2 + b.1 * a.2) * a.2
    have k := Int.mul_lt_mul_of_pos_right h ha
    have e1 : a.1 * (a.2 * b.2 * 2) = a.1 * b.2 * a.2 + a.1 * b.2 * a.2 := by grind
    have e3 : (a.1 * b.2 + b.1 * a.2) * a.2 = a.1 * b.2 * a.2 + b.1 * a.2 * a.2 := by grind
    omega
  · rw [ltq_congr r (Re.refl hb)]
    refine decide_eq_true ?_
    show (a.1 * b.2 + b.1 * a.2) * b.2 < b.1 * (a.2 * b.2 * 2)
    have k := Int.mul_lt_mul_of_pos_right h hb
    have e1 : b.1 * (a.2 * b.2 * 2) = b.1 * a.2 * b.2 + b.1 * a.2 * b.2 := by grind
    have e3 : (a.1 * b.2 + b.1 * a.2) * b.2 = a.1 * b.2 * b.2 + b.1 * a.2 * b.2 := by grind
    omega
theorem eqq_self (a : Q2) : eqq a a = true := decide_eq_true rfl
/-! ### lists of points, made in comprehensions -/
/-- all but lists stays -/
def Nl (H H' : Hp) : Prop := ∀ c o, H c = some o → notHand o = true → H' c = some o
theorem Nl.of {H H' : Hp} (s : Same H H') : Nl H H' := fun c o e _ => s c o e
theorem Nl.put {H : Hp} {l : Addr} {xs : List V} {u : HO} (h : H l = some (.lst xs)) : Nl H (upd H l u) := fun c o e no => up2 h e no
theorem EndV.nl {k : Nat} {H H' : Hp} {v : V} : ∀ {e : Option Q2}, EndV k H v e → Nl H H' → EndV k H' v e
  | none, h, _ => h
  | some _, ⟨p, h1, h2, h3⟩, s => ⟨p, h1, s _ _ h2 rfl, h3⟩
def PtV (k : Nat) (H : Hp) (v : V) : Prop := ∃ a : Q2, EndV k H v (some a)
theorem PtV.nl {k : Nat} {H H' : Hp} {v : V} (h : PtV k H v) (s : Nl H H') : PtV k H' v := by
  obtain ⟨a, h⟩ := h
  exact ⟨a, h.nl s⟩
theorem lcp {K : PySem.W.Frag} {a : Addr} {xs : List V} {g : TG} {tt : TT} {te : TE} {vs : List Nat} {σ : L2.St} {H1 : Hp} {D : Addr} {Qd : Hp → Prop} (R : Hp → V → Prop) (hR : ∀ H H' y, R H y → Nl H H' → R H' y) (hz : xs.length < sizeLine) (hS : SqL K H1 a xs) (hD : H1 D = none)
    (hs : ∀ (i : Nat) (x : V) (H : Hp) (N : VK) (M : Hp → Prop), xs[i]? = some x → Same H1 H → (∀ y H4, Same H H4 → R H4 y → N y H4) → M H → g x (wipe σ vs) H fun σ2 H2 => wipe σ2 vs = wipe σ vs ∧ tt σ2 H2 fun b H3 => if b = true then te σ2 H3 N else M H3)
    (hd : ∀ H ys, Same H1 H → H D = some (.lst ys) → ys.length ≤ xs.length → (∀ y ∈ ys, R H y) → Qd H) :
    ∃ W : Nat → Nat → Hp → Prop, (∃ m, W 0 m (upd H1 D (.lst []))) ∧ ∀ i m H, W i m H →
      ((Itl K a).stop i H ∧ Qd H) ∨ ((Itl K a).go i H ∧ ∃ Nx : Hp → Prop, (∀ H', Nx H' → ∃ m', m' < m ∧ W (i + 1) m' H') ∧ ∀ x H', (Itl K a).yld i H x H' → g x (wipe σ vs) H' fun σ2 H2 => wipe σ2 vs = wipe σ vs ∧ tt σ2 H2 fun b H3 =>
        if b = true then te σ2 H3 fun y H4 => ∃ acc, H4 D = some (.lst acc) ∧ acc.length < sizeLine ∧ Nx (upd H4 D (.lst (acc ++ [y]))) else Nx H3) := by
  refine lc_list (fun i H => Same H1 H ∧ ∃ ys, H D = some (.lst ys) ∧ ys.length ≤ i ∧ ∀ y ∈ ys, R H y) ⟨same1 hD, [], upd_same, Nat.le_refl _, fun y hy => nomatch hy⟩ (fun i H _ p => p.1.seq hS) (fun i x H hx p => ?_) (fun H p => ?_)
  · have hi : i < xs.length := (List.getElem?_eq_some_iff.mp hx).1
    obtain ⟨s1, ys, h1, h2, h3⟩ := p
    refine hs i x H _ _ hx s1 (fun y H4 s4 r4 => ⟨ys, s4 _ _ h1, by omega, ?_, ys ++ [y], upd_same, ?_, ?_⟩) ⟨s1, ys, h1, by omega, h3⟩
    · intro c o e
      rw [upd_ne (ne_of_none e hD)]
      exact s4 _ _ (s1 _ _ e)
    · rw [List.length_append, List.length_singleton]; omega
    · intro z hz
      have n4 : Nl H4 (upd H4 D (.lst (ys ++ [y]))) := Nl.put (s4 _ _ h1)
      rcases List.mem_append.mp hz with hz | hz
      · exact hR _ _ _ (hR _ _ _ (h3 z hz) (Nl.of s4)) n4
      · have : z = y := by simpa using hz
        subst this
        exact hR _ _ _ r4 n4
  · obtain ⟨s1, ys, h1, h2, h3⟩ := p
    exact hd H ys s1 h1 h2 h3
theorem lcpT {K : PySem.W.Frag} {a : Addr} {xs : List V} {g : TG} {tt : TT} {te : TE} {vs : List Nat} {σ : L2.St} {H1 : Hp} {D : Addr} {Qd : Hp → Prop} (R : Hp → V → Prop) (hR : ∀ H H' y, R H y → Nl H H' → R H' y) (hz : xs.length < sizeLine) (hS : SqT K H1 a xs) (hD : H1 D = none)
    (hs : ∀ (i : Nat) (x : V) (H : Hp) (N : VK) (M : Hp → Prop), xs[i]? = some x → Same H1 H → (∀ y H4, Same H H4 → R H4 y → N y H4) → M H → g x (wipe σ vs) H fun σ2 H2 => wipe σ2 vs = wipe σ vs ∧ tt σ2 H2 fun b H3 => if b = true then te σ2 H3 N else M H3)
    (hd : ∀ H ys, Same H1 H → H D = some (.lst ys) → ys.length ≤ xs.length → (∀ y ∈ ys, R H y) → Qd H) :
    ∃ W : Nat → Nat → Hp → Prop, (∃ m, W 0 m (upd H1 D (.lst []))) ∧ ∀ i m H, W i m H →
      ((Itt K a).stop i H ∧ Qd H) ∨ ((Itt K a).go i H ∧ ∃ Nx : Hp → Prop, (∀ H', Nx H' → ∃ m', m' < m ∧ W (i + 1) m' H') ∧ ∀ x H', (Itt K a).yld i H x H' → g x (wipe σ vs) H' fun σ2 H2 => wipe σ2 vs = wipe σ vs ∧ tt σ2 H2 fun b H3 =>
        if b = true then te σ2 H3 fun y H4 => ∃ acc, H4 D = some (.lst acc) ∧ acc.length < sizeLine ∧ Nx (upd H4 D (.lst (acc ++ [y]))) else Nx H3) := by
  refine lc_tup (fun i H => Same H1 H ∧ ∃ ys, H D = some (.lst ys) ∧ ys.length ≤ i ∧ ∀ y ∈ ys, R H y) ⟨same1 hD, [], upd_same, Nat.le_refl _, fun y hy => nomatch hy⟩ (fun i H _ p => p.1.sqt hS) (fun i x H hx p => ?_) (fun H p => ?_)
  · have hi : i < xs.length := (List.getElem?_eq_some_iff.mp hx).1
    obtain ⟨s1, ys, h1, h2, h3⟩ := p
    refine hs i x H _ _ hx s1 (fun y H4 s4 r4 => ⟨ys, s4 _ _ h1, by omega, ?_, ys ++ [y], upd_same, ?_, ?_⟩) ⟨s1, ys, h1, by omega, h3⟩
    · intro c o e
      rw [upd_ne (ne_of_none e hD)]
      exact s4 _ _ (s1 _ _ e)
    · rw [List.length_append, List.length_singleton]; omega
    · intro z hz
      have n4 : Nl H4 (upd H4 D (.lst (ys ++ [y]))) := Nl.put (s4 _ _ h1)
      rcases List.mem_append.mp hz with hz | hz
      · exact hR _ _ _ (hR _ _ _ (h3 z hz) (Nl.of s4)) n4
      · have : z = y := by simpa using hz
        subst this
        exact hR _ _ _ r4 n4
  · obtain ⟨s1, ys, h1, h2, h3⟩ := p
    exact hd H ys s1 h1 h2 h3
def sp_beside : Sp := fun vs H Q _ => ∃ (v : V) (a : Q2) (s : Int), vs = [v, .int s] ∧ EndV 140 H v (some a) ∧ 0 < s ∧ Sz 140 s ∧
  ∀ (l : Addr) (xs : List V) (H' : Hp), Same H H' → H' l = some (.lst xs) → xs.length = 2 → (∀ x ∈ xs, PtV 1000 H' x) → Q (.ref l) H'
def sp_points (sq : Hp → Addr → List V → Prop) : Sp := fun vs H Q _ => ∃ (h p : Addr) (n : Nat) (xs : List V), vs = [.ref h, .ref p] ∧ HandAt H h n ∧ n < 1000 ∧ sq H p xs ∧ xs.length ≤ 6 ∧ (∀ x ∈ xs, ∃ e, EndV 140 H x e) ∧
  ∀ (l : Addr) (ys : List V) (H' : Hp), H' l = some (.lst ys) → ys.length ≤ 100 → (∀ y ∈ ys, PtV 1000 H' y) → l ≠ h → HandAt H' h (n + 9) → Kp h H H' → Q (.ref l) H'
def sp_holds (CM CS : Addr) : Sp := fun vs H Q _ => ∃ (p q : Addr) (x : Q2) (lo hi : Option Q2) (li hj : Bool), vs = [.ref p, .ref q] ∧ StAt CM CS H p lo hi li hj ∧ MAt CM H q x.1 x.2 ∧ 0 < x.2 ∧ Sz 9000 x.1 ∧ Sz 9000 x.2 ∧ Q (.bl (loIn lo li x && hiIn hi hj x)) H
theorem lessA_eq (a b : Q2) (i : Bool) : lessA a.1 a.2 b.1 b.2 i = (ltq a b || (i && eqq a b)) := rfl
end My
namespace My
open PySem PySem.Spec PyProof.Rows L2
/-! ### errors -/
section
variable {P : Program} {w : World} {K : PySem.W.Frag} {mg : Str → Option Value} {base : Heap} {k : Nat} {f : Addr} {fd : FuncData} {ps : List Str}
/-- a def that lets nothing out keeps its promise where more may be let out -/
theorem lift {CX : CXT} {sp : Sp} (F : FnOk P w K mg base CX0 k f fd ps sp) : FnOk P w K mg base CX k f fd ps sp :=
  ⟨F.len, fun A outer s H args us vs Q E hr he hb hv hs => codeAny_mono (F.run A outer s H args us vs Q E hr he hb hv hs) fun r s' hq => by
    cases r with
    | error e => exact False.elim hq
    | ok fl => cases fl <;> exact hq⟩
theorem either {CX : CXT} {sp sp' : Sp} (F : FnOk P w K mg base CX k f fd ps sp) (G : FnOk P w K mg base CX k f fd ps sp') : FnOk P w K mg base CX k f fd ps (fun vs H Q E => sp vs H Q E ∨ sp' vs H Q E) :=
  ⟨fun vs H Q E h => h.elim (F.len vs H Q E) (G.len vs H Q E), fun A outer s H args us vs Q E hr he hb hv hs => hs.elim (F.run A outer s H args us vs Q E hr he hb hv) (G.run A outer s H args us vs Q E hr he hb hv)⟩
end
section
variable {X : Cx} {CX : CXT} {k : Nat} {f C : Addr} {fd : FuncData} {ps : List Str} {sp : Sp} {dvs : List V} {ds : List Value} {x : Str} {p pos : Pos} {e : Expr} {es : List Expr} {t : TA} {E : L2.St → XK}
/-- C(e, ..) in a body from which an error may come -/
def tMakeS (C : Addr) (sp : Sp) (dvs : List V) (E : L2.St → XK) (t : TA) : TE := fun σ H Q => t σ H fun vs H1 => ∀ x dx, H1 x = none → H1 dx = none → dx ≠ x →
  sp (.ref x :: (vs ++ dvs)) (upd (upd H1 dx (.own x)) x (.ins C dx [])) (fun v H2 => v = .non ∧ Q (.ref x) H2) (E σ)
theorem pe_makeS (M : Mk X.K C f) (F : FnOk X.prog X.w X.K X.mg X.base CX k f fd ps sp) (hr : Room (k + 1) X.A) (hg : Gl X x) (hm : X.mg x = some (.ref C)) (hb : Binds X.K fd ps ds) (hd : Vals dvs ds) (hx : ∀ σ, PassesAt CX X σ (E σ))
    (ha : PA X (e :: es) t) (hdb : (x == ("__debug__" : Str)) = false := by decide) (he : starEach (e :: es) X.env = (false, eval e X.env) :: starEach es X.env := by rfl) (hpl : (backTo pos (starEach es X.env)).any (·.1) = false := by rfl) :
    PE X (.Call (.Name x p) (e :: es) [] pos) (tMakeS C sp dvs E t) := by
  refine ⟨fun pins s0 σ H0 Q I0 h => ?_⟩
  refine wpAny_Call_Name_kw (ld_glob I0 hg hm ?_ hdb)
  refine PySem.W.callWith_K (h₀ := X.base) I0.ok.mod.kin M.kp (thn (ha.run pos pins s0 σ H0 _ I0 h) fun us s ⟨vs, H, I, r, q⟩ => ⟨I.kIn, ?_⟩) he hpl
  have hq := q (s.heap.objs.size + 1) s.heap.objs.size (I.hok.fresh (Nat.le_succ _)) (I.hok.fresh (Nat.le_refl _)) (Nat.ne_of_lt (Nat.lt_succ_self _))
  have I2 := Inv.made (C := C) I
  have r2 : Vals (V.ref (s.heap.objs.size + 1) :: (vs ++ dvs)) (Value.ref (s.heap.objs.size + 1) :: (us ++ ds)) := .cons rfl (r.append hd)
  have hl : (Value.ref (s.heap.objs.size + 1) :: us ++ ds).length = ps.length := by
    have z := r2.length
    rw [F.len _ _ _ _ hq] at z
    exact z.symm
  refine wpAny_call (make_map (f := f) I.kIn M.makes M.init (beq_iff_eq.mp M.fn) (codeAny_mono (F.run _ X.stack _ _ ⟨Value.ref (s.heap.objs.size + 1) :: us, []⟩ (Value.ref (s.heap.objs.size + 1) :: (us ++ ds)) _ _ (E σ) (hr.make C us [])
    (I2.env0.make C us []) (hb _ (Value.ref (s.heap.objs.size + 1) :: us) I2.kIn hl) r2 hq) fun r s' hq' => ?_))
  cases r with
  | error e => exact hx σ pins _ _ e s' I2 hq'
  | ok fl =>
    cases fl with
    | ret u =>
      obtain ⟨v, H', I3, rv, ev, q3⟩ := I2.after hq'
      subst ev
      exact ⟨rv, ⟨V.ref (s.heap.objs.size + 1), H', I3, rfl, q3⟩⟩
    | next => exact False.elim hq'
    | brk => exact False.elim hq'
    | cont => exact False.elim hq'
end
/-- isinstance(e, c) of the error that a suite holds, whatever it is -/
def rIsX (K : PySem.W.Frag) (cls : Value) (d : Option Addr) (a : Addr) : List V → Hp → VK → Prop := fun xs H Q => ∃ D, cls = .ref D ∧ d = none ∧ ExcC K D ∧ rIsE K D a xs H Q
theorem isX {X : Cx} {K : PySem.W.Frag} {a : Addr} {cls : Value} {d : Option Addr} {oe : Obj} {pn : List (Addr × Obj)} (hz : Zc cls d oe) (hf : ∃ vs, oe.data = .fields vs) (hK : X.K = K := by rfl) : CallR (X.suite a ((a, oe) :: pn)) (.builtin "isinstance") (rIsX K cls d a) := by
  subst hK
  intro pins s σ H xs us Q I r h
  obtain ⟨D, rfl, rfl, c, h⟩ := h
  exact call_isE c hz hf pins s σ H xs us Q I r h
def rIsXT (K : PySem.W.Frag) (cls : Value) (d : Option Addr) (a : Addr) : List V → Hp → VK → Prop := fun xs H Q => ∃ (D tp : Addr) (cs : List V) (us : List Value) (b : Bool), cls = .ref D ∧ d = none ∧ ExcC K D ∧ xs = [.ref a, .ref tp] ∧ H tp = some (.tup cs) ∧ Paired ClsV cs us ∧ PySem.W.kitAny K (.ref D) us = some b ∧ Q (.bl b) H
theorem isXT {X : Cx} {K : PySem.W.Frag} {a : Addr} {cls : Value} {d : Option Addr} {oe : Obj} {pn : List (Addr × Obj)} (hz : Zc cls d oe) (hf : ∃ vs, oe.data = .fields vs) (hK : X.K = K := by rfl) : CallR (X.suite a ((a, oe) :: pn)) (.builtin "isinstance") (rIsXT K cls d a) := by
  subst hK
  intro pins s σ H xs us Q I r h
  obtain ⟨D, tp, cs, ws, b, rfl, rfl, c, rfl, hT, kk, e, q⟩ := h
  obtain ⟨u1, u2, rfl, r1, r2⟩ := vals2 r
  cases (show u1 = Value.ref a from r1)
  cases (show u2 = Value.ref tp from r2)
  obtain ⟨hget, _⟩ := I.pin (a, oe) (List.mem_append.mpr (.inl List.mem_cons_self))
  obtain ⟨vs, hv⟩ := hf
  have J : PySem.W.InstAt s.heap a oe D none := by
    obtain ⟨oc, od, oda, osl⟩ := oe
    obtain ⟨h1, h2⟩ := hz
    dsimp only at h1 h2 hv
    subst h1 h2 hv
    exact ⟨hget, rfl, rfl, trivial⟩
  obtain ⟨_, its, rv, o, h1, h2, n, h3⟩ := (show ObjOk X.prog X.w H s.heap tp (.tup cs) from I.hok tp _ hT)
  have e3 := ClsV.all kk rv
  subst e3
  obtain ⟨oc, od, dt, sl⟩ := o
  simp only at h2 h3
  subst h2 h3
  exact PySem.W.kia_tup (PySem.W.handS_kitx_exc c.hg c.hk c.hs c.hd c.ha c.hn c.ht c.hm) I.kIn J h1 e (fun z => nomatch z) fun tk => ⟨.bl b, H, I.kept (t' := tk) fun _ _ z => z, rfl, q⟩
/-! ### several clauses, each with the error by the same name; nothing leaves -/
/-- behind a suite the name is gone -/
def endsAs (i : Nat) (D : Ends) : Ends where
  nx := fun τ G => D.nx (τ.set i none) G
  rt := D.rt
  bk := fun τ G => D.bk (τ.set i none) G
  ct := fun τ G => D.ct (τ.set i none) G
def wAll (K : PySem.W.Frag) (i : Nat) (D : Ends) : List (Value × (Addr → Value → Option Addr → TS)) → WX
  | [] => fun _ _ _ _ => False
  | (c, ts) :: r => fun cls d τ G => ∃ b, PySem.W.exmOne K cls c = some b ∧ (b = true → ∀ q, G q = none → ts q cls d (endsAs i D) (τ.set i (some (.ref q))) G) ∧ (b = false → wAll K i D r cls d τ G)
inductive Clauses (X : Cx) (n : Str) : List ExceptHandler → List (Value × (Addr → Value → Option Addr → TS)) → Prop
  | none : Clauses X n [] []
  | more {x : Str} {c : Value} {ts : Addr → Value → Option Addr → TS} {b : Stmt} {bs : List Stmt} {px ph : Pos} {hs : List ExceptHandler} {l : List (Value × (Addr → Value → Option Addr → TS))} (nm : Names X x c)
      (su : ∀ (q : Addr) (oq : Obj) (cls : Value) (d : Option Addr) (pn : List (Addr × Obj)), Zc cls d oq → (∃ vs, oq.data = .fields vs) → PSs (X.suite q ((q, oq) :: pn)) (b :: bs) (ts q cls d)) (r : Clauses X n hs l) :
      Clauses X n (.ExceptHandler (some (.Name x px)) (some n) (b :: bs) ph :: hs) ((c, ts) :: l)
theorem ps_tryAll {X : Cx} {n : Str} {i : Nat} {body : List Stmt} {h0 : ExceptHandler} {hs : List ExceptHandler} {l : List (Value × (Addr → Value → Option Addr → TS))} {pos : Pos} {tb : WX → TS}
    (stk : X.stack = X.env :: X.outer) (frm : X.env.frame = some X.env.locals) (nd : X.N.Nodup) (at_ : X.N[i]? = some n) (loc : X.env.kindOf n = some .local)
    (bd : ∀ (W : WX) (pn : List (Addr × Obj)) (xe : Value → Shared → Prop), Takes (X.tr pn xe) W → PassesOwn (model X.prog X.w) X.A X.env xe → PSs (X.tr pn xe) body (tb W)) (cl : Clauses X n (h0 :: hs) l) :
    PS X (.Try body (h0 :: hs) [] [] pos) (fun D σ H => tb (wAll X.K i D l) D σ H) := by
  refine ⟨fun pz s σ H D I hw => ?_⟩
  have okX := I.ok
  have frs_ : X.A.frames = some (X.env :: X.outer) := by rw [okX.frames, stk]
  have lc : Loc X.env.scope n := .inl loc
  refine wpAny_Try_except (wpAny_mono ((bd (wAll X.K i D l) (X.pn ++ pz) (fun e z => wpAny (model X.prog X.w) X.A (noteFrame e X.env) (fun _ z2 => wpAny (model X.prog X.w) X.A (setFlight e none)
    (fun _ z3 => wpAny (model X.prog X.w) X.A (handleBy e X.env (h0 :: hs)) (SP X pz D) X.xe z3) X.xe z2) X.xe z) (fun u z xx => ?_) PassesOwn.looking).run [] s σ H D (I.toTry _) hw) (fun fl z q => ?_) fun _ _ z => z)
  · obtain ⟨q, G0, sJ, pz', τ, G, cls, d, rfl, J', nb, up, sky, nq, os, ag, w⟩ := xx
    have J : Inv X pz τ G sJ := J'.ofTry okX
    have sk2 : Sky G0 (X.env :: X.outer) q (Zc cls d) X.env.locals z.heap := stk ▸ sky
    refine Sky.land Zc.steady frs_ frm sk2 fun g3 f3 u3 => ?_
    have J3 : Inv X pz τ G { z with heap := g3 } := J.landed nb f3.1 (up.trans u3) os ag
    obtain ⟨o3, v3, e3, z3, d3⟩ := f3.there
    have out : q ∉ frs (X.env :: X.outer) := fun hm => by
      obtain ⟨_, o', e', no⟩ := f3.2.2.1.mem hm
      rw [e3] at e'; cases e'; exact no _ d3
    have nL : q ≠ X.env.locals := fun e => out (List.mem_filterMap.mpr ⟨X.env, List.mem_cons_self, by rw [frm, e]⟩)
    have nF : q ∉ X.fs := fun hm => by
      obtain ⟨e, he, e2⟩ := List.mem_filterMap.mp hm; exact out (List.mem_filterMap.mpr ⟨e, List.mem_cons_of_mem _ he, e2⟩)
    have S3 := J3.suite e3 d3 nq nL nF
    have LT : PySem.W.Looks (model X.prog X.w) g3 (typeOf (.ref q)) cls := fun _ _ _ _ k r => wpAny_typeOf_ref (k _ _ e3) (by rw [z3.1]; exact r)
    have go : ∀ {hs2 : List ExceptHandler} {l2 : List (Value × (Addr → Value → Option Addr → TS))}, Clauses X n hs2 l2 → wAll X.K i D l2 cls d τ G → wpAny (model X.prog X.w) X.A (handleBy (.ref q) X.env hs2) (SP X pz D) X.xe { z with heap := g3 } := by
      intro hs2 l2 ck
      induction ck with
      | none => exact fun w => w.elim
      | @more x c ts b bs px ph hs3 l3 nm su r ih =>
        rintro ⟨ans, ea, yes, no⟩
        refine wpAny_handleBy_cons (codeAny_handlers_test ?_) (fun k => nomatch k)
        have LM := PySem.W.exm_one (M := model X.prog X.w) J3.kIn LT ea
        have nameIs : ∀ {R F : Value → Shared → Prop}, R c { z with heap := g3 } → wpAny (model X.prog X.w) (X.A.mark (some (.ref q))) (eval (.Name x px) X.env) R F { z with heap := g3 } := fun {R F} k => by
          obtain ⟨gl, db, m1 | ⟨m1, m2, m3⟩⟩ := nm
          · exact ld_glob (X := X.suite q ((q, o3) :: (X.pn ++ pz))) S3 gl m1 k db
          · exact ld_blt (X := X.suite q ((q, o3) :: (X.pn ++ pz))) S3 gl m1 m2 k m3 db
        refine nameIs (LM.here ?_)
        cases ans with
        | false => exact ih (no rfl)
        | true =>
          refine codeAny_handlers_suite_as (HandSPX.lands_againZ f3 fun g4 f4 u4 => ?_)
          have J4 : Inv X pz τ G { z with heap := g4 } := J.landed nb f4.1 ((up.trans u3).trans u4) os ag
          obtain ⟨o4, v4, e4, z4, d4⟩ := f4.there
          refine store_ok (X := X.suite q ((q, o4) :: (X.pn ++ pz))) (v := .ref q) (J4.suite e4 d4 nq nL nF) nd at_ lc rfl (fun s5 S5 => ?_) (.inr loc)
          refine wpAny_mono ((su q o4 cls d (X.pn ++ pz) z4 ⟨_, d4⟩).run [] s5 _ G _ S5 (yes rfl q nq)) (fun fl s6 k => ?_) fun _ _ k => k.elim
          have bye : ∀ {τ6 : L2.St} {G6 : Hp} {R : Shared → Prop}, Inv (X.suite q ((q, o4) :: (X.pn ++ pz))) [] τ6 G6 s6 → (∀ s7, Inv X pz (τ6.set i none) G6 s7 → R s7) →
              wpAny (model X.prog X.w) X.A (do bindName X.env n .none; unbindBehindTheSuite X.env n ph) (fun _ s7 => R s7) X.xe s6 := fun S6 k => gone_ok (S6.unsuite okX) nd at_ loc k
          cases fl with
          | next => obtain ⟨_, _, S6, k⟩ := k; exact bye S6 fun s7 J7 => ⟨_, _, J7, k⟩
          | brk => obtain ⟨_, _, S6, k⟩ := k; exact bye S6 fun s7 J7 => ⟨_, _, J7, k⟩
          | cont => obtain ⟨_, _, S6, k⟩ := k; exact bye S6 fun s7 J7 => ⟨_, _, J7, k⟩
          | ret u => obtain ⟨_, _, _, S6, r6, k⟩ := k; exact bye S6 fun s7 J7 => ⟨_, _, _, J7, r6, k⟩
    exact go cl w
  · cases fl with
    | next => obtain ⟨_, _, J', k⟩ := q; exact wpAny_execs_nil ⟨_, _, J'.ofTry okX, k⟩
    | brk => obtain ⟨_, _, J', k⟩ := q; exact ⟨_, _, J'.ofTry okX, k⟩
    | cont => obtain ⟨_, _, J', k⟩ := q; exact ⟨_, _, J'.ofTry okX, k⟩
    | ret u => obtain ⟨_, _, _, J', r, k⟩ := q; exact ⟨_, _, _, J'.ofTry okX, r, k⟩
/-! ### facts of error classes -/
def excCB (x : Str) : PySem.W.Frag → Bool := fun K => He.eqO (PySem.W.findIn K (.ref (He.ga K x)) "__getattribute__") (some (some (.builtin "BaseException.__getattribute__"))) && (He.eqO (PySem.W.findIn K (.ref (He.ga K x)) "__getattr__") (some none) &&
  (decide (PySem.W.subIn K (.ref (He.ga K x)) (.type "BaseException") = some true) && (PySem.W.hasDictIn K (He.ga K x) && isCB x K)))
theorem excC_ok {x : Str} {K : PySem.W.Frag} (c : excCB x K = true) : ExcC K (He.ga K x) := by
  obtain ⟨c1, c⟩ := He.ba c
  obtain ⟨c2, c⟩ := He.ba c
  obtain ⟨c3, c⟩ := He.ba c
  obtain ⟨c4, c5⟩ := He.ba c
  have z := isC_ok c5
  exact ⟨He.eqO_ok c1, He.eqO_ok c2, of_decide_eq_true c3, c4, z.ha, z.hn, z.htk, z.hm⟩
/-- an error class without an __init__ of its own, made and raised -/
structure ExcF (K : PySem.W.Frag) (C : Addr) (bm : List Value) (nw : String) : Prop where
  e : PySem.W.excIn K C bm nw = true
  k : PySem.W.keepIn K (.ref C) = true
  b : PySem.W.subIn K (.ref C) (.type "BaseException") = some true
  t : PySem.W.typeIn K (.ref C) = some (.type "type")
def excFB (x : Str) (bm : List Value) (nw : String) : PySem.W.Frag → Bool := fun K => PySem.W.excIn K (He.ga K x) bm nw && (PySem.W.keepIn K (.ref (He.ga K x)) && (decide (PySem.W.subIn K (.ref (He.ga K x)) (.type "BaseException") = some true) && decide (PySem.W.typeIn K (.ref (He.ga K x)) = some (.type "type"))))
theorem excF_ok {x : Str} {bm : List Value} {nw : String} {K : PySem.W.Frag} (c : excFB x bm nw K = true) : ExcF K (He.ga K x) bm nw := by
  obtain ⟨c1, c⟩ := He.ba c
  obtain ⟨c2, c⟩ := He.ba c
  obtain ⟨c3, c4⟩ := He.ba c
  exact ⟨c1, c2, of_decide_eq_true c3, of_decide_eq_true c4⟩
def exmB (x y : Str) (r : Bool) : PySem.W.Frag → Bool := fun K => decide (PySem.W.exmOne K (.ref (He.ga K x)) (.ref (He.ga K y)) = some r)
theorem exm_ok {x y : Str} {r : Bool} {K : PySem.W.Frag} (c : exmB x y r K = true) : PySem.W.exmOne K (.ref (He.ga K x)) (.ref (He.ga K y)) = some r := of_decide_eq_true c
/-! ### things of any kind -/
/-- a thing that is no Measure and no Stretch; h: not the hand -/
def Thing (h : Addr) (H : Hp) (v : V) : Prop := v = .non ∨ (∃ b, v = .bl b) ∨ (∃ i, v = .int i) ∨ (∃ z, v = .str z) ∨ (∃ a xs, v = .ref a ∧ a ≠ h ∧ H a = some (.lst xs)) ∨ (∃ a xs, v = .ref a ∧ H a = some (.tup xs)) ∨ (∃ a kvs, v = .ref a ∧ H a = some (.dK kvs))
theorem Thing.same {h : Addr} {H H' : Hp} {v : V} (t : Thing h H v) (s : Same H H') : Thing h H' v := by
  rcases t with t | t | t | t | ⟨a, xs, e, n, t⟩ | ⟨a, xs, e, t⟩ | ⟨a, xs, e, t⟩
  · exact .inl t
  · exact .inr (.inl t)
  · exact .inr (.inr (.inl t))
  · exact .inr (.inr (.inr (.inl t)))
  · exact .inr (.inr (.inr (.inr (.inl ⟨a, xs, e, n, s _ _ t⟩))))
  · exact .inr (.inr (.inr (.inr (.inr (.inl ⟨a, xs, e, s _ _ t⟩)))))
  · exact .inr (.inr (.inr (.inr (.inr (.inr ⟨a, xs, e, s _ _ t⟩)))))
theorem Thing.kp {h : Addr} {n : Nat} {H H' : Hp} {v : V} (t : Thing h H v) (hh : HandAt H h n) (s : Kp h H H') : Thing h H' v := by
  rcases t with t | t | t | t | ⟨a, xs, e, n, t⟩ | ⟨a, xs, e, t⟩ | ⟨a, xs, e, t⟩
  · exact .inl t
  · exact .inr (.inl t)
  · exact .inr (.inr (.inl t))
  · exact .inr (.inr (.inr (.inl t)))
  · exact .inr (.inr (.inr (.inr (.inl ⟨a, xs, e, n, s _ _ t n⟩))))
  · exact .inr (.inr (.inr (.inr (.inr (.inl ⟨a, xs, e, s.get hh t rfl⟩)))))
  · exact .inr (.inr (.inr (.inr (.inr (.inr ⟨a, xs, e, s.get hh t rfl⟩)))))
/-- its class, as isinstance asks it -/
theorem Thing.ty {K : PySem.W.Frag} {h : Addr} {H : Hp} {v : V} (t : Thing h H v) : ∃ n : String, TyX K H v (.type n) ∧ (n = "NoneType" ∨ n = "bool" ∨ n = "int" ∨ n = "str" ∨ n = "list" ∨ n = "tuple" ∨ n = "dict") := by
  rcases t with rfl | ⟨b, rfl⟩ | ⟨i, rfl⟩ | ⟨z, rfl⟩ | ⟨a, xs, rfl, n, t⟩ | ⟨a, xs, rfl, t⟩ | ⟨a, xs, rfl, t⟩
  · exact ⟨_, .base .non, .inl rfl⟩
  · exact ⟨_, .base (.bl b), .inr (.inl rfl)⟩
  · exact ⟨_, .base (.int i), .inr (.inr (.inl rfl))⟩
  · exact ⟨_, .base (.str z), .inr (.inr (.inr (.inl rfl)))⟩
  · exact ⟨_, .base (.lst t), .inr (.inr (.inr (.inr (.inl rfl))))⟩
  · exact ⟨_, .base (.tup t), .inr (.inr (.inr (.inr (.inr (.inl rfl)))))⟩
  · exact ⟨_, .base (.dK t), .inr (.inr (.inr (.inr (.inr (.inr rfl)))))⟩
theorem Thing.of_lst {h a : Addr} {H : Hp} {xs : List V} (n : a ≠ h) (e : H a = some (.lst xs)) : Thing h H (.ref a) := .inr (.inr (.inr (.inr (.inl ⟨a, xs, rfl, n, e⟩))))
theorem Thing.of_tup {h a : Addr} {H : Hp} {xs : List V} (e : H a = some (.tup xs)) : Thing h H (.ref a) := .inr (.inr (.inr (.inr (.inr (.inl ⟨a, xs, rfl, e⟩)))))
theorem Thing.of_dct {h a : Addr} {H : Hp} {xs : List (Key × V)} (e : H a = some (.dK xs)) : Thing h H (.ref a) := .inr (.inr (.inr (.inr (.inr (.inr ⟨a, xs, rfl, e⟩)))))
/-- nested: a list or a tuple, new -/
def sp_nest : Sp := fun vs H Q _ => ∃ n : Int, vs = [.int n] ∧ 1 ≤ n ∧ n ≤ 1000 ∧ ∀ (a : Addr) (xs : List V) (H' : Hp), Same H H' → H a = none → (H' a = some (.lst xs) ∨ H' a = some (.tup xs)) → Q (.ref a) H'
def sp_thing : Sp := fun vs H Q _ => ∃ (h : Addr) (n : Nat), vs = [.ref h] ∧ HandAt H h n ∧ n < 10000 ∧ ∀ (v : V) (H' : Hp), Thing h H' v → (∀ i, v ≠ .int i) → HandAt H' h (n + 2) → Kp h H H' → Q v H'
end My
namespace My
open PySem PySem.Spec PyProof.Rows L2
/-! ### == and != by an own __eq__, beside things of any kind -/
section
open AutoSeq1 (wpAny_loadPart')
theorem noEq_int (b : Int) (u : Tok) (l C dx : Addr) : Meets (Builtin.«int.__eq__» ⟨[.int b u, .ref l], []⟩) (fun _ R s => s.heap.get? l = some (PySem.W.instObj C dx) ∧ R (.ok (.ret .notImplemented)) s) :=
  .of_wp fun prog w A R s h => by
    obtain ⟨hp, g, d, tk, os⟩ := s
    obtain ⟨hl, h⟩ := h
    unfold PySem.W.instObj at hl
    wp_walk using wpAny_loadPart' hl, wpAny_load hl
    exact ⟨_, rfl, h⟩
theorem noEq_bool (b : Bool) (l C dx : Addr) : Meets (Builtin.«int.__eq__» ⟨[.bool b, .ref l], []⟩) (fun _ R s => s.heap.get? l = some (PySem.W.instObj C dx) ∧ R (.ok (.ret .notImplemented)) s) :=
  .of_wp fun prog w A R s h => by
    obtain ⟨hp, g, d, tk, os⟩ := s
    obtain ⟨hl, h⟩ := h
    unfold PySem.W.instObj at hl
    wp_walk using wpAny_loadPart' hl, wpAny_load hl
    exact ⟨_, rfl, h⟩
theorem noEq_str (b : Str) (u : Tok) (l C dx : Addr) : Meets (Builtin.«str.__eq__» ⟨[.str b u, .ref l], []⟩) (fun _ R s => s.heap.get? l = some (PySem.W.instObj C dx) ∧ R (.ok (.ret .notImplemented)) s) :=
  .of_wp fun prog w A R s h => by
    obtain ⟨hp, g, d, tk, os⟩ := s
    obtain ⟨hl, h⟩ := h
    unfold PySem.W.instObj at hl
    wp_walk using wpAny_loadPart' hl, wpAny_load hl
    exact ⟨_, rfl, h⟩
variable {prog : Program} {w : World} {A : Around} {E : Value → Shared → Prop} {s : Shared}
theorem noEq_list {l y : Addr} {R : Result → Shared → Prop} (L : PySem.W.Looks (model prog w) s.heap (isInstance (.ref y) (.type "list")) false) (h : R (.ok (.ret .notImplemented)) s) :
    wpAny (model prog w) A.in1 (Builtin.«list.__eq__» ⟨[.ref l, .ref y], []⟩) (GQ.FinOf prog w A R) (fun e s' => R (.error e) s') s := by
  obtain ⟨hp, g, d, tk, os⟩ := s
  wp_walk using L.at
  exact h
theorem noEq_tuple {l y : Addr} {R : Result → Shared → Prop} (L : PySem.W.Looks (model prog w) s.heap (isInstance (.ref y) (.type "tuple")) false) (h : R (.ok (.ret .notImplemented)) s) :
    wpAny (model prog w) A.in1 (Builtin.«tuple.__eq__» ⟨[.ref l, .ref y], []⟩) (GQ.FinOf prog w A R) (fun e s' => R (.error e) s') s := by
  obtain ⟨hp, g, d, tk, os⟩ := s
  wp_walk using L.at
  exact h
end
/-- a value of a built-in kind -/
inductive Bk (H : Hp) : V → String → Prop where
  | non : Bk H .non "NoneType"
  | bl (b : Bool) : Bk H (.bl b) "bool"
  | int (i : Int) : Bk H (.int i) "int"
  | str (z : Str) : Bk H (.str z) "str"
  | lst {a : Addr} {xs : List V} (e : H a = some (.lst xs)) : Bk H (.ref a) "list"
  | tup {a : Addr} {xs : List V} (e : H a = some (.tup xs)) : Bk H (.ref a) "tuple"
theorem Bk.ty {K : PySem.W.Frag} {H : Hp} {x : V} {T : String} (b : Bk H x T) : TyX K H x (.type T) := by
  cases b with
  | non => exact .base .non
  | bl b => exact .base (.bl b)
  | int i => exact .base (.int i)
  | str z => exact .base (.str z)
  | lst e => exact .base (.lst e)
  | tup e => exact .base (.tup e)
theorem Bk.same {H H' : Hp} {x : V} {T : String} (b : Bk H x T) (s : Same H H') : Bk H' x T := by
  cases b with
  | non => exact .non
  | bl b => exact .bl b
  | int i => exact .int i
  | str z => exact .str z
  | lst e => exact .lst (s _ _ e)
  | tup e => exact .tup (s _ _ e)
/-- the kinds that no own class stands under -/
def kinds : List String := ["NoneType", "bool", "int", "str", "list", "tuple"]
theorem Bk.mem {H : Hp} {x : V} {T : String} (b : Bk H x T) : T ∈ kinds := by
  cases b <;> simp [kinds]
/-- what == and != ask of a class with an own __eq__ and no own __ne__ -/
structure EqC (K : PySem.W.Frag) (C : Addr) : Prop where
  ne : PySem.W.findIn K (.ref C) "__ne__" = some (some (.builtin "object.__ne__"))
  ob : PySem.W.mroIn K C (.type "object") = some true
  sub : ∀ T, T ∈ kinds → PySem.W.subIn K (.ref C) (.type T) = some false
  nf : ∀ T, T ∈ kinds → PySem.W.notFirst K C (.type T) = true
  kit : ∀ T, T ∈ kinds → PySem.W.kitOne K (.type T) (.ref C) = some false
def eqCB (x : Str) : PySem.W.Frag → Bool := fun K => He.eqO (PySem.W.findIn K (.ref (He.ga K x)) "__ne__") (some (some (.builtin "object.__ne__"))) && (decide (PySem.W.mroIn K (He.ga K x) (.type "object") = some true) &&
  ((kinds.all fun T => decide (PySem.W.subIn K (.ref (He.ga K x)) (.type T) = some false)) && ((kinds.all fun T => PySem.W.notFirst K (He.ga K x) (.type T)) && (kinds.all fun T => decide (PySem.W.kitOne K (.type T) (.ref (He.ga K x)) = some false)))))
theorem eqC_ok {x : Str} {K : PySem.W.Frag} (c : eqCB x K = true) : EqC K (He.ga K x) := by
  obtain ⟨c1, c⟩ := He.ba c
  obtain ⟨c2, c⟩ := He.ba c
  obtain ⟨c3, c⟩ := He.ba c
  obtain ⟨c4, c5⟩ := He.ba c
  exact ⟨He.eqO_ok c1, of_decide_eq_true c2, fun T h => of_decide_eq_true (List.all_eq_true.mp c3 T h), fun T h => List.all_eq_true.mp c4 T h, fun T h => of_decide_eq_true (List.all_eq_true.mp c5 T h)⟩
/-- a first class beside a second one: the second is none below the first -/
def nfB (x y : Str) : PySem.W.Frag → Bool := fun K => PySem.W.notFirst K (He.ga K x) (.ref (He.ga K y))
theorem nf_ok {x y : Str} {K : PySem.W.Frag} (c : nfB x y K = true) : PySem.W.notFirst K (He.ga K x) (.ref (He.ga K y)) = true := c
section
variable {X : Cx} {pins : List (Addr × Obj)} {σ : L2.St} {H : Hp} {s : Shared} {A : Around} {E : Value → Shared → Prop}
theorem Bk.declines {x : V} {u : Value} {T : String} {y C dx : Addr} {fs : List (Str × V)} (b : Bk H x T) (I : Inv X pins σ H s) (rx : RelV x u) (hy : H y = some (.ins C dx fs)) (c : EqC X.K C) :
    s.TypeIs u T ∧ ∃ id, Slot T "__eq__" id ∧ ∀ Q' : Value → Shared → Prop, Q' .notImplemented s → wpAny (model X.prog X.w) A (call (.builtin id) [u, .ref y]) Q' E s := by
  obtain ⟨_, _, _, hg, _⟩ := (show ObjOk X.prog X.w H s.heap y (.ins C dx fs) from I.hok y _ hy)
  obtain ⟨mA, J, _⟩ := ins_get I.hok hy
  obtain ⟨od, J, _⟩ := J.look
  have sub : ∀ T, T ∈ kinds → PySem.W.Looks (model X.prog X.w) s.heap (isInstance (.ref y) (.type T)) false := fun T h => (J.type).andThen (PySem.W.looks_subIn I.kIn (c.sub T h))
  cases b with
  | non =>
    cases (show u = Value.none from rx)
    have t : s.TypeIs Value.none "NoneType" := by exact rfl
    exact ⟨t, _, F.slot_NoneType_eq, fun Q' q => call_gives F.slot_NoneType_eq t F.entry_NoneType_eq (F.args_NoneType_eq_2 _ _) (SeqAt.NoneType___eq___none_ref_0 y) q⟩
  | bl b =>
    cases (show u = Value.bool b from rx)
    have t : s.TypeIs (Value.bool b) "bool" := by exact rfl
    exact ⟨t, _, F.slot_bool_eq, fun Q' q => call_meets F.slot_bool_eq t F.entry_int_eq (F.args_int_eq_2 _ _) (noEq_bool b y C dx) ⟨hg, q⟩⟩
  | int i =>
    obtain ⟨t, e⟩ := (show ∃ t, u = Value.int i t from rx)
    subst e
    exact ⟨typeIs_int s i t, _, F.slot_int_eq, fun Q' q => call_meets F.slot_int_eq (typeIs_int s i t) F.entry_int_eq (F.args_int_eq_2 _ _) (noEq_int i t y C dx) ⟨hg, q⟩⟩
  | str z =>
    obtain ⟨t, e⟩ := (show ∃ t, u = Value.str z t from rx)
    subst e
    exact ⟨typeIs_str s z t, _, F.slot_str_eq, fun Q' q => call_meets F.slot_str_eq (typeIs_str s z t) F.entry_str_eq (F.args_str_eq_2 _ _) (noEq_str z t y C dx) ⟨hg, q⟩⟩
  | @lst a xs e =>
    cases (show u = Value.ref a from rx)
    obtain ⟨_, its, n, _, h1⟩ := (show ObjOk X.prog X.w H s.heap a (.lst xs) from I.hok a _ e)
    exact ⟨⟨_, h1, rfl⟩, _, F.slot_list_eq, fun Q' q => GQ.call_here F.slot_list_eq ⟨_, h1, rfl⟩ F.entry_list_eq (F.args_list_eq_2 _ _) (noEq_list (sub _ (by simp [kinds])) q)⟩
  | @tup a xs e =>
    cases (show u = Value.ref a from rx)
    obtain ⟨_, its, _, o, h1, h2, _⟩ := (show ObjOk X.prog X.w H s.heap a (.tup xs) from I.hok a _ e)
    exact ⟨⟨o, h1, h2⟩, _, F.slot_tuple_eq, fun Q' q => GQ.call_here F.slot_tuple_eq ⟨o, h1, h2⟩ F.entry_tuple_eq (F.args_tuple_eq_2 _ _) (noEq_tuple (sub _ (by simp [kinds])) q)⟩
end
/-- how == answers: x == y tells b, and nothing changes -/
abbrev Eqb := V → V → Hp → Bool → Prop
def RcB (X : Cx) (n : Nat) (D : Eqb) : Prop := ∀ (A : Around) (pins : List (Addr × Obj)) (s : Shared) (σ : L2.St) (H : Hp) (x y : V) (u v : Value) (b : Bool), Sub X n A → Inv X pins σ H s → RelV x u → RelV y v → D x y H b →
  wpAny (model X.prog X.w) A (richCompare .Eq u v) (fun r s' => r = .bool b ∧ Inv X pins σ H s') X.xe s
def EqB (X : Cx) (n : Nat) (D : Eqb) : Prop := ∀ (A : Around) (pins : List (Addr × Obj)) (s : Shared) (σ : L2.St) (H : Hp) (x y : V) (u v : Value) (b : Bool), Sub X n A → Inv X pins σ H s → RelV x u → RelV y v → D x y H b →
  wpAny (model X.prog X.w) A (eqBool u v) (fun r s' => r = b ∧ Inv X pins σ H s') X.xe s
def spEqB (R : Eqb) : Sp := fun vs H Q _ => ∃ x y b, vs = [x, y] ∧ R x y H b ∧ Q (.bl b) H
/-- the own object first -/
def DOwn (K : PySem.W.Frag) (C : Addr) (R : Eqb) : Eqb := fun x y H b => ∃ a dx fs tb, x = .ref a ∧ H a = some (.ins C dx fs) ∧ TyX K H y tb ∧ PySem.W.notFirst K C tb = true ∧ (x = y → b = true) ∧ R x y H b
/-- the own object behind a thing of a built-in kind -/
def DRef (C : Addr) (R : Eqb) : Eqb := fun x y H b => ∃ a dx fs T, y = .ref a ∧ H a = some (.ins C dx fs) ∧ Bk H x T ∧ (x = y → b = true) ∧ R y x H b
def DOr (D D' : Eqb) : Eqb := fun x y H b => D x y H b ∨ D' x y H b
theorem rel_ref {y : V} {a : Addr} (r : RelV y (.ref a)) : y = .ref a := by
  cases y with
  | ref b => exact congrArg V.ref (Value.ref.inj (show Value.ref a = Value.ref b from r)).symm
  | non => exact nomatch (show Value.ref a = Value.none from r)
  | bl b => exact nomatch (show Value.ref a = Value.bool b from r)
  | int i => obtain ⟨t, e⟩ := (show ∃ t, Value.ref a = Value.int i t from r); exact nomatch e
  | str z => obtain ⟨t, e⟩ := (show ∃ t, Value.ref a = Value.str z t from r); exact nomatch e
  | flt z => obtain ⟨t, e⟩ := (show ∃ t, Value.ref a = Value.float z t from r); exact nomatch e
  | byt z => obtain ⟨t, e⟩ := (show ∃ t, Value.ref a = Value.bytes z t from r); exact nomatch e
  | ty z => exact nomatch (show Value.ref a = Value.type z from r)
section
variable {X : Cx} {n : Nat} {CX : CXT} {C f : Addr} {fd : FuncData} {ps : List Str} {R D D' : Eqb} {E : XK}
theorem RcB.mono {m : Nat} (h : RcB X n D) (l : n ≤ m) : RcB X m D := fun A pins s σ H x y u v b sb I rx ry d => h A pins s σ H x y u v b (sb.mono l) I rx ry d
theorem EqB.mono {m : Nat} (h : EqB X n D) (l : n ≤ m) : EqB X m D := fun A pins s σ H x y u v b sb I rx ry d => h A pins s σ H x y u v b (sb.mono l) I rx ry d
theorem RcB.or (h : RcB X n D) (h' : RcB X n D') : RcB X n (DOr D D') := fun A pins s σ H x y u v b sb I rx ry d => d.elim (h A pins s σ H x y u v b sb I rx ry) (h' A pins s σ H x y u v b sb I rx ry)
theorem EqB.or (h : EqB X n D) (h' : EqB X n D') : EqB X n (DOr D D') := fun A pins s σ H x y u v b sb I rx ry d => d.elim (h A pins s σ H x y u v b sb I rx ry) (h' A pins s σ H x y u v b sb I rx ry)
theorem eqFn_at (F : FnOk X.prog X.w X.K X.mg X.base CX n f fd ps (spEqB R)) (hb : Binds X.K fd ps []) (hx : Passes CX X E) {A : Around} {pins : List (Addr × Obj)} {s : Shared} {σ : L2.St} {H : Hp} {x y : V} {u v : Value} {b : Bool}
    (sb : Sub X n A) (I : Inv X pins σ H s) (rx : RelV x u) (ry : RelV y v) (d : R x y H b) : wpAny (model X.prog X.w) A (call (.ref f) [u, v]) (fun r s' => r = .bool b ∧ Inv X pins σ H s') X.xe s := by
  have hsp : spEqB R [x, y] H (fun z H' => z = .bl b ∧ H' = H) E := ⟨x, y, b, rfl, d, rfl, rfl⟩
  have e := I.env0
  have e0 : Env0 X.prog X.w X.K X.mg X.base A X.stack s H := ⟨by rw [sb.fr]; exact e.frames, e.mod, e.bs, e.bsz, e.funs, e.frf, e.hok, e.bare⟩
  have hl := F.len _ _ _ _ hsp
  have r2 : Vals [x, y] [u, v] := .cons rx (.cons ry .nil)
  have hbs := hb s [u, v] I.kIn (by simpa using hl)
  rw [List.append_nil] at hbs
  refine wpAny_call (codeAny_mono (F.run A X.stack s H ⟨[u, v], []⟩ [u, v] [x, y] _ E sb.room e0 hbs r2 hsp) fun r s' hq => ?_)
  cases r with
  | error e => exact hx pins σ H s e s' I hq
  | ok fl =>
    cases fl with
    | ret w =>
      obtain ⟨z, H', I', rz, ez, eh⟩ := I.after hq
      subst ez eh
      exact ⟨rz, I'⟩
    | next => exact False.elim hq
    | brk => exact False.elim hq
    | cont => exact False.elim hq
theorem rcB_own (F : FnOk X.prog X.w X.K X.mg X.base CX n f fd ps (spEqB R)) (hm : Meth X.K C "__eq__" f) (hb : Binds X.K fd ps []) (hx : Passes CX X E) : RcB X n (DOwn X.K C R) := by
  intro A pins s σ H x y u v b sb I rx ry d
  obtain ⟨a, dx, fs, tb, rfl, ha, ty, nf, _, d⟩ := d
  cases rx
  obtain ⟨mA, J, _⟩ := ins_get I.hok ha
  obtain ⟨od, J, _⟩ := J.look
  obtain ⟨m, hF⟩ := I.fr
  obtain ⟨P, Z, p, _⟩ := kit_of I ry ty
  refine PySem.W.cmp_K (op := .Eq) (tb := tb) sb.room.units0 hF I.ok.mod.kin J (Z.ty _ _ I.kIn p) nf hm.at_ hm.fn ?_
  refine thn (eqFn_at F hb hx sb I (x := V.ref a) rfl ry d) fun r s' q => ?_
  obtain ⟨rfl, I'⟩ := q
  exact ⟨rfl, I'⟩
theorem rcB_ref (F : FnOk X.prog X.w X.K X.mg X.base CX n f fd ps (spEqB R)) (hm : Meth X.K C "__eq__" f) (c : EqC X.K C) (hb : Binds X.K fd ps []) (hx : Passes CX X E) : RcB X n (DRef C R) := by
  intro A pins s σ H x y u v b sb I rx ry d
  obtain ⟨a, dx, fs, T, rfl, ha, bk, _, d⟩ := d
  cases ry
  obtain ⟨mA, J, _⟩ := ins_get I.hok ha
  obtain ⟨od, J, _⟩ := J.look
  obtain ⟨ht, id, sl, dec⟩ := bk.declines (A := A) (E := X.xe) I rx ha c
  unfold richCompare
  simp only [ht.oneThing_none]
  refine wpAny_holding (wpAny_bind (wpAny_cRoomFor sb.room.units0 ?_))
  refine wpAny_bind (wpAny_typeOf ht (wpAny_bind (J.type.here ?_)))
  have e1 : (Value.type T != Value.ref C) = true := by rfl
  simp only [e1, if_true]
  refine wpAny_bind ((PySem.W.looks_subIn I.kIn (c.sub T bk.mem)).here ?_)
  simp only [Bool.false_eq_true, if_false, Bool.not_false, if_true]
  refine wpAny_bind (m := tryCompare u _ (.ref a)) (wpAny_tryCompare_declines ht sl (dec _ ⟨rfl, ?_⟩))
  refine wpAny_bind (m := tryCompare (.ref a) _ u) ?_
  unfold tryCompare
  refine wpAny_bind (PySem.W.ifBound_K I.kIn J hm.at_ hm.fn (thn (eqFn_at F hb hx sb I (x := V.ref a) rfl rx d) fun r s' q => ?_))
  obtain ⟨rfl, I'⟩ := q
  exact wpAny_pure (wpAny_pure ⟨rfl, I'⟩)
theorem eqB_own (h : RcB X n (DOwn X.K C R)) : EqB X n (DOwn X.K C R) := by
  intro A pins s σ H x y u v b sb I rx ry d
  have d0 := d
  obtain ⟨a, dx, fs, tb, rfl, ha, ty, nf, xy, _⟩ := d
  cases rx
  unfold eqBool
  refine wpAny_holding ?_
  refine wpAny_ite_split (fun e => ?_) (fun e => ?_)
  · have e : Value.ref a = v := eq_of_beq e
    subst e
    have e2 := rel_ref ry
    exact wpAny_bind (wpAny_rule (wpAny_pure ⟨(xy e2.symm).symm, I⟩))
  · refine wpAny_bind (thn (h A pins s σ H (.ref a) y _ v b sb I rfl ry d0) fun r s' q => ?_)
    obtain ⟨rfl, I'⟩ := q
    exact wpAny_truthy_bool ⟨rfl, I'⟩
theorem eqB_ref (h : RcB X n (DRef C R)) : EqB X n (DRef C R) := by
  intro A pins s σ H x y u v b sb I rx ry d
  have d0 := d
  obtain ⟨a, dx, fs, T, rfl, ha, bk, xy, _⟩ := d
  cases ry
  unfold eqBool
  refine wpAny_holding ?_
  refine wpAny_ite_split (fun e => ?_) (fun e => ?_)
  · have e : u = Value.ref a := eq_of_beq e
    subst e
    have e2 := rel_ref rx
    exact wpAny_bind (wpAny_rule (wpAny_pure ⟨(xy e2).symm, I⟩))
  · have go : wpAny (model X.prog X.w) A (richCompare .Eq u (.ref a) >>= fun r => truthOfDropped r) (fun r s' => r = b ∧ Inv X pins σ H s') X.xe s := by
      refine wpAny_bind (thn (h A pins s σ H x (.ref a) u _ b sb I rx rfl d0) fun r s' q => ?_)
      obtain ⟨rfl, I'⟩ := q
      exact wpAny_truthy_bool ⟨rfl, I'⟩
    cases u <;> exact go
def rEqB (D : Eqb) : R2 := fun x y H Q => ∃ b, D x y H b ∧ Q (.bl b) H
theorem op_eqB (h : RcB X n D) (hr : Room n X.A) : OpR X (compareOp .Eq) (rEqB D) := by
  intro pins s σ H x y u v Q I rx ry hq
  obtain ⟨b, d, q⟩ := hq
  show wpAny (model X.prog X.w) X.A (richCompare .Eq u v) (EP X pins σ Q) X.xe s
  refine thn (h X.A pins s σ H x y u v b ⟨hr, rfl⟩ I rx ry d) fun r s' z => ?_
  obtain ⟨rfl, I'⟩ := z
  exact ⟨.bl b, H, I', rfl, q⟩
/-- x != y, by the own == of x turned about -/
theorem op_neB (F : FnOk X.prog X.w X.K X.mg X.base CX n f fd ps (spEqB R)) (hm : Meth X.K C "__eq__" f) (c : EqC X.K C) (hb : Binds X.K fd ps []) (hx : Passes CX X E) (hr : Room (n + 1) X.A) :
    OpR X (compareOp .NotEq) (fun x y H Q => ∃ b, DOwn X.K C R x y H b ∧ Q (.bl (!b)) H) := by
  intro pins s σ H x y u v Q I rx ry hq
  obtain ⟨b, ⟨a, dx, fs, tb, rfl, ha, ty, nf, _, d⟩, q⟩ := hq
  cases rx
  show wpAny (model X.prog X.w) X.A (richCompare .NotEq (.ref a) v) (EP X pins σ Q) X.xe s
  obtain ⟨mA, J, _⟩ := ins_get I.hok ha
  obtain ⟨od, J, _⟩ := J.look
  obtain ⟨P, Z, p, _⟩ := kit_of I ry ty
  have sb : Sub X (n + 1) X.A := ⟨hr, rfl⟩
  have call1 : wpAny (model X.prog X.w) X.A (call (.builtin "object.__ne__") [.ref a, v]) (fun r s' => r = .bool (!b) ∧ Inv X pins σ H s') X.xe s := by
    refine wpAny_call (codeAny_call_builtin PySem.F.slot_object_ne.plain PySem.F.cmpEntry_ne (PySem.W.check_slot PySem.F.cmpKind_ne PySem.F.cmpSplit_ne (J.type.andThen (PySem.W.looks_mroIn I.kIn c.ob)) (PySem.F.cmpArgs_ne _ _) ?_))
    unfold Builtin.«object.__ne__»
    refine wpAny_bind (wpAny_pure ?_)
    refine wpAny_bind (wpAny_cRoomFor sb.in1.room.units0 ?_)
    refine wpAny_bind (PySem.W.ifBound_K I.kIn J hm.at_ hm.fn (thn (eqFn_at F hb hx sb.in1 I (x := V.ref a) rfl ry d) fun r s' q => ?_))
    obtain ⟨rfl, I'⟩ := q
    exact wpAny_bind (wpAny_truthy_bool (wpAny_pure ⟨rfl, I'⟩))
  have one : wpAny (model X.prog X.w) X.A (tryCompare (.ref a) (cmpInfo .NotEq).2.1 v) (fun r s' => r = some (.bool (!b)) ∧ Inv X pins σ H s') X.xe s := by
    unfold tryCompare
    refine wpAny_bind (m := callSpecialIfBound? (.ref a) _ [v]) ?_
    simp only [callSpecialIfBound?, bindSpecialIfBound?]
    refine wpAny_holding (wpAny_bind (wpAny_bind (wpAny_bind (J.type.here ((PySem.W.looks_findIn I.kIn c.ne).here ?_)))))
    refine wpAny_bind (wpAny_askSetting (wpAny_ite ?_))
    have fin : wpAny (model X.prog X.w) X.A (call (.builtin "object.__ne__") ([.ref a] ++ [v]) >>= fun z => pure (some z)) (fun o s1 => wpAny (model X.prog X.w) X.A (match o with | some .notImplemented | none => pure none | some z => pure (some z)) (fun r s' => r = some (.bool (!b)) ∧ Inv X pins σ H s') X.xe s1) X.xe s := by
      refine wpAny_bind (thn call1 fun r s' z => ?_)
      obtain ⟨rfl, I'⟩ := z
      exact wpAny_pure (wpAny_pure ⟨rfl, I'⟩)
    split
    · exact wpAny_bind ((PySem.W.Looks.of_pure (PySem.F.slot_object_ne.bind (.ref a))).here (wpAny_pure (by exact fin)))
    · exact wpAny_tryCatch (wpAny_bind ((PySem.W.Looks.of_pure (PySem.F.slot_object_ne.bind (.ref a))).here (wpAny_pure (by exact fin))))
  unfold richCompare
  simp only [oneThing_ref]
  refine wpAny_holding (wpAny_bind (wpAny_cRoomFor hr.units0 ?_))
  refine wpAny_bind (J.type.here (wpAny_bind ((Z.ty _ _ I.kIn p).here ?_)))
  have ends : ∀ s', Inv X pins σ H s' → EP X pins σ Q (.bool (!b)) s' := fun s' I' => ⟨.bl (!b), H, I', rfl, q⟩
  split
  · rename_i z
    have e : PySem.W.subIn X.K tb (.ref C) = some false := by
      rcases Bool.or_eq_true_iff.mp nf with e | e
      · rw [beq_iff_eq.mp e] at z; simp at z
      · exact beq_iff_eq.mp e
    refine wpAny_bind ((PySem.W.looks_subIn I.kIn e).here ?_)
    simp only [Bool.false_eq_true, if_false]
    refine wpAny_bind (thn one fun r s' z => ?_)
    obtain ⟨rfl, I'⟩ := z
    exact wpAny_pure (ends s' I')
  · refine wpAny_bind (wpAny_pure ?_)
    simp only [Bool.false_eq_true, if_false]
    refine wpAny_bind (thn one fun r s' z => ?_)
    obtain ⟨rfl, I'⟩ := z
    exact wpAny_pure (ends s' I')
/-! ### in, by an own == -/
def InB (D : Eqb) (x : V) (H : Hp) : List V → Bool → Prop
  | [], b => b = false
  | y :: r, b => (D y x H true ∧ b = true) ∨ (D y x H false ∧ InB D x H r b)
open AutoSeq1 (wpAny_loadPart') in
theorem inB_loop (h : EqB X n D) {A : Around} (sb : Sub X (n + 1) A) {pins : List (Addr × Obj)} {σ : L2.St} {H : Hp} {x : V} {u : Value} {l : Addr} {xs : List V} {R : Result → Shared → Prop} (hl : SqL X.K H l xs) (rx : RelV x u) (b : Bool)
    (fin : ∀ s, Inv X pins σ H s → R (.ok (.ret (.bool b))) s) (bad : ∀ e s, X.xe e s → R (.error e) s) : ∀ (ys : List V) (i : Nat), xs.drop i = ys → InB D x H ys b → ∀ s, Inv X pins σ H s →
      wpAny (model X.prog X.w) A.in1 (Builtin.«list.__contains__.loop» ⟨[.ref l, u, rawInt i], []⟩) (GQ.FinOf X.prog X.w A R) (fun e s' => R (.error e) s') s := by
  intro ys
  induction ys with
  | nil =>
    intro i hd q s I
    have q : b = false := q
    subst q
    obtain ⟨its, r, ⟨o, k, ho, hc, hs, hda⟩, _⟩ := I.list hl
    obtain ⟨oc, od, oda, osl⟩ := o
    dsimp only at hc hs hda
    subst hc hda
    have hlen : its.toArray.size ≤ i := by
      rw [List.size_toArray, ← r.length]
      exact List.drop_eq_nil_iff.mp hd
    have hi : its.toArray[((i : Nat) : Int).toNat]? = none := by
      rw [Array.getElem?_eq_none]
      simpa using hlen
    have hR := fin s I
    obtain ⟨hp, g, d, tk, os⟩ := s
    wp_walk using wpAny_loadPart' ho
    rw [hi]
    wp_walk
    exact hR
  | cons y r ih =>
    intro i hd q s I
    obtain ⟨its, rv, ⟨o, k, ho, hc, hs, hda⟩, _⟩ := I.list hl
    obtain ⟨oc, od, oda, osl⟩ := o
    dsimp only at hc hs hda
    subst hc hda
    have hx : xs[i]? = some y := by
      have e := congrArg List.head? hd
      rw [List.head?_drop] at e
      exact e
    obtain ⟨v, hv, ry⟩ := rv.get hx
    have hi : its.toArray[((i : Nat) : Int).toNat]? = some v := by simpa using hv
    have hd2 : xs.drop (i + 1) = r := by
      have e := congrArg List.tail hd
      rw [List.tail_drop] at e
      exact e
    have step : ∀ t, D y x H t → wpAny (model X.prog X.w) A.in1 (eqBool v u) (fun z s' => z = t ∧ Inv X pins σ H s') (fun e s' => R (.error e) s') s := fun t dt => wpAny_mono (h A.in1 pins s σ H y x v u t sb.in1 I ry rx dt) (fun _ _ z => z) bad
    have cc : ((i : Int) + 1) = ((i + 1 : Nat) : Int) := by omega
    rcases q with ⟨d, rfl⟩ | ⟨d, q⟩
    · have st := step _ d
      obtain ⟨hp, g, dd, tk, os⟩ := s
      wp_walk using wpAny_loadPart' ho
      rw [hi]
      refine wpAny_bind (thn st fun z s2 q2 => ?_)
      obtain ⟨rfl, I2⟩ := q2
      have hR := fin s2 I2
      wp_walk
      exact hR
    · have st := step _ d
      obtain ⟨hp, g, dd, tk, os⟩ := s
      wp_walk using wpAny_loadPart' ho
      rw [hi]
      refine wpAny_bind (thn st fun z s2 q2 => ?_)
      obtain ⟨rfl, I2⟩ := q2
      have go := ih (i + 1) hd2 q s2 I2
      wp_walk
      rw [cc]
      exact ⟨plainId_quiet MeetsSeq.plain_contains_loop _, codeAny_builtin MeetsSeq.entry_contains_loop (by
        rw [Around.under_plainId MeetsSeq.plain_contains_loop _]
        exact go)⟩
/-- x in [..] -/
theorem op_inBl (h : EqB X n D) (hr : Room (n + 1) X.A) : OpR X (compareOp .In) (fun x y H Q => ∃ p xs b, y = .ref p ∧ SqL X.K H p xs ∧ InB D x H xs b ∧ Q (.bl b) H) := by
  intro pins s σ H x y u v Q I rx ry hq
  obtain ⟨p, xs, b, rfl, hl, q, k⟩ := hq
  cases ry
  obtain ⟨its, r, ⟨o, m, ho, hc, hs, hda⟩, _⟩ := I.list hl
  have hT : s.TypeIs (.ref p) "list" := ⟨o, ho, hc⟩
  have sb : Sub X (n + 1) X.A := ⟨hr, rfl⟩
  show wpAny _ X.A (do return .bool (← contains (.ref p) u)) (EP X pins σ Q) X.xe s
  refine wpAny_bind (wpAny_contains_slot hT PySem.F.slot_list_contains (GQ.call_here PySem.F.slot_list_contains hT PySem.F.entry_list_contains (PySem.F.args_list_contains_2 _ _) ?_))
  have go := inB_loop (A := X.A) (R := wants (fun v s' => wpAny (model X.prog X.w) X.A (truthy v) (fun t s'' => wpAny (model X.prog X.w) X.A (pure (Value.bool t)) (EP X pins σ Q) X.xe s'') X.xe s') X.xe) h sb hl rx b
    (fun s' I' => wpAny_truthy_bool (wpAny_pure ⟨.bl b, H, I', rfl, k⟩)) (fun e s' z => z) xs 0 rfl q s I
  obtain ⟨hp, g, dd, tk, os⟩ := s
  wp_walk
  exact ⟨plainId_quiet MeetsSeq.plain_contains_loop _, codeAny_builtin MeetsSeq.entry_contains_loop (by
    rw [Around.under_plainId MeetsSeq.plain_contains_loop _]
    exact go)⟩
open AutoSeq1 (wpAny_loadPart') in
theorem inB_tup (h : EqB X n D) {A : Around} (sb : Sub X (n + 1) A) {pins : List (Addr × Obj)} {σ : L2.St} {H : Hp} {x : V} {u : Value} {l : Addr} {xs : List V} {R : Result → Shared → Prop} (hl : SqT X.K H l xs) (rx : RelV x u) (b : Bool)
    (fin : ∀ s, Inv X pins σ H s → R (.ok (.ret (.bool b))) s) (bad : ∀ e s, X.xe e s → R (.error e) s) (q : InB D x H xs b) (s : Shared) (I : Inv X pins σ H s) :
      wpAny (model X.prog X.w) A.in1 (Builtin.«tuple.__contains__» ⟨[.ref l, u], []⟩) (GQ.FinOf X.prog X.w A R) (fun e s' => R (.error e) s') s := by
  obtain ⟨its, rv, ⟨o, ho, hc, k, hda⟩, _⟩ := I.tuple hl
  obtain ⟨oc, od, oda, osl⟩ := o
  dsimp only at hc hda
  subst hc hda
  have I0 := I
  have rv2 : Vals xs its.toArray.toList := by simpa using rv
  generalize its.toArray = items at ho rv2
  obtain ⟨hp, g, d, tk, os⟩ := s
  wp_walk using wpAny_loadPart' ho, MeetsSeq2.wpAny_forIn_array _ (fun rest c s' => c.1 = none ∧ Inv X pins σ H s' ∧ ∃ ys, Vals ys rest ∧ InB D x H ys b) _
  case turn =>
    rintro v rest c s' ⟨hb, I1, ys, rr, qq⟩
    cases rr with
    | @cons y _ yr _ ry r2 =>
      have step : ∀ t, D y x H t → wpAny (model X.prog X.w) A.in1 (eqBool v u) (fun z s' => z = t ∧ Inv X pins σ H s') (fun e s' => R (.error e) s') s' := fun t dt => wpAny_mono (h A.in1 pins s' σ H y x v u t sb.in1 I1 ry rx dt) (fun _ _ z => z) bad
      rcases qq with ⟨dt, rfl⟩ | ⟨dt, qq⟩
      · refine wpAny_bind (thn (step _ dt) fun z s2 q2 => ?_)
        obtain ⟨rfl, I2⟩ := q2
        have hR := fin s2 I2
        wp_walk
        exact hR
      · refine wpAny_bind (thn (step _ dt) fun z s2 q2 => ?_)
        obtain ⟨rfl, I2⟩ := q2
        wp_walk
        exact ⟨rfl, I2, yr, r2, qq⟩
  case fin =>
    rintro ⟨b1, b2⟩ s' ⟨hb, I1, ys, rr, qq⟩
    simp only at hb
    subst hb
    cases rr
    have qq : b = false := qq
    subst qq
    have hR := fin s' I1
    wp_walk
    exact hR
  case h =>
    exact ⟨rfl, I0, xs, rv2, q⟩
theorem op_inBt (h : EqB X n D) (hr : Room (n + 1) X.A) : OpR X (compareOp .In) (fun x y H Q => ∃ p xs b, y = .ref p ∧ SqT X.K H p xs ∧ InB D x H xs b ∧ Q (.bl b) H) := by
  intro pins s σ H x y u v Q I rx ry hq
  obtain ⟨p, xs, b, rfl, hl, q, k⟩ := hq
  cases ry
  obtain ⟨its, r, ⟨o, ho, hc, m, hda⟩, _⟩ := I.tuple hl
  have hT : s.TypeIs (.ref p) "tuple" := ⟨o, ho, hc⟩
  have sb : Sub X (n + 1) X.A := ⟨hr, rfl⟩
  show wpAny _ X.A (do return .bool (← contains (.ref p) u)) (EP X pins σ Q) X.xe s
  refine wpAny_bind (wpAny_contains_slot hT PySem.F.slot_tuple_contains (GQ.call_here PySem.F.slot_tuple_contains hT PySem.F.entry_tuple_contains (PySem.F.args_tuple_contains_2 _ _) ?_))
  exact inB_tup (A := X.A) (R := wants (fun v s' => wpAny (model X.prog X.w) X.A (truthy v) (fun t s'' => wpAny (model X.prog X.w) X.A (pure (Value.bool t)) (EP X pins σ Q) X.xe s'') X.xe s') X.xe) h sb hl rx b
    (fun s' I' => wpAny_truthy_bool (wpAny_pure ⟨.bl b, H, I', rfl, k⟩)) (fun e s' z => z) q s I
/-- a text beside a thing of a built-in kind -/
def DTxt : Eqb := fun x y H b => ∃ (z : Str) (T : String), x = .str z ∧ Bk H y T ∧ b = decide (y = .str z)
theorem eqB_txt (hu : ∀ A, Sub X n A → A.units < cLine := fun _ z => z.room.units0) : EqB X n DTxt := by
  intro A pins s σ H x y u v b sb I rx ry d
  obtain ⟨z, T, rfl, bk, rfl⟩ := d
  obtain ⟨t, e⟩ := (show ∃ t, u = Value.str z t from rx)
  subst e
  have hu := hu A sb
  cases bk with
  | non =>
    cases (show v = Value.none from ry)
    exact SeqAt.EqAt.str_none z t X.prog X.w X.xe _ ⟨rfl, I⟩
  | bl c =>
    cases (show v = Value.bool c from ry)
    exact SeqAt.EqAt.str_bool z t c X.prog X.w X.xe _ ⟨rfl, I⟩
  | int i =>
    obtain ⟨t2, e⟩ := (show ∃ t, v = Value.int i t from ry)
    subst e
    exact SeqAt.EqAt.str_int z t i t2 X.prog X.w X.xe _ ⟨rfl, I⟩
  | str y =>
    obtain ⟨t2, e⟩ := (show ∃ t, v = Value.str y t from ry)
    subst e
    refine SeqAt.EqAt.str_str z t y t2 X.prog X.w X.xe _ ⟨?_, I⟩
    by_cases e : y = z
    · subst e; simp
    · have e2 : ¬ z = y := fun q => e q.symm
      have e3 : ¬ V.str y = V.str z := fun q => e (V.str.inj q)
      rw [decide_eq_false e3]
      exact beq_eq_false_iff_ne.mpr e2
  | @lst a xs e =>
    cases (show v = Value.ref a from ry)
    obtain ⟨_, its, k, _, h1⟩ := (show ObjOk X.prog X.w H s.heap a (.lst xs) from I.hok a _ e)
    exact SeqAt.EqAt.str_list z t ⟨_, h1, rfl, _, rfl⟩ hu X.prog X.w X.xe _ ⟨rfl, I⟩
  | @tup a xs e =>
    cases (show v = Value.ref a from ry)
    obtain ⟨_, its, _, h1⟩ := (show ObjOk X.prog X.w H s.heap a (.tup xs) from I.hok a _ e)
    exact SeqAt.EqAt.str_tuple z t h1 hu X.prog X.w X.xe _ ⟨rfl, I⟩
end
/-! ### Measures alike, beside Measures and things of built-in kinds -/
def REq (K : PySem.W.Frag) (C : Addr) : Eqb := fun x y H b => ∃ p t u, x = .ref p ∧ MAt C H p t u ∧ ((∃ q t' u', y = .ref q ∧ MAt C H q t' u' ∧ b = (decide (t = t') && decide (u = u'))) ∨ ∃ tv, TyX K H y tv ∧ PySem.W.kitOne K tv (.ref C) = some false ∧ b = false)
inductive Like (C : Addr) (H : Hp) (p : Addr) : V → Bool → Prop where
  | ms {q : Addr} {t u t' u' : Int} (a : MAt C H p t u) (b : MAt C H q t' u') : Like C H p (.ref q) (decide (t = t') && decide (u = u'))
  | kd {y : V} {T : String} {t u : Int} (a : MAt C H p t u) (b : Bk H y T) : Like C H p y false
theorem Like.same {C p : Addr} {H H' : Hp} {y : V} {b : Bool} (h : Like C H p y b) (s : Same H H') : Like C H' p y b := by
  cases h with
  | ms a b => exact .ms (a.same s) (b.same s)
  | kd a k => exact .kd (a.same s) (k.same s)
theorem mf_inj {t u t' u' : Int} (h : mf t u = mf t' u') : t = t' ∧ u = u' := by
  unfold mf at h
  injection h with h1 h2
  injection h2 with h3 _
  exact ⟨V.int.inj (congrArg Prod.snd h1), V.int.inj (congrArg Prod.snd h3)⟩
theorem MAt.uniq {C p : Addr} {H : Hp} {t u t' u' : Int} (a : MAt C H p t u) (b : MAt C H p t' u') : t = t' ∧ u = u' := by
  obtain ⟨d, a⟩ := a
  obtain ⟨d', b⟩ := b
  rw [a] at b
  have e := HO.ins.inj (Option.some.inj b)
  exact mf_inj e.2.2
theorem Bk.notIns {C p dx : Addr} {H : Hp} {T : String} {fs : List (Str × V)} (b : Bk H (.ref p) T) (e : H p = some (.ins C dx fs)) : False := by
  cases b with
  | lst z => rw [z] at e; cases e
  | tup z => rw [z] at e; cases e
section
variable {K : PySem.W.Frag} {C p : Addr} {H : Hp} {y : V} {b : Bool}
theorem nf_self : PySem.W.notFirst K C (.ref C) = true := by simp [PySem.W.notFirst]
theorem Like.fwd (cl : Cls K C) (ii : IsC K C) (ec : EqC K C) (h : Like C H p y b) : DOwn K C (REq K C) (.ref p) y H b := by
  cases h with
  | @ms q t u t' u' a b =>
    obtain ⟨da, ha⟩ := _root_.id a
    obtain ⟨db, hb⟩ := _root_.id b
    refine ⟨p, da, _, _, rfl, ha, tyM hb cl ii, nf_self, fun e => ?_, p, t, u, rfl, a, .inl ⟨q, t', u', rfl, b, rfl⟩⟩
    cases e
    obtain ⟨rfl, rfl⟩ := a.uniq b
    simp
  | @kd _ T t u a k =>
    obtain ⟨da, ha⟩ := _root_.id a
    refine ⟨p, da, _, _, rfl, ha, k.ty, ec.nf T k.mem, fun e => ?_, p, t, u, rfl, a, .inr ⟨_, k.ty, ec.kit T k.mem, rfl⟩⟩
    subst e
    exact (k.notIns ha).elim
theorem Like.bwd (cl : Cls K C) (ii : IsC K C) (ec : EqC K C) (h : Like C H p y b) : DOr (DOwn K C (REq K C)) (DRef C (REq K C)) y (.ref p) H b := by
  cases h with
  | @ms q t u t' u' a b =>
    obtain ⟨da, ha⟩ := _root_.id a
    obtain ⟨db, hb⟩ := _root_.id b
    have e2 : (decide (t = t') && decide (u = u')) = (decide (t' = t) && decide (u' = u)) := by
      rw [decide_eq_decide.mpr (eq_comm (a := t)), decide_eq_decide.mpr (eq_comm (a := u))]
    rw [e2]
    refine .inl ⟨q, db, _, _, rfl, hb, tyM ha cl ii, nf_self, fun e => ?_, q, t', u', rfl, b, .inl ⟨p, t, u, rfl, a, rfl⟩⟩
    cases e
    obtain ⟨rfl, rfl⟩ := a.uniq b
    simp
  | @kd _ T t u a k =>
    obtain ⟨da, ha⟩ := _root_.id a
    refine .inr ⟨p, da, _, T, rfl, ha, k, fun e => ?_, p, t, u, rfl, a, .inr ⟨_, k.ty, ec.kit T k.mem, rfl⟩⟩
    subst e
    exact (k.notIns ha).elim
theorem Like.non (ec : EqC K C) (h : Like C H p y b) : DOr (DOwn K C (REq K C)) (DRef C (REq K C)) .non (.ref p) H false := by
  have go : ∀ {t u : Int}, MAt C H p t u → DOr (DOwn K C (REq K C)) (DRef C (REq K C)) .non (.ref p) H false := fun {t u} a => by
    obtain ⟨da, ha⟩ := _root_.id a
    exact .inr ⟨p, da, _, _, rfl, ha, .non, (fun e => nomatch e), p, t, u, rfl, a, .inr ⟨_, (Bk.non (H := H)).ty, ec.kit _ (Bk.non (H := H)).mem, rfl⟩⟩
  cases h with
  | ms a _ => exact go a
  | kd a _ => exact go a
/-- one in [None, y] -/
theorem Like.inl (cl : Cls K C) (ii : IsC K C) (ec : EqC K C) (h : Like C H p y b) : InB (DOr (DOwn K C (REq K C)) (DRef C (REq K C))) (.ref p) H [.non, y] b := by
  refine .inr ⟨h.non ec, ?_⟩
  cases b with
  | true => exact .inl ⟨h.bwd cl ii ec, rfl⟩
  | false => exact .inr ⟨h.bwd cl ii ec, rfl⟩
/-- y in (one, z) -/
theorem Like.inr {z : Str} (cl : Cls K C) (ii : IsC K C) (ec : EqC K C) (h : Like C H p y b) (hz : y ≠ .str z) : InB (DOr (DOr (DOwn K C (REq K C)) (DRef C (REq K C))) DTxt) y H [.ref p, .str z] b := by
  have key : ∀ {c : Bool}, Like C H p y c → DOr (DOr (DOwn K C (REq K C)) (DRef C (REq K C))) DTxt (.str z) y H false := fun {c} h => by
    cases h with
    | @ms q t u t' u' a b =>
      obtain ⟨dq, hq⟩ := _root_.id b
      exact .inl (.inr ⟨q, dq, _, _, rfl, hq, .str z, (fun e => nomatch e), q, t', u', rfl, b, .inr ⟨_, (Bk.str (H := H) z).ty, ec.kit _ (Bk.str (H := H) z).mem, rfl⟩⟩)
    | @kd _ T t u a k => exact .inr ⟨z, T, rfl, k, (decide_eq_false hz).symm⟩
  cases b with
  | true => exact .inl ⟨.inl (.inl (h.fwd cl ii ec)), rfl⟩
  | false => exact .inr ⟨.inl (.inl (h.fwd cl ii ec)), .inr ⟨key h, rfl⟩⟩
end
end My
namespace My
open PySem PySem.Spec PyProof.Rows L2
/-! ### texts: str and repr of own objects, pieces of f-strings, divmod -/
section
variable {X : Cx} {n : Nat} {CX : CXT} {C f : Addr} {fd : FuncData} {ps : List Str} {sp : Sp} {E : XK}
/-- an own def is called from within a built-in one -/
theorem fn_at (F : FnOk X.prog X.w X.K X.mg X.base CX n f fd ps sp) (hb : Binds X.K fd ps []) (hx : Passes CX X E) {A : Around} {pins : List (Addr × Obj)} {s : Shared} {σ : L2.St} {H : Hp} {vs : List V} {us : List Value} {Q : VK}
    (sb : Sub X n A) (I : Inv X pins σ H s) (r : Vals vs us) (h : sp vs H Q E) : wpAny (model X.prog X.w) A (call (.ref f) us) (fun u s' => ∃ v H', Inv X pins σ H' s' ∧ RelV v u ∧ Q v H') X.xe s := by
  have e := I.env0
  have e0 : Env0 X.prog X.w X.K X.mg X.base A X.stack s H := ⟨by rw [sb.fr]; exact e.frames, e.mod, e.bs, e.bsz, e.funs, e.frf, e.hok, e.bare⟩
  have hl := F.len _ _ _ _ h
  have hbs := hb s us I.kIn (by rw [List.append_nil, ← r.length]; exact hl)
  rw [List.append_nil] at hbs
  refine wpAny_call (codeAny_mono (F.run A X.stack s H ⟨us, []⟩ us vs _ E sb.room e0 hbs r h) fun r s' hq => ?_)
  cases r with
  | error e => exact hx pins σ H s e s' I hq
  | ok fl =>
    cases fl with
    | ret w =>
      obtain ⟨z, H', I', rz, q⟩ := I.after hq
      exact ⟨z, H', I', rz, q⟩
    | next => exact False.elim hq
    | brk => exact False.elim hq
    | cont => exact False.elim hq
/-- what a text of an own object asks: the def tells a text -/
def tOwn (C : Addr) (sp : Sp) (E : XK) : V → Hp → VK → Prop := fun x H Q => ∃ a dx fs, x = .ref a ∧ H a = some (.ins C dx fs) ∧ sp [.ref a] H (fun v H' => ∃ z : Str, v = .str z ∧ Q (.str z) H') E
theorem call_strO (F : FnOk X.prog X.w X.K X.mg X.base CX n f fd ps sp) (hm : Meth X.K C "__str__" f) (hb : Binds X.K fd ps []) (hx : Passes CX X E) (hr : Room (n + 2) X.A) : CallR X (.type "str") (fun xs H Q => ∃ x, xs = [x] ∧ tOwn C sp E x H Q) := by
  intro pins s σ H xs us Q I r h
  obtain ⟨x, rfl, a, dx, fs, rfl, ha, h⟩ := h
  obtain ⟨u, rfl, r1⟩ := vals1 r
  cases (show u = Value.ref a from r1)
  obtain ⟨mA, J, _⟩ := ins_get I.hok ha
  obtain ⟨od, J, _⟩ := J.look
  have sb : Sub X (n + 2) X.A := ⟨hr, rfl⟩
  refine PySem.W.kso_call sb.in1.in1.room.units0 I.kIn J hm.at_ hm.fn ?_
  refine thn (fn_at F hb hx sb.in1.in1 I (vs := [.ref a]) (.cons rfl .nil) h) fun u s' q => ?_
  obtain ⟨v, H', I', rv, z, rfl, q⟩ := q
  obtain ⟨t, rfl⟩ := rv
  exact ⟨.str z, H', I', ⟨t, rfl⟩, q⟩
theorem call_reprO (F : FnOk X.prog X.w X.K X.mg X.base CX n f fd ps sp) (hm : Meth X.K C "__repr__" f) (hb : Binds X.K fd ps []) (hx : Passes CX X E) (hr : Room (n + 1) X.A) : CallR X (.builtin "repr") (fun xs H Q => ∃ x, xs = [x] ∧ ((x = .non ∧ Q (.str "None") H) ∨ tOwn C sp E x H Q)) := by
  intro pins s σ H xs us Q I r h
  obtain ⟨x, rfl, ⟨rfl, q⟩ | ⟨a, dx, fs, rfl, ha, h⟩⟩ := h
  · obtain ⟨u, rfl, r1⟩ := vals1 r
    cases (show u = Value.none from r1)
    exact PySem.P.repr_of_none ⟨.str "None", H, I.tok _, ⟨_, rfl⟩, q⟩
  obtain ⟨u, rfl, r1⟩ := vals1 r
  cases (show u = Value.ref a from r1)
  obtain ⟨mA, J, _⟩ := ins_get I.hok ha
  obtain ⟨od, J, _⟩ := J.look
  obtain ⟨m, hF⟩ := I.fr
  have sb : Sub X (n + 1) X.A := ⟨hr, rfl⟩
  refine PySem.W.repr_K sb.in1.room.units0 hF I.ok.mod.kin J hm.at_ hm.fn ?_
  refine thn (fn_at F hb hx sb.in1 I (vs := [.ref a]) (.cons rfl .nil) h) fun u s' q => ?_
  obtain ⟨v, H', I', rv, z, rfl, q⟩ := q
  obtain ⟨t, rfl⟩ := rv
  exact ⟨.str z, H', I', ⟨t, rfl⟩, q⟩
/-- {x!r}, x an own object or None -/
def tFmtRO (C : Addr) (sp : Sp) (E : XK) (te : TE) : TE := fun σ H Q => te σ H fun x H1 => (x = .non ∧ Q (.str "None") H1) ∨ tOwn C sp E x H1 (fun v H2 => (∃ z : Str, v = .str z ∧ z.length ≤ sizeLine) ∧ Q v H2)
theorem pe_fmtRO {e : Expr} {te : TE} {pos : Pos} (F : FnOk X.prog X.w X.K X.mg X.base CX n f fd ps sp) (hm : Meth X.K C "__repr__" f) (hb : Binds X.K fd ps []) (hx : Passes CX X E) (hr : Room n X.A) (he : PE X e te) : PE X (.FormattedValue e 114 none pos) (tFmtRO C sp E te) := by
  refine ⟨fun pins s σ H Q I h => ?_⟩
  refine wpAny_FormattedValue_repr (thn (he.run pins s σ H _ I h) fun v s1 hv => ?_)
  obtain ⟨x, H1, I1, r1, ⟨rfl, q⟩ | ⟨a, dx, fs, rfl, ha, q⟩⟩ := hv
  · cases (show v = Value.none from r1)
    exact pyReprObj_none (wpAny_formatField_str ⟨.str "None", H1, I1.tok _, ⟨_, rfl⟩, q⟩ ⟨.str "None", H1, I1.tok _, ⟨_, rfl⟩, q⟩ (by rw [sizeLine_eq]; decide))
  cases (show v = Value.ref a from r1)
  obtain ⟨mA, J, _⟩ := ins_get I1.hok ha
  obtain ⟨od, J, _⟩ := J.look
  have sb : Sub X n X.A := ⟨hr, rfl⟩
  unfold pyReprObj
  refine wpAny_bind (wpAny_cRoomFor sb.room.units0 ?_)
  refine wpAny_bind (wpAny_bind (J.type.here ((PySem.W.looks_findIn I1.kIn hm.at_).here ?_)))
  show wpAny _ _ (if (some (Value.ref f)).isNone = true then _ else _) _ _ _
  rw [if_neg (by simp)]
  refine wpAny_bind (PySem.W.ifBound_K I1.kIn J hm.at_ hm.fn (thn (fn_at F hb hx sb I1 (vs := [.ref a]) (.cons rfl .nil) q) fun u s2 q2 => ?_))
  obtain ⟨w, H2, I2, rw, z, rfl, ⟨z2, ez, hz⟩, q3⟩ := q2
  cases ez
  obtain ⟨t, rfl⟩ := rw
  refine wpAny_bind (wpAny_isInstance (typeIs_str _ _ _) isSubtype_str_str ?_)
  have go := wpAny_formatField_str (prog := X.prog) (w := X.w) (A := X.A) (E := X.xe) (s := s2) (x := z) (t := t) (Q := EP X pins σ Q) ⟨.str z, H2, I2, ⟨t, rfl⟩, q3⟩ ⟨.str z, H2, I2.tok _, ⟨_, rfl⟩, q3⟩ hz
  first
    | exact wpAny_pure go
    | (rw [if_pos rfl]; exact wpAny_pure go)
    | (simp only [if_true]; exact wpAny_pure go)
/-- {x}, x a truth -/
def bTxt (b : Bool) : Str := if b then "True" else "False"
def tFmtB (te : TE) : TE := fun σ H Q => te σ H fun x H1 => ∃ b, x = .bl b ∧ Q (.str (bTxt b)) H1
theorem pe_fmtB {e : Expr} {te : TE} {pos : Pos} (he : PE X e te) : PE X (.FormattedValue e (-1) none pos) (tFmtB te) := by
  refine ⟨fun pins s σ H Q I h => ?_⟩
  refine wpAny_FormattedValue_plain (thn (he.run pins s σ H _ I h) fun v s1 hv => ?_)
  obtain ⟨x, H1, I1, r1, b, rfl, q⟩ := hv
  cases (show v = Value.bool b from r1)
  exact wpAny_formatField_bool ⟨.str (bTxt b), H1, I1.tok _, ⟨_, by cases b <;> rfl⟩, q⟩
theorem call_str_bool : CallR X (.type "str") (fun xs H Q => ∃ b, xs = [.bl b] ∧ Q (.str (bTxt b)) H) := by
  intro pins s σ H xs us Q I r h
  obtain ⟨b, rfl, q⟩ := h
  obtain ⟨u, rfl, r1⟩ := vals1 r
  cases (show u = Value.bool b from r1)
  exact PySem.P.str_of_bool ⟨.str (bTxt b), H, I.tok _, ⟨_, by cases b <;> rfl⟩, q⟩
theorem call_dm : CallR X (.builtin "divmod") (fun xs H Q => ∃ i j, xs = [.int i, .int j] ∧ 0 < j ∧ j.natAbs.log2 < 9000 ∧ ∀ p, H p = none → Q (.ref p) (upd H p (.tup [.int (i / j), .int (i % j)]))) := by
  intro pins s σ H xs us Q I r h
  obtain ⟨i, j, rfl, h1, h2, q⟩ := h
  obtain ⟨u, w', rfl, ⟨t, rfl⟩, ⟨t', rfl⟩⟩ := vals2 r
  refine divmod_int (by omega) ?_ (.inl (PyProof.noPylong_of_log2 h2))
  rw [Int.fdiv_eq_ediv_of_nonneg i (by omega), Int.fmod_eq_emod_of_nonneg i (by omega)]
  have hn : H s.heap.objs.size = none := I.hok.fresh (Nat.le_refl _)
  refine ⟨.ref s.heap.objs.size, _, ?_, rfl, q _ hn⟩
  refine I.laid (fun b o e => Heap.get?_push_of_some _ e) (Nat.le_refl _) ⟨by show 2 ≤ sizeLine; rw [sizeLine_eq]; decide, [.int (i / j) s.toks, .int (i % j) (s.toks + 1)], .cons ⟨_, rfl⟩ (.cons ⟨_, rfl⟩ .nil), ?_⟩
  exact ⟨_, Heap.get?_push_size s.heap rfl, rfl, 0, rfl⟩
/-- a text so often -/
theorem op_repS : OpR X (binaryOp .Mult) (fun x y H Q => ∃ (a : Str) (b : Bool), x = .str a ∧ y = .int (if b then 1 else 0) ∧ a.length ≤ 1000 ∧ Q (.str (if b then a else "")) H) := by
  intro pins s σ H x y v u Q I rx ry h
  obtain ⟨a, b, rfl, rfl, hz, q⟩ := h
  obtain ⟨t, rfl⟩ := rx
  obtain ⟨t', rfl⟩ := ry
  cases b with
  | true => exact SB.mul (n := 1) ⟨by decide, fun _ z => (by simp at z), fun _ z => (by simp at z)⟩ fun _ _ => ⟨.str a, H, I.tok _, ⟨_, rfl⟩, q⟩
  | false => exact SB.mul (n := 0) ⟨by decide, fun z => absurd (by decide) z, fun z => absurd (by decide) z⟩ fun _ _ => ⟨.str "", H, I.tok _, ⟨_, rfl⟩, q⟩
theorem bnil {K : PySem.W.Frag} {fd : FuncData} {ps : List Str} {ds : List Value} (v : Vals [] ds) (b : Binds K fd ps ds) : Binds K fd ps [] := by
  cases v
  exact b
end
/-! ### the text of a number, of a Measure -/
def iT (i : Int) : Str := Str.ofString (toString i)
theorem Sz.log' {a : Nat} {x : Int} (h : Sz a x) (h0 : 0 < a) (l : a ≤ 1920) : x.natAbs.log2 < 1920 := Nat.lt_of_lt_of_le (PySem.Flt.log2_lt_of h0 h) l
theorem iT_len {i : Int} (h : Sz 1900 i) : (iT i).length ≤ 1921 := by
  have e := int_text_length_le (k := 1920) (by decide) (h.log' (by decide) (by decide))
  unfold iT
  rw [PySem.ofString_length]
  omega
def wTxt (a u : Int) : Str := if a % u = 0 then iT (a / u) else if a / u = 0 then Str.empty ++ iT (a % u) ++ "/" ++ iT u else Str.empty ++ iT (a / u) ++ " " ++ iT (a % u) ++ "/" ++ iT u
def mTxt (t u : Int) : Str := if t < 0 then Str.empty ++ "-" ++ wTxt (-t) u else wTxt t u
def mRep (t u : Int) : Str := Str.empty ++ "Measure(" ++ iT t ++ ", " ++ iT u ++ ")"
theorem Sz.ediv {k : Nat} {a u : Int} (h : Sz k a) (h0 : 0 ≤ a) (hu : 0 < u) : Sz k (a / u) := h.le (by
  have h1 := Int.ediv_nonneg h0 (Int.le_of_lt hu)
  have h2 := Int.ediv_le_self u h0
  omega)
theorem Sz.emod {k : Nat} {a u : Int} (h : Sz k u) (hu : 0 < u) : Sz k (a % u) := h.le (by
  have h1 := Int.emod_nonneg a (show u ≠ 0 by omega)
  have h2 := Int.emod_lt_of_pos a hu
  omega)
theorem wTxt_len {a u : Int} (ha : Sz 1900 a) (hu : Sz 1900 u) (h0 : 0 ≤ a) (h1 : 0 < u) : (wTxt a u).length ≤ 6000 := by
  have l1 := iT_len (ha.ediv h0 h1)
  have l2 := iT_len (hu.emod (a := a) h1)
  have l3 := iT_len hu
  have e0 : Str.empty.length = 0 := rfl
  have e1 : (Str.ofString "/").length = 1 := rfl
  have e2 : (Str.ofString " ").length = 1 := rfl
  unfold wTxt
  split
  · omega
  · split
    · simp only [Str.length_append]; omega
    · simp only [Str.length_append]; omega
theorem mTxt_len {t u : Int} (ha : Sz 1900 t) (hu : Sz 1900 u) (h1 : 0 < u) : (mTxt t u).length ≤ 6001 := by
  have e0 : Str.empty.length = 0 := rfl
  have e1 : (Str.ofString "-").length = 1 := rfl
  unfold mTxt
  split
  · have := wTxt_len ha.neg hu (by omega) h1
    simp only [Str.length_append]; omega
  · have := wTxt_len ha hu (by omega) h1
    omega
theorem mRep_len {t u : Int} (ha : Sz 1900 t) (hu : Sz 1900 u) : (mRep t u).length ≤ 4000 := by
  have l1 := iT_len ha
  have l2 := iT_len hu
  have e0 : Str.empty.length = 0 := rfl
  have e1 : (Str.ofString "Measure(").length = 8 := rfl
  have e2 : (Str.ofString ", ").length = 2 := rfl
  have e3 : (Str.ofString ")").length = 1 := rfl
  unfold mRep
  simp only [Str.length_append]; omega
theorem join_eq (sep : Str) (l : List Str) : Txt.join sep l = Str.join sep l := eq_of_beq (PyProof.Rows.join_plain_closes sep l)
theorem join_len (sep : Str) : ∀ l : List Str, (Txt.join sep l).length ≤ (l.map (·.length)).sum + l.length * sep.length := fun l => by
  rw [join_eq]
  induction l with
  | nil => exact Nat.zero_le _
  | cons x r ih =>
    cases r with
    | nil => show x.length ≤ x.length + 0 + 1 * sep.length; omega
    | cons y r =>
      have e : (Str.join sep (x :: y :: r)).length = x.length + sep.length + (Str.join sep (y :: r)).length := by
        show (x ++ sep ++ Str.join sep (y :: r)).length = _
        simp only [Str.length_append]
      have e2 : ((x :: y :: r).map (·.length)).sum = x.length + ((y :: r).map (·.length)).sum := rfl
      have e3 : (x :: y :: r).length * sep.length = (y :: r).length * sep.length + sep.length := by
        rw [List.length_cons, Nat.add_mul, Nat.one_mul]
      rw [e, e2, e3]
      omega
/-- the text as the laws write it: words, a blank between -/
theorem law_txt {t u : Int} (hu : 0 < u) : (if decide (t < 0) = true then ("-" : Str) else "") ++ Txt.join " " ((if u ≤ (t.natAbs : Int) ∨ (t.natAbs : Int) = 0 then [iT ((t.natAbs : Int) / u)] else []) ++ (if 0 < (t.natAbs : Int) % u then [iT ((t.natAbs : Int) % u) ++ "/" ++ iT u] else [])) = mTxt t u := by
  have w : ∀ A : Int, 0 ≤ A → Txt.join " " ((if u ≤ A ∨ A = 0 then [iT (A / u)] else []) ++ (if 0 < A % u then [iT (A % u) ++ "/" ++ iT u] else [])) = wTxt A u := fun A h0 => by
    have m0 := Int.emod_nonneg A (show u ≠ 0 by omega)
    have m1 := Int.emod_lt_of_pos A hu
    have de := Int.emod_add_mul_ediv A u
    have d0 := Int.ediv_nonneg h0 (Int.le_of_lt hu)
    rw [join_eq]
    unfold wTxt
    by_cases e : A % u = 0
    · have c : u ≤ A ∨ A = 0 := by
        rcases Int.lt_or_le 0 (A / u) with z | z
        · left
          have : u * 1 ≤ u * (A / u) := Int.mul_le_mul_of_nonneg_left (by omega) (by omega)
          omega
        · right
          have : A / u = 0 := by omega
          rw [this] at de
          omega
      rw [if_pos c, if_neg (by omega), if_pos e]
      rfl
    · rw [if_neg e, if_pos (show 0 < A % u by omega)]
      by_cases z : A / u = 0
      · have c : ¬ (u ≤ A ∨ A = 0) := by
          rw [z] at de
          omega
        rw [if_neg c, if_pos z, Str.empty_append]
        rfl
      · have c : u ≤ A ∨ A = 0 := by
          left
          have : u * 1 ≤ u * (A / u) := Int.mul_le_mul_of_nonneg_left (by omega) (by omega)
          omega
        rw [if_pos c, if_neg z, Str.empty_append]
        show iT (A / u) ++ " " ++ (iT (A % u) ++ "/" ++ iT u) = _
        simp only [Str.append_assoc]
  rw [w _ (by omega)]
  unfold mTxt
  by_cases e : t < 0
  · rw [if_pos e, if_pos (decide_eq_true e), Str.empty_append]
    have : (t.natAbs : Int) = -t := by omega
    rw [this]
  · rw [if_neg e, if_neg (by simpa using e)]
    have : (t.natAbs : Int) = t := by omega
    rw [this]
    exact Str.empty_append _
theorem iT_dig {n : Int} (h : 0 ≤ n) : ∀ c ∈ TL.tl (iT n), 48 ≤ c ∧ c ≤ 57 := by
  obtain ⟨m, rfl⟩ := Int.eq_ofNat_of_zero_le h
  have e : iT (m : Int) = ⟨((Nat.toDigits 10 m).map Char.toNat).toArray⟩ := PyProof.Rows.text_ofNat m
  intro c hc
  rw [e] at hc
  have hc : c ∈ (Nat.toDigits 10 m).map Char.toNat := by simpa [TL.tl] using hc
  obtain ⟨ch, h1, rfl⟩ := List.mem_map.mp hc
  exact PyProof.Rows.digit_range (Nat.isDigit_of_mem_toDigits (by decide) (by decide) h1)
theorem mTxt_x {t u : Int} (hu : 0 < u) : mTxt t u ≠ "x" := by
  intro e
  have key : ∀ (s : Str) (c : Nat), s = "x" → c ∈ TL.tl s → c = 120 := fun s c e1 e2 => by
    rw [e1] at e2
    have e3 : TL.tl (Str.ofString "x") = [120] := by decide +kernel
    rw [e3] at e2
    simpa using e2
  have wd : ∀ a : Int, 0 ≤ a → wTxt a u ≠ "x" := fun a h0 e => by
    unfold wTxt at e
    have sl : 47 ∈ TL.tl (Str.ofString "/") := by decide +kernel
    split at e
    · have d0 := Int.ediv_nonneg h0 (Int.le_of_lt hu)
      have h120 : 120 ∈ TL.tl (iT (a / u)) := by
        rw [e]
        decide +kernel
      have := iT_dig d0 _ h120
      omega
    · split at e
      · have := key _ 47 e (by simp only [TL.tl_append, List.mem_append]; exact .inl (.inr sl))
        omega
      · have := key _ 47 e (by simp only [TL.tl_append, List.mem_append]; exact .inl (.inr sl))
        omega
  unfold mTxt at e
  split at e
  · have := key _ 45 e (by simp only [TL.tl_append, List.mem_append]; exact .inl (.inr (by decide +kernel)))
    omega
  · exact wd t (by omega) e
theorem eqv_pair {a b c d : Int} : PyData.eqv (.tuple [.int a, .int b]) (.tuple [.int c, .int d]) = (decide (a = c) && decide (b = d)) := by
  show ((a == c) && ((b == d) && true)) = _
  rw [Bool.and_true, Bool.beq_eq_decide_eq, Bool.beq_eq_decide_eq]
theorem fr_uniq {t u t' u' a b : Int} (f : Fr t u a b) (g : Fr t' u' a b) (hb : b ≠ 0) (sa : Sz 4000 a) (sb : Sz 4000 b) : t = t' ∧ u = u' := by
  have e : t * u' = t' * u := f.of hb g.eq.symm
  have := low_eq (a := (t, u)) (b := (t', u')) ⟨f.pos, f.co, sa.le f.lt, sb.le f.lu⟩ ⟨g.pos, g.co, sa.le g.lt, sb.le g.lu⟩ e
  exact ⟨congrArg Prod.fst this, congrArg Prod.snd this⟩
end My
namespace My
open PySem PySem.Spec PyProof.Rows L2
/-! ### Stretches alike -/
def optEq : Option Q2 → Option Q2 → Bool
  | none, none => true
  | some a, some b => eqq a b
  | _, _ => false
theorem optEq_self (a : Option Q2) : optEq a a = true := by
  cases a with
  | none => rfl
  | some a => exact eqq_self a
theorem eqq_comm' (a b : Q2) : eqq a b = eqq b a := by
  unfold eqq
  exact decide_eq_decide.mpr eq_comm
theorem optEq_comm (a b : Option Q2) : optEq a b = optEq b a := by
  cases a with
  | none => cases b <;> rfl
  | some a =>
    cases b with
    | none => rfl
    | some b => exact eqq_comm' a b
def eqS (lo hi : Option Q2) (li hj : Bool) (lo' hi' : Option Q2) (li' hj' : Bool) : Bool := optEq lo lo' && (optEq hi hi' && (decide (V.bl li = V.bl li') && decide (V.bl hj = V.bl hj')))
theorem eqS_self (lo hi : Option Q2) (li hj : Bool) : eqS lo hi li hj lo hi li hj = true := by
  unfold eqS
  rw [optEq_self, optEq_self, decide_eq_true rfl, decide_eq_true rfl]
  rfl
theorem eqS_comm (lo hi : Option Q2) (li hj : Bool) (lo' hi' : Option Q2) (li' hj' : Bool) : eqS lo hi li hj lo' hi' li' hj' = eqS lo' hi' li' hj' lo hi li hj := by
  unfold eqS
  rw [optEq_comm lo, optEq_comm hi, decide_eq_decide.mpr (eq_comm (a := V.bl li)), decide_eq_decide.mpr (eq_comm (a := V.bl hj))]
/-- None beside None -/
def DNn : Eqb := fun x y _ b => x = .non ∧ y = .non ∧ b = true
theorem rcB_nn {X : Cx} {n : Nat} : RcB X n DNn := by
  intro A pins s σ H x y u v b sb I rx ry d
  obtain ⟨rfl, rfl, rfl⟩ := d
  cases (show u = Value.none from rx)
  cases (show v = Value.none from ry)
  exact SeqAt.RcAt.none_none X.prog X.w X.xe _ ⟨rfl, I⟩
section
variable {K : PySem.W.Frag} {CM CS p : Addr} {H : Hp}
/-- two ends of Stretches -/
def DMs (K : PySem.W.Frag) (CM : Addr) : Eqb := DOr (DOr (DOwn K CM (REq K CM)) (DRef CM (REq K CM))) DNn
theorem ms_eq {v w : V} {e f : Option Q2} (cl : Cls K CM) (ii : IsC K CM) (ec : EqC K CM) (a : MsV CM H v e) (b : MsV CM H w f) (l1 : LowO e) (l2 : LowO f) : DMs K CM v w H (optEq e f) := by
  cases e with
  | none =>
    cases f with
    | none => exact .inr ⟨a, b, rfl⟩
    | some y =>
      cases a
      obtain ⟨q, rfl, hq⟩ := b
      exact .inl (Like.bwd cl ii ec (.kd hq .non))
  | some x =>
    obtain ⟨p, rfl, hp⟩ := a
    cases f with
    | none =>
      cases b
      exact .inl (.inl (Like.fwd cl ii ec (.kd hp .non)))
    | some y =>
      obtain ⟨q, rfl, hq⟩ := b
      have := Like.fwd (K := K) cl ii ec (.ms hp hq)
      rw [low_eqq l1 l2] at this
      exact .inl (.inl this)
def REqS (K : PySem.W.Frag) (CM CS : Addr) : Eqb := fun x y H b => ∃ p lo hi li hj, x = .ref p ∧ StAt CM CS H p lo hi li hj ∧ ((∃ q lo' hi' li' hj', y = .ref q ∧ StAt CM CS H q lo' hi' li' hj' ∧ b = eqS lo hi li hj lo' hi' li' hj') ∨
  ∃ tv, TyX K H y tv ∧ PySem.W.kitOne K tv (.ref CS) = some false ∧ b = false)
inductive LikeS (CM CS : Addr) (H : Hp) (p : Addr) : V → Bool → Prop where
  | st {q : Addr} {lo hi lo' hi' : Option Q2} {li hj li' hj' : Bool} (a : StAt CM CS H p lo hi li hj) (b : StAt CM CS H q lo' hi' li' hj') : LikeS CM CS H p (.ref q) (eqS lo hi li hj lo' hi' li' hj')
  | kd {y : V} {T : String} {lo hi : Option Q2} {li hj : Bool} (a : StAt CM CS H p lo hi li hj) (b : Bk H y T) : LikeS CM CS H p y false
  | ms {q : Addr} {t u : Int} {lo hi : Option Q2} {li hj : Bool} (a : StAt CM CS H p lo hi li hj) (b : MAt CM H q t u) : LikeS CM CS H p (.ref q) false
theorem LikeS.same {H' : Hp} {y : V} {b : Bool} (h : LikeS CM CS H p y b) (s : Same H H') : LikeS CM CS H' p y b := by
  cases h with
  | st a b => exact .st (a.same s) (b.same s)
  | kd a k => exact .kd (a.same s) (k.same s)
  | ms a m => exact .ms (a.same s) (m.same s)
theorem MsV.uniq {v : V} {e f : Option Q2} (a : MsV CM H v e) (b : MsV CM H v f) : e = f := by
  cases e with
  | none =>
    cases a
    cases f with
    | none => rfl
    | some y => obtain ⟨q, z, _⟩ := b; exact nomatch z
  | some x =>
    obtain ⟨p, rfl, hp⟩ := a
    cases f with
    | none => exact nomatch (show V.ref p = V.non from b)
    | some y =>
      obtain ⟨q, z, hq⟩ := b
      cases z
      obtain ⟨h1, h2⟩ := hp.uniq hq
      rw [show x = (x.1, x.2) from rfl, show y = (y.1, y.2) from rfl, h1, h2]
theorem sf_inj {l h l' h' : V} {i j i' j' : Bool} (e : sf l h i j = sf l' h' i' j') : l = l' ∧ h = h' ∧ i = i' ∧ j = j' := by
  have g : ∀ m : Str, (sf l h i j).lookup m = (sf l' h' i' j').lookup m := fun m => by rw [e]
  have g1 := g "low"
  have g2 := g "high"
  have g3 := g "low_in"
  have g4 := g "high_in"
  rw [sf_low, sf_low] at g1
  rw [sf_high, sf_high] at g2
  rw [sf_low_in, sf_low_in] at g3
  rw [sf_high_in, sf_high_in] at g4
  exact ⟨Option.some.inj g1, Option.some.inj g2, V.bl.inj (Option.some.inj g3), V.bl.inj (Option.some.inj g4)⟩
theorem StAt.uniq {lo hi lo' hi' : Option Q2} {li hj li' hj' : Bool} (a : StAt CM CS H p lo hi li hj) (b : StAt CM CS H p lo' hi' li' hj') : lo = lo' ∧ hi = hi' ∧ li = li' ∧ hj = hj' := by
  obtain ⟨⟨d, l, h, h1, h2, h3⟩, _⟩ := a
  obtain ⟨⟨d', l', h', k1, k2, k3⟩, _⟩ := b
  rw [h1] at k1
  have e := HO.ins.inj (Option.some.inj k1)
  obtain ⟨rfl, rfl, rfl, rfl⟩ := sf_inj e.2.2
  exact ⟨h2.uniq k2, h3.uniq k3, rfl, rfl⟩
theorem st_notM {q : Addr} {lo hi : Option Q2} {li hj : Bool} {t u : Int} (a : StAt CM CS H p lo hi li hj) (m : MAt CM H p t u) : False := by
  obtain ⟨⟨d, l, hh, h1, _⟩, _⟩ := a
  obtain ⟨dm, hm⟩ := m
  rw [h1] at hm
  have e := (HO.ins.inj (Option.some.inj hm)).2.2
  have e2 := congrArg (fun fs : List (Str × V) => fs.lookup ("top" : Str)) e
  have e3 : (sf l hh li hj).lookup ("top" : Str) = none := sf_no _ _ _ _ (by decide +kernel) (by decide +kernel) (by decide +kernel) (by decide +kernel)
  have e4 := mf_top t u
  rw [show (sf l hh li hj).lookup ("top" : Str) = (mf t u).lookup ("top" : Str) from e2, e4] at e3
  cases e3
/-- what is asked of the two classes -/
structure Two (K : PySem.W.Frag) (CM CS : Addr) : Prop where
  clM : Cls K CM
  iiM : IsC K CM
  ecM : EqC K CM
  clS : Cls K CS
  iiS : IsC K CS
  ecS : EqC K CS
  nMS : PySem.W.notFirst K CM (.ref CS) = true
  nSM : PySem.W.notFirst K CS (.ref CM) = true
  kMS : PySem.W.kitOne K (.ref CM) (.ref CS) = some false
  kSM : PySem.W.kitOne K (.ref CS) (.ref CM) = some false
def DAllS (K : PySem.W.Frag) (CM CS : Addr) : Eqb := DOr (DOr (DOwn K CS (REqS K CM CS)) (DRef CS (REqS K CM CS))) (DOwn K CM (REq K CM))
theorem LikeS.fwd {y : V} {b : Bool} (T : Two K CM CS) (h : LikeS CM CS H p y b) : DOwn K CS (REqS K CM CS) (.ref p) y H b := by
  cases h with
  | @st q lo hi lo' hi' li hj li' hj' a b =>
    obtain ⟨⟨d, l, hh, h1, _⟩, _⟩ := _root_.id a
    obtain ⟨⟨d', l', hh', k1, _⟩, _⟩ := _root_.id b
    refine ⟨p, d, _, _, rfl, h1, tyM k1 T.clS T.iiS, nf_self, fun e => ?_, p, lo, hi, li, hj, rfl, a, .inl ⟨q, lo', hi', li', hj', rfl, b, rfl⟩⟩
    cases e
    obtain ⟨rfl, rfl, rfl, rfl⟩ := a.uniq b
    exact eqS_self _ _ _ _
  | @kd _ Ty lo hi li hj a k =>
    obtain ⟨⟨d, l, hh, h1, _⟩, _⟩ := _root_.id a
    refine ⟨p, d, _, _, rfl, h1, k.ty, T.ecS.nf Ty k.mem, fun e => ?_, p, lo, hi, li, hj, rfl, a, .inr ⟨_, k.ty, T.ecS.kit Ty k.mem, rfl⟩⟩
    subst e
    exact (k.notIns h1).elim
  | @ms q t u lo hi li hj a m =>
    obtain ⟨⟨d, l, hh, h1, _⟩, _⟩ := _root_.id a
    obtain ⟨dm, hm⟩ := _root_.id m
    have ty := tyM hm T.clM T.iiM
    refine ⟨p, d, _, _, rfl, h1, ty, T.nSM, fun e => ?_, p, lo, hi, li, hj, rfl, a, .inr ⟨_, ty, T.kMS, rfl⟩⟩
    cases e
    exact (st_notM (q := p) a m).elim
theorem LikeS.bwd {y : V} {b : Bool} (T : Two K CM CS) (h : LikeS CM CS H p y b) : DAllS K CM CS y (.ref p) H b := by
  cases h with
  | @st q lo hi lo' hi' li hj li' hj' a b =>
    rw [eqS_comm]
    exact .inl (.inl (LikeS.fwd T (.st b a)))
  | @kd _ Ty lo hi li hj a k =>
    obtain ⟨⟨d, l, hh, h1, _⟩, _⟩ := _root_.id a
    refine .inl (.inr ⟨p, d, _, Ty, rfl, h1, k, fun e => ?_, p, lo, hi, li, hj, rfl, a, .inr ⟨_, k.ty, T.ecS.kit Ty k.mem, rfl⟩⟩)
    subst e
    exact (k.notIns h1).elim
  | @ms q t u lo hi li hj a m =>
    obtain ⟨⟨d, l, hh, h1, _⟩, _⟩ := _root_.id a
    obtain ⟨dm, hm⟩ := _root_.id m
    have ty := tyM h1 T.clS T.iiS
    refine .inr ⟨q, dm, _, _, rfl, hm, ty, T.nMS, fun e => ?_, q, t, u, rfl, m, .inr ⟨_, ty, T.kSM, rfl⟩⟩
    cases e
    exact (st_notM (q := p) a m).elim
theorem LikeS.inl {y : V} {b : Bool} (T : Two K CM CS) (h : LikeS CM CS H p y b) : InB (DAllS K CM CS) (.ref p) H [.non, y] b := by
  have go : ∀ {lo hi li hj}, StAt CM CS H p lo hi li hj → DAllS K CM CS .non (.ref p) H false := fun {lo hi li hj} a => LikeS.bwd T (.kd a .non)
  have nn : DAllS K CM CS .non (.ref p) H false := by
    cases h with
    | st a _ => exact go a
    | kd a _ => exact go a
    | ms a _ => exact go a
  refine .inr ⟨nn, ?_⟩
  cases b with
  | true => exact .inl ⟨h.bwd T, rfl⟩
  | false => exact .inr ⟨h.bwd T, rfl⟩
end
/-! ### texts of Stretches -/
def eT : Option Q2 → Str
  | none => ".."
  | some a => mTxt a.1 a.2
def rT : Option Q2 → Str
  | none => "None"
  | some a => mRep a.1 a.2
def sTxt (lo hi : Option Q2) (li hj : Bool) : Str := Txt.join "" [if li then "[" else "(", eT lo, ", ", eT hi, if hj then "]" else ")"]
def sRep (lo hi : Option Q2) (li hj : Bool) : Str := Str.empty ++ "Stretch(" ++ rT lo ++ ", " ++ rT hi ++ ", " ++ bTxt li ++ ", " ++ bTxt hj ++ ")"
/-- of at most so many bits -/
def SzO (k : Nat) : Option Q2 → Prop
  | none => True
  | some a => Sz k a.1 ∧ Sz k a.2
theorem eT_len {e : Option Q2} (h : LowO e) (s : SzO 1900 e) : (eT e).length ≤ 6001 := by
  cases e with
  | none => show (Str.ofString "..").length ≤ 6001; decide
  | some a => exact mTxt_len s.1 s.2 h.pos
theorem rT_len {e : Option Q2} (s : SzO 1900 e) : (rT e).length ≤ 6001 := by
  cases e with
  | none => show (Str.ofString "None").length ≤ 6001; decide
  | some a => exact Nat.le_trans (mRep_len s.1 s.2) (by decide)
theorem bTxt_len (b : Bool) : (bTxt b).length ≤ 5 := by cases b <;> decide
theorem sTxt_eq (lo hi : Option Q2) (li hj : Bool) : sTxt lo hi li hj = (if li then ("[" : Str) else "(") ++ eT lo ++ ", " ++ eT hi ++ (if hj then ("]" : Str) else ")") := by
  unfold sTxt
  rw [join_eq]
  have e : (Str.ofString "" : Str) = Str.empty := rfl
  show (if li then ("[" : Str) else "(") ++ "" ++ (eT lo ++ "" ++ (", " ++ "" ++ (eT hi ++ "" ++ (if hj then ("]" : Str) else ")")))) = _
  rw [e]
  simp only [Str.append_empty, Str.append_assoc]
/-- a comprehension without a test: as many as there were -/
theorem lcqT {K : PySem.W.Frag} {a : Addr} {xs : List V} {g : TG} {tt : TT} {te : TE} {vs : List Nat} {σ : L2.St} {H1 : Hp} {D : Addr} {Qd : Hp → Prop} (R : Hp → V → Prop) (hR : ∀ H H' y, R H y → Nl H H' → R H' y) (hz : xs.length < sizeLine) (hS : SqT K H1 a xs) (hD : H1 D = none)
    (hs : ∀ (i : Nat) (x : V) (H : Hp) (N : VK) (M : Hp → Prop), xs[i]? = some x → Same H1 H → (∀ y H4, Same H H4 → R H4 y → N y H4) → g x (wipe σ vs) H fun σ2 H2 => wipe σ2 vs = wipe σ vs ∧ tt σ2 H2 fun b H3 => if b = true then te σ2 H3 N else M H3)
    (hd : ∀ H ys, Same H1 H → H D = some (.lst ys) → ys.length = xs.length → (∀ y ∈ ys, R H y) → Qd H) :
    ∃ W : Nat → Nat → Hp → Prop, (∃ m, W 0 m (upd H1 D (.lst []))) ∧ ∀ i m H, W i m H →
      ((Itt K a).stop i H ∧ Qd H) ∨ ((Itt K a).go i H ∧ ∃ Nx : Hp → Prop, (∀ H', Nx H' → ∃ m', m' < m ∧ W (i + 1) m' H') ∧ ∀ x H', (Itt K a).yld i H x H' → g x (wipe σ vs) H' fun σ2 H2 => wipe σ2 vs = wipe σ vs ∧ tt σ2 H2 fun b H3 =>
        if b = true then te σ2 H3 fun y H4 => ∃ acc, H4 D = some (.lst acc) ∧ acc.length < sizeLine ∧ Nx (upd H4 D (.lst (acc ++ [y]))) else Nx H3) := by
  refine lc_tup (fun i H => Same H1 H ∧ ∃ ys, H D = some (.lst ys) ∧ ys.length = i ∧ ∀ y ∈ ys, R H y) ⟨same1 hD, [], upd_same, rfl, fun y hy => nomatch hy⟩ (fun i H _ p => p.1.sqt hS) (fun i x H hx p => ?_) (fun H p => ?_)
  · have hi : i < xs.length := (List.getElem?_eq_some_iff.mp hx).1
    obtain ⟨s1, ys, h1, h2, h3⟩ := p
    refine hs i x H _ _ hx s1 (fun y H4 s4 r4 => ⟨ys, s4 _ _ h1, by omega, ?_, ys ++ [y], upd_same, ?_, ?_⟩)
    · intro c o e
      rw [upd_ne (ne_of_none e hD)]
      exact s4 _ _ (s1 _ _ e)
    · rw [List.length_append, List.length_singleton]; omega
    · intro z hz
      have n4 : Nl H4 (upd H4 D (.lst (ys ++ [y]))) := Nl.put (s4 _ _ h1)
      rcases List.mem_append.mp hz with hz | hz
      · exact hR _ _ _ (hR _ _ _ (h3 z hz) (Nl.of s4)) n4
      · have : z = y := by simpa using hz
        subst this
        exact hR _ _ _ r4 n4
  · obtain ⟨s1, ys, h1, h2, h3⟩ := p
    exact hd H ys s1 h1 h2 h3
/-- the tuple of two ends and two truths -/
def EndsK (k : Nat) (H : Hp) (v : V) (ea eb : Option Q2) (ia ib : Bool) : Prop := ∃ p va vb, v = .ref p ∧ H p = some (.tup [va, vb, .bl ia, .bl ib]) ∧ EndV k H va ea ∧ EndV k H vb eb
theorem EndsK.nl {k : Nat} {H H' : Hp} {v : V} {ea eb : Option Q2} {ia ib : Bool} (a : EndsK k H v ea eb ia ib) (s : Nl H H') : EndsK k H' v ea eb ia ib := by
  obtain ⟨p, va, vb, h0, h1, h2, h3⟩ := a
  exact ⟨p, va, vb, h0, s _ _ h1 rfl, h2.nl s, h3.nl s⟩
theorem EndsK.same {k : Nat} {H H' : Hp} {v : V} {ea eb : Option Q2} {ia ib : Bool} (a : EndsK k H v ea eb ia ib) (s : Same H H') : EndsK k H' v ea eb ia ib := a.nl (Nl.of s)
theorem EndsAt.k {H : Hp} {p : Addr} {ea eb : Option Q2} {ia ib : Bool} (a : EndsAt H p ea eb ia ib) : EndsK 150 H (.ref p) ea eb ia ib := by
  obtain ⟨⟨va, vb, h1, h2, h3⟩, _⟩ := a
  exact ⟨p, va, vb, rfl, h1, h2.mono (by decide), h3.mono (by decide)⟩
/-- what the law holds of two tuples of ends -/
def endsEq (ea eb : Option Q2) (ia ib : Bool) (fa fb : Option Q2) (ja jb : Bool) : Bool := optEq ea fa && (optEq eb fb && ((!ea.isSome || decide (V.bl ia = V.bl ja)) && (!eb.isSome || decide (V.bl ib = V.bl jb))))
theorem optEq_re {a b c d : Option Q2} (h : ReO a c) (g : ReO b d) : optEq a b = optEq c d := by
  cases a with
  | none =>
    cases c with
    | some _ => exact h.elim
    | none =>
      cases b with
      | none => cases d with
        | none => rfl
        | some _ => exact g.elim
      | some _ => cases d with
        | none => exact g.elim
        | some _ => rfl
  | some a =>
    cases c with
    | none => exact h.elim
    | some c =>
      cases b with
      | none => cases d with
        | none => rfl
        | some _ => exact g.elim
      | some b => cases d with
        | none => exact g.elim
        | some d => exact eqq_congr h g
theorem dB {a b : Bool} : decide (V.bl a = V.bl b) = (a == b) := by cases a <;> cases b <;> rfl
theorem eqS_ends {m1 m2 n1 n2 ea eb fa fb : Option Q2} {ia ib ja jb : Bool} (a : ReO m1 ea) (b : ReO m2 eb) (c : ReO n1 fa) (d : ReO n2 fb) :
    eqS m1 m2 (ia && ea.isSome) (ib && eb.isSome) n1 n2 (ja && fa.isSome) (jb && fb.isSome) = endsEq ea eb ia ib fa fb ja jb := by
  unfold eqS endsEq
  rw [optEq_re a c, optEq_re b d, dB, dB, dB, dB]
  cases ea <;> cases fa <;> cases eb <;> cases fb <;> simp [optEq]
theorem re_low {m a : Q2} (h : Re m a) (l : Low m) : m.1.natAbs ≤ a.1.natAbs ∧ m.2.natAbs ≤ a.2.natAbs := by
  obtain ⟨h1, h2, e⟩ := h
  have co : Int.gcd m.2 m.1 = 1 := by rw [Int.gcd_comm]; exact l.co
  have d2 : m.2 ∣ a.2 := dvd_co (b := m.1) ⟨a.1, by rw [e, Int.mul_comm]⟩ co
  obtain ⟨k, hk⟩ := d2
  have k0 : 0 < k := by
    rcases Int.lt_or_le 0 k with z | z
    · exact z
    · have := Int.mul_nonneg_of_nonpos_of_nonpos (show -m.2 ≤ 0 by omega) z
      have e2 : -m.2 * k = -(m.2 * k) := Int.neg_mul ..
      omega
  have e1 : a.1 = m.1 * k := by
    have : a.1 * m.2 = (m.1 * k) * m.2 := by
      rw [← e, hk]
      simp only [Int.mul_assoc, Int.mul_comm, Int.mul_left_comm]
    exact Int.eq_of_mul_eq_mul_right (by omega) this
  constructor
  · rw [e1, Int.natAbs_mul]
    exact Nat.le_mul_of_pos_right _ (by omega)
  · rw [hk, Int.natAbs_mul]
    exact Nat.le_mul_of_pos_right _ (by omega)
theorem fr_low {t u : Int} {m a : Q2} (f : Fr t u a.1 a.2) (h : Re m a) (l : Low m) (s1 : Sz 4000 a.1) (s2 : Sz 4000 a.2) : m = (t, u) := by
  have ha := h.2.1
  have e : t * m.2 = m.1 * u := f.of (by omega) h.2.2.symm
  exact low_eq l ⟨f.pos, f.co, s1.le f.lt, s2.le f.lu⟩ e.symm
end My
namespace My
open PySem PySem.Spec PyProof.Rows L2
/-! ### texts by their signs: partings at the last and the first sign -/
abbrev St8 (l : List Nat) : Str := SX.S l
def lastSplit (c : Nat) : List Nat → Option (List Nat × List Nat)
  | [] => none
  | x :: r => match lastSplit c r with
    | some (p, q) => some (x :: p, q)
    | none => if x = c then some ([], r) else none
def firstSplit (c : Nat) : List Nat → Option (List Nat × List Nat)
  | [] => none
  | x :: r => if x = c then some ([], r) else match firstSplit c r with
    | some (p, q) => some (x :: p, q)
    | none => none
theorem lastSplit_none {c : Nat} : ∀ {l : List Nat}, lastSplit c l = none → c ∉ l
  | [], _ => List.not_mem_nil
  | x :: r, h => by
    unfold lastSplit at h
    cases e : lastSplit c r with
    | some z => rw [e] at h; cases h
    | none =>
      rw [e] at h
      have n := lastSplit_none e
      by_cases hx : x = c
      · have h : (if x = c then some (([] : List Nat), r) else none) = none := h
        rw [if_pos hx] at h; cases h
      · intro m
        rcases List.mem_cons.mp m with m | m
        · exact hx m.symm
        · exact n m
theorem lastSplit_some {c : Nat} : ∀ {l p q : List Nat}, lastSplit c l = some (p, q) → l = p ++ c :: q ∧ c ∉ q
  | [], _, _, h => nomatch h
  | x :: r, p, q, h => by
    unfold lastSplit at h
    cases e : lastSplit c r with
    | some z =>
      obtain ⟨p', q'⟩ := z
      rw [e] at h
      have h : some (x :: p', q') = some (p, q) := h
      cases h
      obtain ⟨h1, h2⟩ := lastSplit_some e
      exact ⟨by rw [h1]; rfl, h2⟩
    | none =>
      rw [e] at h
      have h : (if x = c then some (([] : List Nat), r) else none) = some (p, q) := h
      by_cases hx : x = c
      · rw [if_pos hx] at h
        cases h
        exact ⟨by rw [hx]; rfl, lastSplit_none e⟩
      · rw [if_neg hx] at h; cases h
theorem lastSplit_no {c : Nat} {l : List Nat} (h : c ∉ l) : lastSplit c l = none := by
  cases e : lastSplit c l with
  | none => rfl
  | some z =>
    obtain ⟨p, q⟩ := z
    obtain ⟨h1, _⟩ := lastSplit_some e
    exact absurd (by rw [h1]; simp) h
theorem lastSplit_app {c : Nat} : ∀ {p q : List Nat}, c ∉ q → lastSplit c (p ++ c :: q) = some (p, q)
  | [], q, h => by
    show (match lastSplit c q with | some (p, q) => some (c :: p, q) | none => if c = c then some ([], q) else none) = _
    rw [lastSplit_no h, if_pos rfl]
  | x :: p, q, h => by
    show (match lastSplit c (p ++ c :: q) with | some (p, q) => some (x :: p, q) | none => if x = c then some ([], p ++ c :: q) else none) = _
    rw [lastSplit_app h]
theorem firstSplit_none {c : Nat} : ∀ {l : List Nat}, firstSplit c l = none → c ∉ l
  | [], _ => List.not_mem_nil
  | x :: r, h => by
    unfold firstSplit at h
    by_cases hx : x = c
    · rw [if_pos hx] at h; cases h
    · rw [if_neg hx] at h
      cases e : firstSplit c r with
      | some z => rw [e] at h; cases h
      | none =>
        intro m
        rcases List.mem_cons.mp m with m | m
        · exact hx m.symm
        · exact firstSplit_none e m
theorem firstSplit_some {c : Nat} : ∀ {l p q : List Nat}, firstSplit c l = some (p, q) → l = p ++ c :: q ∧ c ∉ p
  | [], _, _, h => nomatch h
  | x :: r, p, q, h => by
    unfold firstSplit at h
    by_cases hx : x = c
    · rw [if_pos hx] at h
      cases h
      exact ⟨by rw [hx]; rfl, List.not_mem_nil⟩
    · rw [if_neg hx] at h
      cases e : firstSplit c r with
      | none => rw [e] at h; cases h
      | some z =>
        obtain ⟨p', q'⟩ := z
        rw [e] at h
        have h : some (x :: p', q') = some (p, q) := h
        cases h
        obtain ⟨h1, h2⟩ := firstSplit_some e
        refine ⟨by rw [h1]; rfl, fun m => ?_⟩
        rcases List.mem_cons.mp m with m | m
        · exact hx m.symm
        · exact h2 m
theorem firstSplit_no {c : Nat} {l : List Nat} (h : c ∉ l) : firstSplit c l = none := by
  cases e : firstSplit c l with
  | none => rfl
  | some z =>
    obtain ⟨p, q⟩ := z
    obtain ⟨h1, _⟩ := firstSplit_some e
    exact absurd (by rw [h1]; simp) h
theorem firstSplit_app {c : Nat} : ∀ {p q : List Nat}, c ∉ p → firstSplit c (p ++ c :: q) = some (p, q)
  | [], q, _ => by
    show (if c = c then some ([], q) else _) = _
    rw [if_pos rfl]
  | x :: p, q, h => by
    have hx : ¬ x = c := fun e => h (by rw [e]; simp)
    show (if x = c then some ([], p ++ c :: q) else match firstSplit c (p ++ c :: q) with | some (p, q) => some (x :: p, q) | none => none) = _
    rw [if_neg hx, firstSplit_app fun m => h (List.mem_cons_of_mem _ m)]
/-! ### x.rpartition(sep) -/
def Rp (x y : Str) : Str × Str × Str := match Builtin.Str.lastOccurrence x y 0 x.length with
  | some i => (Builtin.Str.strSub x 0 i, y, Builtin.Str.strSub x (i + y.length) x.length)
  | none => (Str.empty, Str.empty, x)
theorem mt_rpartition {X : Cx} : MtR X "str.rpartition" (fun x xs H Q => ∃ a b, x = .str a ∧ xs = [.str b] ∧ (b.length == 0) = false ∧ a.length ≤ sizeLine ∧
    ∀ p, H p = none → Q (.ref p) (upd H p (.tup [.str (Rp a b).1, .str (Rp a b).2.1, .str (Rp a b).2.2]))) := by
  intro pins s σ H x xs v us Q I rx rs h
  obtain ⟨a, b, rfl, rfl, hb, hz, h⟩ := h
  obtain ⟨t, rfl⟩ := rx
  cases rs with
  | cons r1 rs =>
    cases rs
    obtain ⟨u, rfl⟩ := r1
    refine call_meets F.slot_str_rpartition (typeIs_str _ _ _) F.entry_str_rpartition (F.args_str_rpartition_2 _ _) (meets_str_rpartition a b t u hb hz) ?_
    unfold Rp at h
    revert h
    cases Builtin.Str.lastOccurrence a b 0 a.length with
    | none => intro h; exact laid_parts I h
    | some i => intro h; exact laid_parts I h
theorem pre1 {c : Nat} {l : List Nat} {i : Nat} : TL.pre [c] (l.drop i) = true ↔ l[i]? = some c := by
  unfold TL.pre
  rw [beq_iff_eq]
  cases e : l.drop i with
  | nil =>
    have : l.length ≤ i := List.drop_eq_nil_iff.mp e
    rw [List.getElem?_eq_none this]
    simp
  | cons x r =>
    have h : l[i]? = some x := by
      have := congrArg (fun z : List Nat => z[0]?) e
      simp only [List.getElem?_drop, Nat.add_zero, List.getElem?_cons_zero] at this
      exact this
    rw [h]
    simp
theorem Rp_app {c : Nat} {p q : List Nat} (h : c ∉ q) : Rp (St8 (p ++ c :: q)) (St8 [c]) = (St8 p, St8 [c], St8 q) := by
  have hy : TL.tl (St8 [c]) ≠ [] := by simp [TL.tl]
  have at_ : ∀ i, StrLaws.At (St8 (p ++ c :: q)) (St8 [c]) (St8 (p ++ c :: q)).length i ↔ (p ++ c :: q)[i]? = some c := fun i => (TL.at_iff hy i).trans pre1
  have hp : (p ++ c :: q)[p.length]? = some c := by simp
  have hq : ∀ i, p.length < i → ¬ (p ++ c :: q)[i]? = some c := fun i hi e => by
    have e2 : (p ++ c :: q)[i]? = q[i - p.length - 1]? := by
      rw [List.getElem?_append_right (by omega)]
      have : i - p.length = (i - p.length - 1) + 1 := by omega
      rw [this, List.getElem?_cons_succ]
      rfl
    rw [e2] at e
    exact h (List.mem_of_getElem? e)
  unfold Rp
  rcases StrLaws.last_spec (St8 (p ++ c :: q)) (St8 [c]) with ⟨_, n⟩ | ⟨i, e, a, n⟩
  · exact absurd ((at_ _).mpr hp) (n _)
  · have hi : i = p.length := by
      rcases Nat.lt_trichotomy i p.length with z | z | z
      · exact absurd ((at_ _).mpr hp) (n _ z)
      · exact z
      · exact absurd ((at_ _).mp a) (hq _ z)
    subst hi
    rw [e]
    have e1 : Builtin.Str.strSub (St8 (p ++ c :: q)) 0 p.length = St8 p := TL.ext_tl (by
      rw [TL.tl_strSub, List.drop_zero, Nat.sub_zero]
      show (p ++ c :: q).take p.length = p
      rw [List.take_left'] <;> rfl)
    have e2 : Builtin.Str.strSub (St8 (p ++ c :: q)) (p.length + (St8 [c]).length) (St8 (p ++ c :: q)).length = St8 q := TL.ext_tl (by
      rw [TL.tl_strSub_end]
      show (p ++ c :: q).drop (p.length + 1) = q
      rw [← List.drop_drop, List.drop_left'] <;> rfl)
    show (_, _, _) = _
    rw [e1, e2]
theorem Rp_none {c : Nat} {l : List Nat} (h : c ∉ l) : Rp (St8 l) (St8 [c]) = (Str.empty, Str.empty, St8 l) := by
  have hy : TL.tl (St8 [c]) ≠ [] := by simp [TL.tl]
  unfold Rp
  rcases StrLaws.last_spec (St8 l) (St8 [c]) with ⟨e, _⟩ | ⟨i, e, a, _⟩
  · rw [e]
  · exact absurd (List.mem_of_getElem? (pre1.mp ((TL.at_iff hy i).mp a))) h
theorem Pt_app {c : Nat} {p q : List Nat} (h : c ∉ p) : Txt.partition (St8 (p ++ c :: q)) (St8 [c]) = (St8 p, St8 [c], St8 q) :=
  SX.partition_some (List.cons_ne_nil _ _) (SX.par_head q h)
theorem Pt_none {c : Nat} {l : List Nat} (h : c ∉ l) : Txt.partition (St8 l) (St8 [c]) = (St8 l, St8 [], St8 []) :=
  SX.partition_none (List.cons_ne_nil _ _) (SX.par_head_none h)
/-! ### a leading sign -/
theorem sub0 {c : Nat} {l : List Nat} : Builtin.Str.subAt (St8 l) (St8 [c]) 0 = true ↔ ∃ r, l = c :: r := by
  have hy : TL.tl (St8 [c]) ≠ [] := by simp [TL.tl]
  have h := TL.at_iff (x := St8 l) hy 0
  constructor
  · intro e
    have h1 : 0 + (St8 [c]).length ≤ (St8 l).length := by
      have := StrLaws.subAt_zero_le e
      omega
    have h2 := pre1.mp (h.mp ⟨h1, e⟩)
    cases l with
    | nil => simp at h2
    | cons x r =>
      have h2 : some x = some c := h2
      cases h2
      exact ⟨r, rfl⟩
  · rintro ⟨r, rfl⟩
    exact (h.mpr (pre1.mpr rfl)).2
theorem rmp_yes {c : Nat} {r : List Nat} : Txt.removeprefix (St8 (c :: r)) (St8 [c]) = St8 r := by
  rw [StrLaws.removeprefix_eq]
  have h : Builtin.Str.subAt (St8 (c :: r)) (St8 [c]) 0 = true := sub0.mpr ⟨r, rfl⟩
  have h1 : 0 + (St8 [c]).length ≤ (St8 (c :: r)).length := by
    have := StrLaws.subAt_zero_le h
    omega
  rw [h, decide_eq_true h1]
  show (⟨(((c :: r).drop 1).take ((St8 (c :: r)).length - 1)).toArray⟩ : Str) = St8 r
  have : ((c :: r).drop 1).take ((St8 (c :: r)).length - 1) = r := by
    show r.take _ = r
    refine List.take_of_length_le ?_
    rw [SX.S_len, List.length_cons]
    omega
  rw [this]
theorem rmp_no {c : Nat} {l : List Nat} (h : ∀ r, l ≠ c :: r) : Txt.removeprefix (St8 l) (St8 [c]) = St8 l := by
  rw [StrLaws.removeprefix_eq]
  have e : Builtin.Str.subAt (St8 l) (St8 [c]) 0 = false := by
    cases z : Builtin.Str.subAt (St8 l) (St8 [c]) 0 with
    | false => rfl
    | true => obtain ⟨r, e⟩ := sub0.mp z; exact absurd e (h r)
  rw [e, Bool.and_false]
  rfl
def sw (c : Nat) : List Nat → Bool
  | [] => false
  | x :: _ => decide (x = c)
theorem sw_of {c : Nat} {l : List Nat} : Txt.startswith (St8 l) (St8 [c]) = sw c l := by
  unfold Txt.startswith
  cases z : Builtin.Str.subAt (St8 l) (St8 [c]) 0 with
  | false =>
    rw [Bool.and_false]
    cases l with
    | nil => rfl
    | cons x r =>
      show false = decide (x = c)
      refine (decide_eq_false fun e => ?_).symm
      rw [sub0.mpr ⟨r, by rw [e]⟩] at z
      cases z
  | true =>
    have := StrLaws.subAt_zero_le z
    rw [decide_eq_true (by omega : 0 + (St8 [c]).length ≤ (St8 l).length)]
    obtain ⟨r, rfl⟩ := sub0.mp z
    show true = decide (c = c)
    rw [decide_eq_true rfl]
/-! ### the words of a measure's text -/
def dig (c : Nat) : Bool := decide (48 ≤ c) && decide (c ≤ 57)
def isNumL (l : List Nat) : Bool := decide (1 ≤ l.length) && (decide (l.length ≤ 12) && l.all dig)
def slashL (l : List Nat) : List Nat × List Nat := match firstSplit 47 l with
  | some z => z
  | none => (l, [])
def nwL (l : List Nat) : List Nat × List Nat × List Nat :=
  if 47 ∈ l then match lastSplit 32 l with
    | none => ([48], (slashL l).1, (slashL l).2)
    | some (w, p) => (w, (slashL p).1, (slashL p).2)
  else (l, [48], [49])
def bodyL : List Nat → List Nat
  | [] => []
  | x :: r => if x = 45 then r else x :: r
def valL (l : List Nat) : Int := ((NumText.digitsVal l : Nat) : Int)
def looseL (l : List Nat) : Option Q2 :=
  let w := nwL (bodyL l)
  if isNumL w.1 && (isNumL w.2.1 && isNumL w.2.2) then
    if valL w.2.2 = 0 then none else some ((if sw 45 l then -1 else 1) * (valL w.1 * valL w.2.2 + valL w.2.1), valL w.2.2)
  else none
theorem dig_ok {c : Nat} : dig c = true ↔ 48 ≤ c ∧ c ≤ 57 := by
  unfold dig; rw [Bool.and_eq_true, decide_eq_true_eq, decide_eq_true_eq]
theorem allDig {l : List Nat} : l.all dig = true ↔ NumText.AllDigits l := by
  rw [List.all_eq_true]
  exact ⟨fun h c hc => dig_ok.mp (h c hc), fun h c hc => dig_ok.mpr (h c hc)⟩
theorem isNum_of {l : List Nat} (h : isNumL l = true) : l ≠ [] ∧ l.length ≤ 12 ∧ NumText.AllDigits l := by
  unfold isNumL at h
  rw [Bool.and_eq_true, Bool.and_eq_true, decide_eq_true_eq, decide_eq_true_eq] at h
  exact ⟨fun e => (by rw [e] at h; exact absurd h.1 (by decide)), h.2.1, allDig.mp h.2.2⟩
theorem isNum_num {n : Nat} (h : n < 10 ^ 12) : isNumL (TL.numL n) = true := by
  unfold isNumL
  have h1 := TL.numL_len (k := 12) (by decide) h
  have h2 : 1 ≤ (TL.numL n).length := by
    cases e : TL.numL n with
    | nil => exact absurd e (TL.numL_ne n)
    | cons x r => rw [List.length_cons]; omega
  rw [decide_eq_true h1, decide_eq_true h2, allDig.mpr (TL.numL_digits n)]
  rfl
theorem val_num (n : Nat) : valL (TL.numL n) = n := by
  unfold valL; rw [TL.numL_val]
theorem body_num {n : Nat} {r : List Nat} : bodyL (TL.numL n ++ r) = TL.numL n ++ r ∧ sw 45 (TL.numL n ++ r) = false := by
  cases e : TL.numL n with
  | nil => exact absurd e (TL.numL_ne n)
  | cons x z =>
    have d := TL.numL_digits n x (by rw [e]; simp)
    have ne : ¬ x = 45 := by omega
    exact ⟨if_neg ne, decide_eq_false ne⟩
theorem nw_whole (n : Nat) : nwL (TL.numL n) = (TL.numL n, [48], [49]) := if_neg (TL.numL_free (.inl (by decide)))
theorem nw_part (n m : Nat) : nwL (TL.numL n ++ 47 :: TL.numL m) = ([48], TL.numL n, TL.numL m) := by
  unfold nwL
  have h : 32 ∉ TL.numL n ++ 47 :: TL.numL m := by
    intro z
    rcases List.mem_append.mp z with z | z
    · exact TL.numL_free (.inl (by decide)) z
    · rcases List.mem_cons.mp z with z | z
      · exact absurd z (by decide)
      · exact TL.numL_free (.inl (by decide)) z
  rw [if_pos (by simp), lastSplit_no h]
  show ([48], (slashL (TL.numL n ++ 47 :: TL.numL m)).1, (slashL (TL.numL n ++ 47 :: TL.numL m)).2) = _
  unfold slashL
  rw [firstSplit_app (TL.numL_free (.inl (by decide)))]
theorem nw_both (w n m : Nat) : nwL (TL.numL w ++ 32 :: (TL.numL n ++ 47 :: TL.numL m)) = (TL.numL w, TL.numL n, TL.numL m) := by
  unfold nwL
  have h : 32 ∉ TL.numL n ++ 47 :: TL.numL m := by
    intro z
    rcases List.mem_append.mp z with z | z
    · exact TL.numL_free (.inl (by decide)) z
    · rcases List.mem_cons.mp z with z | z
      · exact absurd z (by decide)
      · exact TL.numL_free (.inl (by decide)) z
  rw [if_pos (by simp), lastSplit_app h]
  show (TL.numL w, (slashL (TL.numL n ++ 47 :: TL.numL m)).1, (slashL (TL.numL n ++ 47 :: TL.numL m)).2) = _
  unfold slashL
  rw [firstSplit_app (TL.numL_free (.inl (by decide)))]
/-! ### the text of a Measure by its signs -/
theorem tl_iT (n : Nat) : TL.tl (iT (n : Int)) = TL.numL n := TL.tl_num n
def wL (a u : Nat) : List Nat := if a % u = 0 then TL.numL (a / u) else if a / u = 0 then TL.numL (a % u) ++ 47 :: TL.numL u else TL.numL (a / u) ++ 32 :: (TL.numL (a % u) ++ 47 :: TL.numL u)
theorem tl_wTxt {a u : Nat} : TL.tl (wTxt (a : Int) (u : Int)) = wL a u := by
  unfold wTxt wL
  have e1 : ((a : Int) % (u : Int)) = ((a % u : Nat) : Int) := by first | rfl | simp
  have e2 : ((a : Int) / (u : Int)) = ((a / u : Nat) : Int) := by first | rfl | simp
  rw [e1, e2]
  by_cases h1 : a % u = 0
  · rw [if_pos (by omega), if_pos h1]
    exact tl_iT _
  · rw [if_neg (by omega), if_neg h1]
    have es : TL.tl Str.empty = [] := rfl
    have e47 : TL.tl (Str.ofString "/") = [47] := by decide +kernel
    have e32 : TL.tl (Str.ofString " ") = [32] := by decide +kernel
    by_cases h2 : a / u = 0
    · rw [if_pos (by omega), if_pos h2]
      show TL.tl (Str.empty ++ iT _ ++ Str.ofString "/" ++ iT _) = _
      simp only [TL.tl_append, tl_iT, es, e47]
      simp
    · rw [if_neg (by omega), if_neg h2]
      show TL.tl (Str.empty ++ iT _ ++ Str.ofString " " ++ iT _ ++ Str.ofString "/" ++ iT _) = _
      simp only [TL.tl_append, tl_iT, es, e47, e32]
      simp
def mL (t u : Int) : List Nat := if t < 0 then 45 :: wL t.natAbs u.natAbs else wL t.natAbs u.natAbs
theorem tl_mTxt {t u : Int} (hu : 0 < u) : TL.tl (mTxt t u) = mL t u := by
  unfold mTxt mL
  have eu : u = ((u.natAbs : Nat) : Int) := by omega
  by_cases h : t < 0
  · rw [if_pos h, if_pos h]
    have et : -t = ((t.natAbs : Nat) : Int) := by omega
    have es : TL.tl Str.empty = [] := rfl
    have e45 : TL.tl (Str.ofString "-") = [45] := by decide +kernel
    show TL.tl (Str.empty ++ Str.ofString "-" ++ wTxt (-t) u) = _
    rw [et, TL.tl_append, TL.tl_append, es, e45]
    conv => lhs; rw [eu]
    rw [tl_wTxt]
    simp
  · rw [if_neg h, if_neg h]
    have et : t = ((t.natAbs : Nat) : Int) := by omega
    conv => lhs; rw [et, eu]
    exact tl_wTxt
theorem mTxt_S {t u : Int} (hu : 0 < u) : mTxt t u = St8 (mL t u) := TL.ext_tl (tl_mTxt hu)
theorem w_div {a u : Nat} (hu : 0 < u) (co : Nat.gcd a u = 1) (h : a % u = 0) : u = 1 := by
  have d : u ∣ a := Nat.dvd_of_mod_eq_zero h
  have : Nat.gcd a u = u := Nat.gcd_eq_right d
  omega
/-- what is written is read as it was -/
theorem loose_mL {t u : Int} (hu : 0 < u) (co : Int.gcd t u = 1) (s1 : t.natAbs / u.natAbs < 10 ^ 12) (s2 : u.natAbs < 10 ^ 12) : looseL (mL t u) = some (t, u) := by
  have hu' : 0 < u.natAbs := by omega
  have co' : Nat.gcd t.natAbs u.natAbs = 1 := co
  have eu : ((u.natAbs : Nat) : Int) = u := by omega
  -- the words of the body
  have key : ∃ W T U : Nat, nwL (wL t.natAbs u.natAbs) = (TL.numL W, TL.numL T, TL.numL U) ∧ W < 10 ^ 12 ∧ T < 10 ^ 12 ∧ U < 10 ^ 12 ∧ U = u.natAbs ∧ W * U + T = t.natAbs := by
    have dm := Nat.div_add_mod t.natAbs u.natAbs
    have lt := Nat.mod_lt t.natAbs hu'
    unfold wL
    by_cases h1 : t.natAbs % u.natAbs = 0
    · rw [if_pos h1]
      have e1 := w_div hu' co' h1
      refine ⟨t.natAbs / u.natAbs, 0, 1, nw_whole _, s1, by decide, by decide, e1.symm, ?_⟩
      rw [e1, Nat.div_one, Nat.mul_one, Nat.add_zero]
    · rw [if_neg h1]
      by_cases h2 : t.natAbs / u.natAbs = 0
      · rw [if_pos h2]
        refine ⟨0, t.natAbs % u.natAbs, u.natAbs, nw_part _ _, by decide, by omega, s2, rfl, ?_⟩
        rw [h2, Nat.mul_zero] at dm
        omega
      · rw [if_neg h2]
        refine ⟨t.natAbs / u.natAbs, t.natAbs % u.natAbs, u.natAbs, nw_both _ _ _, s1, by omega, s2, rfl, ?_⟩
        rw [Nat.mul_comm]
        exact dm
  have head : ∃ n r, wL t.natAbs u.natAbs = TL.numL n ++ r := by
    unfold wL
    split
    · exact ⟨_, [], (List.append_nil _).symm⟩
    · split
      · exact ⟨_, _, rfl⟩
      · exact ⟨_, _, rfl⟩
  obtain ⟨W, T, U, hk, w1, w2, w3, eU, eT'⟩ := key
  obtain ⟨n, r, hr⟩ := head
  have bd := body_num (n := n) (r := r)
  rw [← hr] at bd
  have fin : ∀ l s, bodyL l = wL t.natAbs u.natAbs → sw 45 l = s → ((if s then -1 else 1) * (t.natAbs : Int) = t) → looseL l = some (t, u) := by
    intro l s h1 h2 h3
    unfold looseL
    rw [h1, hk]
    show (if isNumL (TL.numL W) && (isNumL (TL.numL T) && isNumL (TL.numL U)) then if valL (TL.numL U) = 0 then none else some ((if sw 45 l then -1 else 1) * (valL (TL.numL W) * valL (TL.numL U) + valL (TL.numL T)), valL (TL.numL U)) else none) = _
    rw [isNum_num w1, isNum_num w2, isNum_num w3, val_num, val_num, val_num, h2, if_pos (by rfl), if_neg (by omega)]
    have e1 : (W : Int) * (U : Int) + (T : Int) = (t.natAbs : Int) := by
      have := congrArg (fun z : Nat => (z : Int)) eT'
      simpa using this
    rw [e1, h3, eU, eu]
  unfold mL
  by_cases h : t < 0
  · rw [if_pos h]
    exact fin (45 :: wL t.natAbs u.natAbs) true rfl rfl (by rw [if_pos rfl]; omega)
  · rw [if_neg h]
    exact fin _ false bd.1 bd.2 (by rw [if_neg (by decide)]; omega)
end My
namespace My
open PySem PySem.Spec PyProof.Rows L2
/-! ### list.count(True) of truths -/
def eqb (v : Value) : Bool := match v with
  | .bool b => b
  | _ => false
def rCntB (K : PySem.W.Frag) : V → List V → Hp → VK → Prop := fun x xs H Q => ∃ (p : Addr) (bs : List Bool), x = .ref p ∧ xs = [.bl true] ∧ SqL K H p (bs.map V.bl) ∧ Q (.int (bs.countP id : Nat)) H
theorem eqb_count : ∀ (bs : List Bool), (bs.map Value.bool).countP eqb = bs.countP id
  | [] => rfl
  | b :: r => by
    rw [List.map_cons, List.countP_cons, List.countP_cons, eqb_count r] <;> rfl
theorem mt_countB {X : Cx} : MtR X "list.count" (rCntB X.K) := by
  intro pins s σ H x xs v us Q I rx rxs h
  obtain ⟨p, bs, rfl, rfl, hs, q⟩ := h
  cases rx
  obtain ⟨u, rfl, ru⟩ := rxs.one
  cases (show u = Value.bool true from ru)
  obtain ⟨its, rv, ⟨⟨cls, dd, data, sl⟩, n, ho, hc, hdn, hd⟩, hlen⟩ := I.list hs
  simp only at hc hd
  subst hc hd
  have hi := Vals.bls rv
  subst hi
  refine call_meets PySem.F.slot_list_count ⟨_, ho, rfl⟩ PySem.F.entry_list_count (PySem.F.args_list_count_2 _ _)
    (SeqAt.list_countAt p (bs.map Value.bool).toArray n dd sl (.bool true) eqb) ⟨ho, fun y hy => ?_, ?_⟩
  · have hy : y ∈ bs.map Value.bool := by simpa using hy
    obtain ⟨b, _, rfl⟩ := List.mem_map.mp hy
    have e := SeqAt.EqAt.bool_bool (A := X.A.in1) (s := s) b true
    have e2 : (b == true) = eqb (.bool b) := by cases b <;> rfl
    rw [e2] at e
    exact e
  · have ec : (bs.map Value.bool).toArray.toList.countP eqb = bs.countP id := eqb_count bs
    refine ⟨.int (bs.countP id : Nat), H, I.tok _, ⟨s.toks, ?_⟩, q⟩
    show Value.int (((bs.map Value.bool).toArray.toList.countP eqb : Nat) : Int) s.toks = Value.int ((bs.countP id : Nat) : Int) s.toks
    rw [ec]
/-! ### Measures as fractions -/
theorem co_eq {a b : Q2} (h1 : 0 < a.2) (c1 : Int.gcd a.1 a.2 = 1) (g1 : 0 < b.2) (c2 : Int.gcd b.1 b.2 = 1) (e : a.1 * b.2 = b.1 * a.2) : a = b := by
  have d1 : a.2 ∣ b.2 := by
    have : a.2 ∣ a.1 * b.2 := ⟨b.1, by rw [e, Int.mul_comm]⟩
    exact dvd_co this (by rw [Int.gcd_comm]; exact c1)
  have d2 : b.2 ∣ a.2 := by
    have : b.2 ∣ b.1 * a.2 := ⟨a.1, by rw [← e, Int.mul_comm]⟩
    exact dvd_co this (by rw [Int.gcd_comm]; exact c2)
  have e2 : a.2 = b.2 := Int.le_antisymm (Int.le_of_dvd g1 d1) (Int.le_of_dvd h1 d2)
  rw [e2] at e
  exact Prod.ext (Int.eq_of_mul_eq_mul_right (by omega) e) e2
theorem fr_of {t u A B : Int} (hu : 0 < u) (co : Int.gcd t u = 1) (hB : 0 < B) (e : t * B = A * u) : Fr t u A B := by
  have co' : Int.gcd u t = 1 := by rw [Int.gcd_comm]; exact co
  have d2 : u ∣ B := dvd_co (b := t) ⟨A, by rw [e, Int.mul_comm]⟩ co'
  obtain ⟨k, hk⟩ := d2
  have k0 : 0 < k := by
    rcases Int.lt_or_le 0 k with z | z
    · exact z
    · have := Int.mul_nonneg_of_nonpos_of_nonpos (show -u ≤ 0 by omega) z
      have e2 : -u * k = -(u * k) := Int.neg_mul ..
      omega
  have e1 : A = t * k := by
    have : A * u = (t * k) * u := by
      rw [← e, hk]
      simp only [Int.mul_assoc, Int.mul_comm, Int.mul_left_comm]
    exact Int.eq_of_mul_eq_mul_right (by omega) this
  refine ⟨hu, e, co, ?_, ?_⟩
  · rw [e1, Int.natAbs_mul]
    exact Nat.le_mul_of_pos_right _ (by omega)
  · rw [hk, Int.natAbs_mul]
    exact Nat.le_mul_of_pos_right _ (by omega)
def qadd (x y : Q2) : Q2 := (x.1 * y.2 + y.1 * x.2, x.2 * y.2)
def qsub (x y : Q2) : Q2 := (x.1 * y.2 - y.1 * x.2, x.2 * y.2)
def qmul (x y : Q2) : Q2 := (x.1 * y.1, x.2 * y.2)
def qprt (x : Q2) (m : Int) : Q2 := (x.1 * sgn m, x.2 * (m * sgn m))
def qmk (a b : Int) : Q2 := (a * sgn b, b * sgn b)
theorem sgn_pos {m : Int} (h : m ≠ 0) : 0 < m * sgn m := by
  unfold sgn; split
  · omega
  · rw [Int.mul_neg_one]; omega
structure QAt (C : Addr) (H : Hp) (p : Addr) (k : Nat) (x : Q2) : Prop where
  ob : ∃ t u, MAt C H p t u ∧ Fr t u x.1 x.2
  pos : 0 < x.2
  s1 : Sz k x.1
  s2 : Sz k x.2
theorem QAt.same {C p : Addr} {H H' : Hp} {k : Nat} {x : Q2} (h : QAt C H p k x) (s : Same H H') : QAt C H' p k x := by
  obtain ⟨⟨t, u, m, f⟩, h1, h2, h3⟩ := h
  exact ⟨⟨t, u, m.same s, f⟩, h1, h2, h3⟩
theorem QAt.mono {C p : Addr} {H : Hp} {k j : Nat} {x : Q2} (h : QAt C H p k x) (l : k ≤ j) : QAt C H p j x := ⟨h.ob, h.pos, h.s1.mono l, h.s2.mono l⟩
theorem QAt.kp {C p hd : Addr} {H H' : Hp} {n k : Nat} {x : Q2} (h : QAt C H p k x) (hh : HandAt H hd n) (s : Kp hd H H') : QAt C H' p k x := by
  obtain ⟨⟨t, u, m, f⟩, h1, h2, h3⟩ := h
  exact ⟨⟨t, u, m.kp hh s, f⟩, h1, h2, h3⟩
theorem QAt.nl {C p : Addr} {H H' : Hp} {k : Nat} {x : Q2} (h : QAt C H p k x) (s : Nl H H') : QAt C H' p k x := by
  obtain ⟨⟨t, u, ⟨d, m⟩, f⟩, h1, h2, h3⟩ := h
  exact ⟨⟨t, u, ⟨d, s _ _ m rfl⟩, f⟩, h1, h2, h3⟩
section
variable {C p q : Addr} {H : Hp} {Q : VK} {E : XK} {k j : Nat} {x y : Q2}
theorem QAt.raw (h : QAt C H p k x) {m : Str} (h1 : ¬ m = "top") (h2 : ¬ m = "bottom") : ∃ dx fs, H p = some (.ins C dx fs) ∧ fs.lookup m = none := by
  obtain ⟨⟨t, u, ⟨d, m⟩, f⟩, _⟩ := h
  exact ⟨d, _, m, mf_no _ _ h1 h2⟩
theorem q_add (hx : QAt C H p k x) (hy : QAt C H q j y) (l : k + j ≤ 8900) (l0 : 0 < k) (l1 : 0 < j) (f : ∀ (r : Addr) (H' : Hp), Same H H' → QAt C H' r (k + j + 1) (qadd x y) → Q (.ref r) H') :
    sp_bin2 C (fun t u t' u' => t * u' + t' * u) (fun t u t' u' => u * u') [.ref p, .ref q] H Q E := by
  obtain ⟨⟨t, u, m1, f1⟩, px, a1, a2⟩ := hx
  obtain ⟨⟨t', u', m2, f2⟩, py, b1, b2⟩ := hy
  refine ⟨p, q, t, u, t', u', rfl, m1, m2, f1.pos, f2.pos, (a1.le f1.lt).mono (by omega), (a2.le f1.lu).mono (by omega), (b1.le f2.lt).mono (by omega), (b2.le f2.lu).mono (by omega), ((a2.le f1.lu).mul (b2.le f2.lu)).mono (by omega), fun r t2 u2 H' _ s m f3 => ?_⟩
  refine f r H' s ⟨⟨t2, u2, m, fr_of f3.pos f3.co (Int.mul_pos px py) ?_⟩, Int.mul_pos px py, (a1.mul b2).add ((b1.mul a2).mono (by omega)), (a2.mul b2).mono (by omega)⟩
  have e1 := f1.eq
  have e2 := f2.eq
  have e3 := f3.eq
  have z : (t2 * (x.2 * y.2)) * (u * u') = ((x.1 * y.2 + y.1 * x.2) * u2) * (u * u') := by
    have : (t2 * (x.2 * y.2)) * (u * u') = (t2 * (u * u')) * (x.2 * y.2) := by grind
    rw [this, e3]
    have w1 : (t * u' + t' * u) * u2 * (x.2 * y.2) = ((t * x.2) * u' * y.2 + (t' * y.2) * u * x.2) * u2 := by grind
    rw [w1, e1, e2]
    grind
  have pu := Int.mul_pos f1.pos f2.pos
  exact Int.eq_of_mul_eq_mul_right (by omega) z
theorem q_sub (hx : QAt C H p k x) (hy : QAt C H q j y) (l : k + j ≤ 8900) (l0 : 0 < k) (l1 : 0 < j) (f : ∀ (r : Addr) (H' : Hp), Same H H' → QAt C H' r (k + j + 1) (qsub x y) → Q (.ref r) H') :
    sp_bin2 C (fun t u t' u' => t * u' - t' * u) (fun t u t' u' => u * u') [.ref p, .ref q] H Q E := by
  obtain ⟨⟨t, u, m1, f1⟩, px, a1, a2⟩ := hx
  obtain ⟨⟨t', u', m2, f2⟩, py, b1, b2⟩ := hy
  refine ⟨p, q, t, u, t', u', rfl, m1, m2, f1.pos, f2.pos, (a1.le f1.lt).mono (by omega), (a2.le f1.lu).mono (by omega), (b1.le f2.lt).mono (by omega), (b2.le f2.lu).mono (by omega), ((a2.le f1.lu).mul (b2.le f2.lu)).mono (by omega), fun r t2 u2 H' _ s m f3 => ?_⟩
  refine f r H' s ⟨⟨t2, u2, m, fr_of f3.pos f3.co (Int.mul_pos px py) ?_⟩, Int.mul_pos px py, (a1.mul b2).sub ((b1.mul a2).mono (by omega)), (a2.mul b2).mono (by omega)⟩
  have e1 := f1.eq
  have e2 := f2.eq
  have e3 := f3.eq
  have z : (t2 * (x.2 * y.2)) * (u * u') = ((x.1 * y.2 - y.1 * x.2) * u2) * (u * u') := by
    have : (t2 * (x.2 * y.2)) * (u * u') = (t2 * (u * u')) * (x.2 * y.2) := by grind
    rw [this, e3]
    have w1 : (t * u' - t' * u) * u2 * (x.2 * y.2) = ((t * x.2) * u' * y.2 - (t' * y.2) * u * x.2) * u2 := by grind
    rw [w1, e1, e2]
    grind
  have pu := Int.mul_pos f1.pos f2.pos
  exact Int.eq_of_mul_eq_mul_right (by omega) z
theorem q_mul (hx : QAt C H p k x) (hy : QAt C H q j y) (l : k + j ≤ 8900) (l0 : 0 < k) (l1 : 0 < j) (f : ∀ (r : Addr) (H' : Hp), Same H H' → QAt C H' r (k + j + 1) (qmul x y) → Q (.ref r) H') :
    sp_bin2 C (fun t u t' u' => t * t') (fun t u t' u' => u * u') [.ref p, .ref q] H Q E := by
  obtain ⟨⟨t, u, m1, f1⟩, px, a1, a2⟩ := hx
  obtain ⟨⟨t', u', m2, f2⟩, py, b1, b2⟩ := hy
  refine ⟨p, q, t, u, t', u', rfl, m1, m2, f1.pos, f2.pos, (a1.le f1.lt).mono (by omega), (a2.le f1.lu).mono (by omega), (b1.le f2.lt).mono (by omega), (b2.le f2.lu).mono (by omega), ((a2.le f1.lu).mul (b2.le f2.lu)).mono (by omega), fun r t2 u2 H' _ s m f3 => ?_⟩
  refine f r H' s ⟨⟨t2, u2, m, fr_of f3.pos f3.co (Int.mul_pos px py) ?_⟩, Int.mul_pos px py, (a1.mul b1).mono (by omega), (a2.mul b2).mono (by omega)⟩
  have e1 := f1.eq
  have e2 := f2.eq
  have e3 := f3.eq
  have z : (t2 * (x.2 * y.2)) * (u * u') = ((x.1 * y.1) * u2) * (u * u') := by
    have : (t2 * (x.2 * y.2)) * (u * u') = (t2 * (u * u')) * (x.2 * y.2) := by grind
    rw [this, e3]
    have w1 : (t * t') * u2 * (x.2 * y.2) = (t * x.2) * (t' * y.2) * u2 := by grind
    rw [w1, e1, e2]
    grind
  have pu := Int.mul_pos f1.pos f2.pos
  exact Int.eq_of_mul_eq_mul_right (by omega) z
theorem q_prt {m : Int} (hx : QAt C H p k x) (hm : m ≠ 0) (sm : Sz j m) (l : k + j ≤ 8900) (l0 : 0 < k) (l1 : 0 < j) (f : ∀ (r : Addr) (H' : Hp), Same H H' → QAt C H' r (k + j + 1) (qprt x m) → Q (.ref r) H') :
    sp_part2 C [.ref p, .int m] H Q E := by
  obtain ⟨⟨t, u, m1, f1⟩, px, a1, a2⟩ := hx
  have pm := sgn_pos hm
  have sgnN : (sgn m).natAbs = 1 := by rcases sgn_cases m with e | e <;> rw [e] <;> rfl
  refine ⟨p, t, u, m, rfl, m1, f1.pos, hm, (a1.le f1.lt).mono (by omega), (a2.le f1.lu).mono (by omega), sm.mono (by omega), ((a2.le f1.lu).mul sm).mono (by omega), fun r t2 u2 H' _ s mm f3 => ?_⟩
  have z1 : Sz (k + j + 1) (x.1 * sgn m) := (a1.le (y := x.1 * sgn m) (by rw [Int.natAbs_mul, sgnN, Nat.mul_one]; exact Nat.le_refl _)).mono (by omega)
  have z2 : Sz j (m * sgn m) := sm.le (by rw [Int.natAbs_mul, sgnN, Nat.mul_one]; exact Nat.le_refl _)
  refine f r H' s ⟨⟨t2, u2, mm, fr_of f3.pos f3.co (Int.mul_pos px pm) ?_⟩, Int.mul_pos px pm, z1, (a2.mul z2).mono (by omega)⟩
  have e1 := f1.eq
  have e3 := f3.eq
  have hu := f1.pos
  have z : (t2 * (x.2 * (m * sgn m))) * u = ((x.1 * sgn m) * u2) * u := by
    have w0 : (t2 * (x.2 * (m * sgn m))) * u = (t2 * (u * m)) * x.2 * sgn m := by grind
    rw [w0, e3]
    have w1 : t * u2 * x.2 * sgn m = (t * x.2) * u2 * sgn m := by grind
    rw [w1, e1]
    grind
  exact Int.eq_of_mul_eq_mul_right (by omega) z
theorem q_mk {a b t u : Int} {H' : Hp} (m : MAt C H' p t u) (f : Fr t u a b) (hb : b ≠ 0) (sa : Sz k a) (sb : Sz k b) : QAt C H' p k (qmk a b) := by
  have pm := sgn_pos hb
  have sgnN : (sgn b).natAbs = 1 := by rcases sgn_cases b with e | e <;> rw [e] <;> rfl
  refine ⟨⟨t, u, m, fr_of f.pos f.co pm ?_⟩, pm, sa.le (by show (a * sgn b).natAbs ≤ _; rw [Int.natAbs_mul, sgnN, Nat.mul_one]; exact Nat.le_refl _), sb.le (by show (b * sgn b).natAbs ≤ _; rw [Int.natAbs_mul, sgnN, Nat.mul_one]; exact Nat.le_refl _)⟩
  show t * (b * sgn b) = a * sgn b * u
  have e := f.eq
  have : t * (b * sgn b) = (t * b) * sgn b := by grind
  rw [this, e]
  grind
theorem q_below {al : Bool} (hx : QAt C H p k x) (hy : QAt C H q j y) (l : k ≤ 9000) (l1 : j ≤ 9000) (f : Q (.bl (ltq x y || (al && eqq x y))) H) : sp_below C [.ref p, .ref q, .bl al] H Q E := by
  obtain ⟨⟨t, u, m1, f1⟩, px, a1, a2⟩ := hx
  obtain ⟨⟨t', u', m2, f2⟩, py, b1, b2⟩ := hy
  refine ⟨p, q, t, u, t', u', al, rfl, m1, m2, (a1.le f1.lt).mono l, (a2.le f1.lu).mono l, (b1.le f2.lt).mono l1, (b2.le f2.lu).mono l1, ?_⟩
  have r1 : Re (t, u) x := ⟨f1.pos, px, f1.eq⟩
  have r2 : Re (t', u') y := ⟨f2.pos, py, f2.eq⟩
  have e : lessA t u t' u' al = (ltq x y || (al && eqq x y)) := by
    rw [← ltq_congr r1 r2, ← eqq_congr r1 r2]
    rfl
  rw [e]
  exact f
theorem fr_eqq {t u t' u' : Int} (f1 : Fr t u x.1 x.2) (f2 : Fr t' u' y.1 y.2) (px : 0 < x.2) (py : 0 < y.2) : (decide (t = t') && decide (u = u')) = eqq x y := by
  have r1 : Re (t, u) x := ⟨f1.pos, px, f1.eq⟩
  have r2 : Re (t', u') y := ⟨f2.pos, py, f2.eq⟩
  rw [← eqq_congr r1 r2]
  unfold eqq
  by_cases e : t * u' = t' * u
  · rw [decide_eq_true (show (t, u).1 * (t', u').2 = (t', u').1 * (t, u).2 from e)]
    have z := co_eq (a := (t, u)) (b := (t', u')) f1.pos f1.co f2.pos f2.co e
    obtain ⟨rfl, rfl⟩ := Prod.mk.inj z
    simp
  · rw [decide_eq_false (show ¬ (t, u).1 * (t', u').2 = (t', u').1 * (t, u).2 from e)]
    cases z1 : decide (t = t') with
    | false => rfl
    | true =>
      cases z2 : decide (u = u') with
      | false => rfl
      | true => exact absurd (by rw [of_decide_eq_true z1, of_decide_eq_true z2]) e
theorem q_like (hx : QAt C H p k x) (hy : QAt C H q j y) : Like C H p (.ref q) (eqq x y) := by
  obtain ⟨⟨t, u, m1, f1⟩, px, _⟩ := hx
  obtain ⟨⟨t', u', m2, f2⟩, py, _⟩ := hy
  rw [← fr_eqq f1 f2 px py]
  exact .ms m1 m2
end
/-! the same, behind the arguments -/
section
variable {C p q : Addr} {H : Hp} {Q : VK} {E : XK} {k j : Nat} {x y : Q2} {σ : L2.St}
theorem q_addT (hx : QAt C H p k x) (hy : QAt C H q j y) (l : k + j ≤ 8900) (l0 : 0 < k) (l1 : 0 < j) (f : ∀ (r : Addr) (H' : Hp), Same H H' → QAt C H' r (k + j + 1) (qadd x y) → Q (.ref r) H') :
    tNil σ H (fun xs H2 => sp_bin2 C (fun t u t' u' => t * u' + t' * u) (fun t u t' u' => u * u') (.ref p :: ((.ref q :: xs) ++ [])) H2 Q E) := q_add (E := E) hx hy l l0 l1 f
theorem q_subT (hx : QAt C H p k x) (hy : QAt C H q j y) (l : k + j ≤ 8900) (l0 : 0 < k) (l1 : 0 < j) (f : ∀ (r : Addr) (H' : Hp), Same H H' → QAt C H' r (k + j + 1) (qsub x y) → Q (.ref r) H') :
    tNil σ H (fun xs H2 => sp_bin2 C (fun t u t' u' => t * u' - t' * u) (fun t u t' u' => u * u') (.ref p :: ((.ref q :: xs) ++ [])) H2 Q E) := q_sub (E := E) hx hy l l0 l1 f
theorem q_mulT (hx : QAt C H p k x) (hy : QAt C H q j y) (l : k + j ≤ 8900) (l0 : 0 < k) (l1 : 0 < j) (f : ∀ (r : Addr) (H' : Hp), Same H H' → QAt C H' r (k + j + 1) (qmul x y) → Q (.ref r) H') :
    tNil σ H (fun xs H2 => sp_bin2 C (fun t u t' u' => t * t') (fun t u t' u' => u * u') (.ref p :: ((.ref q :: xs) ++ [])) H2 Q E) := q_mul (E := E) hx hy l l0 l1 f
theorem q_prtT {m : Int} (hx : QAt C H p k x) (hm : m ≠ 0) (sm : Sz j m) (l : k + j ≤ 8900) (l0 : 0 < k) (l1 : 0 < j) (f : ∀ (r : Addr) (H' : Hp), Same H H' → QAt C H' r (k + j + 1) (qprt x m) → Q (.ref r) H') :
    tNil σ H (fun xs H2 => sp_part2 C (.ref p :: ((.int m :: xs) ++ [])) H2 Q E) := q_prt (E := E) hx hm sm l l0 l1 f
theorem q_prt2T (hx : QAt C H p k x) (l : k + 10 ≤ 8900) (l0 : 0 < k) (f : ∀ (r : Addr) (H' : Hp), Same H H' → QAt C H' r (k + 10 + 1) (qprt x 2) → Q (.ref r) H') :
    tNil σ H (fun xs H2 => sp_part2 C (.ref p :: (xs ++ [.int 2])) H2 Q E) := q_prt (E := E) (j := 10) hx (by decide) (by decide) l l0 (by decide) f
theorem q_belowT (hx : QAt C H p k x) (hy : QAt C H q j y) (l : k ≤ 9000) (l1 : j ≤ 9000) (f : Q (.bl (ltq x y)) H) :
    tNil σ H (fun xs H2 => sp_below C (.ref p :: ((.ref q :: xs) ++ [.bl false])) H2 Q E) := q_below (E := E) (al := false) hx hy l l1 (by rw [Bool.false_and, Bool.or_false]; exact f)
theorem q_belowA (hx : QAt C H p k x) (hy : QAt C H q j y) (l : k ≤ 9000) (l1 : j ≤ 9000) (f : Q (.bl (ltq x y || eqq x y)) H) :
    tCons (tC (.bl true)) tNil σ H (fun xs H2 => sp_below C (.ref p :: ((.ref q :: xs) ++ [])) H2 Q E) := q_below (E := E) (al := true) hx hy l l1 (by rw [Bool.true_and]; exact f)
end
/-! ### sums keep the order; the midst lies between -/
theorem ltq_addr {x y z : Q2} (hz : 0 < z.2) : ltq (qadd x z) (qadd y z) = ltq x y := by
  unfold ltq qadd
  refine decide_eq_decide.mpr ?_
  have p : 0 < z.2 * z.2 := Int.mul_pos hz hz
  have e1 : (x.1 * z.2 + z.1 * x.2) * (y.2 * z.2) = (x.1 * y.2) * (z.2 * z.2) + z.1 * x.2 * y.2 * z.2 := by grind
  have e2 : (y.1 * z.2 + z.1 * y.2) * (x.2 * z.2) = (y.1 * x.2) * (z.2 * z.2) + z.1 * x.2 * y.2 * z.2 := by grind
  show (x.1 * z.2 + z.1 * x.2) * (y.2 * z.2) < (y.1 * z.2 + z.1 * y.2) * (x.2 * z.2) ↔ _
  rw [e1, e2]
  constructor
  · intro h
    exact Int.lt_of_mul_lt_mul_right (Int.lt_of_add_lt_add_right h) (Int.le_of_lt p)
  · intro h
    exact Int.add_lt_add_right (Int.mul_lt_mul_of_pos_right h p) _
def qhalf (x y : Q2) : Q2 := qprt (qadd x y) 2
theorem qhalf_eq (x y : Q2) : qhalf x y = (x.1 * y.2 + y.1 * x.2, x.2 * y.2 * 2) := by
  unfold qhalf qprt qadd
  have : sgn 2 = 1 := by decide
  rw [this, Int.mul_one, Int.mul_one]
theorem half_lo {x y : Q2} (hx : 0 < x.2) (hy : 0 < y.2) : ltq x (qhalf x y) = ltq x y ∧ ltq (qhalf x y) y = ltq x y ∧ eqq (qhalf x y) x = eqq x y ∧ eqq x (qhalf x y) = eqq x y := by
  rw [qhalf_eq]
  unfold ltq eqq
  have e1 : x.1 * (x.2 * y.2 * 2) = (2 * (x.1 * y.2)) * x.2 := by grind
  have e2 : (x.1 * y.2 + y.1 * x.2) * x.2 = (x.1 * y.2 + y.1 * x.2) * x.2 := rfl
  have e3 : y.1 * (x.2 * y.2 * 2) = (2 * (y.1 * x.2)) * y.2 := by grind
  refine ⟨decide_eq_decide.mpr ?_, decide_eq_decide.mpr ?_, decide_eq_decide.mpr ?_, decide_eq_decide.mpr ?_⟩
  · show x.1 * (x.2 * y.2 * 2) < (x.1 * y.2 + y.1 * x.2) * x.2 ↔ _
    rw [e1]
    exact ⟨fun h => by have := Int.lt_of_mul_lt_mul_right h (Int.le_of_lt hx); omega, fun h => Int.mul_lt_mul_of_pos_right (by omega) hx⟩
  · show (x.1 * y.2 + y.1 * x.2) * y.2 < y.1 * (x.2 * y.2 * 2) ↔ _
    rw [e3]
    exact ⟨fun h => by have := Int.lt_of_mul_lt_mul_right h (Int.le_of_lt hy); omega, fun h => Int.mul_lt_mul_of_pos_right (by omega) hy⟩
  · show (x.1 * y.2 + y.1 * x.2) * x.2 = x.1 * (x.2 * y.2 * 2) ↔ _
    rw [e1]
    exact ⟨fun h => by have := Int.eq_of_mul_eq_mul_right (by omega) h; omega, fun h => by rw [h]; grind⟩
  · show x.1 * (x.2 * y.2 * 2) = (x.1 * y.2 + y.1 * x.2) * x.2 ↔ _
    rw [e1]
    exact ⟨fun h => by have := Int.eq_of_mul_eq_mul_right (by omega) h; omega, fun h => by rw [h]; grind⟩
theorem half_hi {x y : Q2} (hx : 0 < x.2) (hy : 0 < y.2) : ltq y (qhalf x y) = ltq y x ∧ ltq (qhalf x y) x = ltq y x := by
  rw [qhalf_eq]
  unfold ltq
  have e1 : x.1 * (x.2 * y.2 * 2) = (2 * (x.1 * y.2)) * x.2 := by grind
  have e3 : y.1 * (x.2 * y.2 * 2) = (2 * (y.1 * x.2)) * y.2 := by grind
  refine ⟨decide_eq_decide.mpr ?_, decide_eq_decide.mpr ?_⟩
  · show y.1 * (x.2 * y.2 * 2) < (x.1 * y.2 + y.1 * x.2) * y.2 ↔ _
    rw [e3]
    exact ⟨fun h => by have := Int.lt_of_mul_lt_mul_right h (Int.le_of_lt hy); omega, fun h => Int.mul_lt_mul_of_pos_right (by omega) hy⟩
  · show (x.1 * y.2 + y.1 * x.2) * x.2 < x.1 * (x.2 * y.2 * 2) ↔ _
    rw [e1]
    exact ⟨fun h => by have := Int.lt_of_mul_lt_mul_right h (Int.le_of_lt hx); omega, fun h => Int.mul_lt_mul_of_pos_right (by omega) hx⟩
theorem half_mid (x y : Q2) : eqq (qsub (qhalf x y) x) (qsub y (qhalf x y)) = true ∧ eqq (qsub (qhalf x y) y) (qsub x (qhalf x y)) = true := by
  rw [qhalf_eq]
  constructor
  · refine decide_eq_true ?_
    simp only [qsub]
    grind
  · refine decide_eq_true ?_
    simp only [qsub]
    grind
/-! ### numbers of at most twelve figures -/
theorem dval_lt : ∀ {l : List Nat} {n : Nat}, l.length ≤ n → NumText.AllDigits l → NumText.digitsVal l < 10 ^ n := by
  intro l
  suffices h : ∀ (r : List Nat) (acc : Nat) (k : Nat), acc < 10 ^ k → NumText.AllDigits r → r.foldl (fun acc c => acc * 10 + (c - 48)) acc < 10 ^ (k + r.length) by
    intro n hn hd
    have z := h l 0 0 (by decide) hd
    rw [Nat.zero_add] at z
    exact Nat.lt_of_lt_of_le z (Nat.pow_le_pow_right (by decide) hn)
  intro r
  induction r with
  | nil => intro acc k h _; simpa using h
  | cons c r ih =>
    intro acc k h hd
    have hc := hd.head
    have e : k + (c :: r).length = (k + 1) + r.length := by rw [List.length_cons]; omega
    rw [e, List.foldl_cons]
    refine ih _ _ ?_ hd.tail
    rw [Nat.pow_succ]
    omega
theorem val_lt {l : List Nat} (h : isNumL l = true) : 0 ≤ valL l ∧ valL l < 10 ^ 12 := by
  obtain ⟨_, h2, h3⟩ := isNum_of h
  have := dval_lt h2 h3
  unfold valL
  omega
theorem loose_sz {l : List Nat} {a : Q2} (h : looseL l = some a) : 0 < a.2 ∧ Sz 90 a.1 ∧ Sz 90 a.2 := by
  unfold looseL at h
  revert h
  generalize nwL (bodyL l) = w
  intro h
  by_cases c : (isNumL w.1 && (isNumL w.2.1 && isNumL w.2.2)) = true
  · have h : (if isNumL w.1 && (isNumL w.2.1 && isNumL w.2.2) then if valL w.2.2 = 0 then none else some ((if sw 45 l then -1 else 1) * (valL w.1 * valL w.2.2 + valL w.2.1), valL w.2.2) else none) = some a := h
    rw [if_pos c] at h
    rw [Bool.and_eq_true, Bool.and_eq_true] at c
    obtain ⟨a0, a1⟩ := val_lt c.1
    obtain ⟨b0, b1⟩ := val_lt c.2.1
    obtain ⟨c0, c1⟩ := val_lt c.2.2
    by_cases z : valL w.2.2 = 0
    · rw [if_pos z] at h; cases h
    · rw [if_neg z] at h
      cases h
      have s1 : Sz 40 (valL w.1) := by show (valL w.1).natAbs < 2 ^ 40; omega
      have s2 : Sz 40 (valL w.2.1) := by show (valL w.2.1).natAbs < 2 ^ 40; omega
      have s3 : Sz 40 (valL w.2.2) := by show (valL w.2.2).natAbs < 2 ^ 40; omega
      refine ⟨by show 0 < valL w.2.2; omega, ?_, s3.mono (by decide)⟩
      have s4 : Sz 81 (valL w.1 * valL w.2.2 + valL w.2.1) := (s1.mul s3).add (s2.mono (by decide))
      cases sw 45 l with
      | true =>
        show Sz 90 (-1 * (valL w.1 * valL w.2.2 + valL w.2.1))
        rw [Int.neg_one_mul]
        exact s4.neg.mono (by decide)
      | false =>
        show Sz 90 (1 * (valL w.1 * valL w.2.2 + valL w.2.1))
        rw [Int.one_mul]
        exact s4.mono (by decide)
  · have h : (if isNumL w.1 && (isNumL w.2.1 && isNumL w.2.2) then if valL w.2.2 = 0 then none else some ((if sw 45 l then -1 else 1) * (valL w.1 * valL w.2.2 + valL w.2.1), valL w.2.2) else none) = some a := h
    rw [if_neg c] at h; cases h
theorem int_num12 {l : List Nat} (h : isNumL l = true) : intText? (St8 l) = some (valL l) ∧ (St8 l).length ≤ 640 := by
  obtain ⟨h1, h2, h3⟩ := isNum_of h
  refine ⟨SX.int_S (allDig.mpr h3) h1 (by omega), ?_⟩
  rw [SX.S_len]; omega
/-! ### constants by their signs -/
theorem c_slash : Str.ofString "/" = St8 [47] := by decide +kernel
theorem c_blank : Str.ofString " " = St8 [32] := by decide +kernel
theorem c_minus : Str.ofString "-" = St8 [45] := by decide +kernel
theorem c_nil : Str.ofString "" = St8 [] := by decide +kernel
theorem c_zero : Str.ofString "0" = St8 [48] := by decide +kernel
theorem c_one : Str.ofString "1" = St8 [49] := by decide +kernel
theorem figs_dig (c : Nat) : decide (c ∈ (Str.ofString "0123456789").cps.toList) = dig c := by
  have e : (Str.ofString "0123456789").cps.toList = [48, 49, 50, 51, 52, 53, 54, 55, 56, 57] := by decide +kernel
  rw [e]
  unfold dig
  rw [← Bool.decide_and]
  refine decide_eq_decide.mpr ?_
  simp
  omega
theorem rmp_body (l : List Nat) : Txt.removeprefix (St8 l) (Str.ofString "-") = St8 (bodyL l) := by
  rw [c_minus]
  cases l with
  | nil => exact rmp_no (by simp)
  | cons x r =>
    show _ = St8 (if x = 45 then r else x :: r)
    by_cases h : x = 45
    · rw [if_pos h, h]; exact rmp_yes
    · rw [if_neg h]
      exact rmp_no fun r' e => h (List.cons.inj e).1
theorem sw_minus (l : List Nat) : Txt.startswith (St8 l) (Str.ofString "-") = sw 45 l := by rw [c_minus]; exact sw_of
theorem body_len (l : List Nat) : (bodyL l).length ≤ l.length := by
  cases l with
  | nil => exact Nat.le_refl _
  | cons x r =>
    show (if x = 45 then r else x :: r).length ≤ _
    split
    · rw [List.length_cons]; omega
    · exact Nat.le_refl _
theorem slash_len (l : List Nat) : (slashL l).1.length ≤ l.length ∧ (slashL l).2.length ≤ l.length := by
  unfold slashL
  cases e : firstSplit 47 l with
  | none => exact ⟨Nat.le_refl _, Nat.zero_le _⟩
  | some z =>
    obtain ⟨p, q⟩ := z
    obtain ⟨h, _⟩ := firstSplit_some e
    show p.length ≤ _ ∧ q.length ≤ _
    rw [h, List.length_append, List.length_cons]
    omega
theorem nw_len (l : List Nat) : (nwL l).1.length ≤ l.length + 1 ∧ (nwL l).2.1.length ≤ l.length + 1 ∧ (nwL l).2.2.length ≤ l.length + 1 := by
  unfold nwL
  split
  · cases e : lastSplit 32 l with
    | none =>
      have := slash_len l
      exact ⟨by show 1 ≤ _; omega, by show (slashL l).1.length ≤ _; omega, by show (slashL l).2.length ≤ _; omega⟩
    | some z =>
      obtain ⟨w, p⟩ := z
      obtain ⟨h, _⟩ := lastSplit_some e
      have := slash_len p
      have e2 : l.length = w.length + (p.length + 1) := by rw [h, List.length_append, List.length_cons]
      exact ⟨by show w.length ≤ _; omega, by show (slashL p).1.length ≤ _; omega, by show (slashL p).2.length ≤ _; omega⟩
  · exact ⟨by show l.length ≤ _; omega, by show 1 ≤ _; omega, by show 1 ≤ _; omega⟩
/-! ### a comprehension over a text -/
theorem lcsS {x : Str} {g : TG} {tt : TT} {te : TE} {vs : List Nat} {σ : L2.St} {H1 : Hp} {D : Addr} {Qd : Hp → Prop} (ys : List V) (hlen : ys.length = x.cps.size) (hz : ys.length < sizeLine) (hD : H1 D = none)
    (hs : ∀ (i : Nat) (c : Nat) (y : V) (H : Hp) (N : VK) (M : Hp → Prop), x.cps[i]? = some c → ys[i]? = some y → Same H1 H → (∀ H4, Same H H4 → N y H4) → g (.str ⟨#[c]⟩) (wipe σ vs) H fun σ2 H2 => wipe σ2 vs = wipe σ vs ∧ tt σ2 H2 fun b H3 => if b = true then te σ2 H3 N else M H3)
    (hd : ∀ H, Same H1 H → H D = some (.lst ys) → Qd H) :
    ∃ W : Nat → Nat → Hp → Prop, (∃ m, W 0 m (upd H1 D (.lst []))) ∧ ∀ i m H, W i m H →
      ((Its x).stop i H ∧ Qd H) ∨ ((Its x).go i H ∧ ∃ Nx : Hp → Prop, (∀ H', Nx H' → ∃ m', m' < m ∧ W (i + 1) m' H') ∧ ∀ y H', (Its x).yld i H y H' → g y (wipe σ vs) H' fun σ2 H2 => wipe σ2 vs = wipe σ vs ∧ tt σ2 H2 fun b H3 =>
        if b = true then te σ2 H3 fun y H4 => ∃ acc, H4 D = some (.lst acc) ∧ acc.length < sizeLine ∧ Nx (upd H4 D (.lst (acc ++ [y]))) else Nx H3) := by
  refine ⟨fun i m H => m = ys.length - i ∧ i ≤ ys.length ∧ Same H1 H ∧ H D = some (.lst (ys.take i)), ⟨ys.length, by omega, Nat.zero_le _, same1 hD, upd_same⟩, ?_⟩
  rintro i m H ⟨rfl, hi, s1, hl⟩
  by_cases hlt : i < ys.length
  · refine .inr ⟨by show i < x.cps.size; omega, fun H' => Same H1 H' ∧ H' D = some (.lst (ys.take (i + 1))), fun H' h => ⟨ys.length - (i + 1), by omega, rfl, by omega, h.1, h.2⟩, fun y H' hy => ?_⟩
    obtain ⟨rfl, c, hc, rfl⟩ := hy
    refine hs i c ys[i] H' _ _ hc (List.getElem?_eq_getElem hlt) s1 fun H4 s4 => ⟨_, s4 _ _ hl, ?_, ?_, ?_⟩
    · rw [List.length_take]; omega
    · intro b o e
      rw [upd_ne (ne_of_none e hD)]
      exact s4 _ _ (s1 _ _ e)
    · rw [upd_same, List.take_add_one, List.getElem?_eq_getElem hlt]
      rfl
  · refine .inl ⟨by show x.cps.size ≤ i; omega, hd H s1 ?_⟩
    have : i = ys.length := by omega
    rw [this, List.take_length] at hl
    exact hl
end My
namespace My
open PySem PySem.Spec PyProof.Rows L2
/-! ### comprehensions over anything that is walked -/
section
variable {J : It} {n : Nat} {G : Hp → Prop} {Y : Nat → Hp → V → Hp → Prop} {g : TG} {tt : TT} {te : TE} {vs : List Nat} {σ : L2.St} {H1 : Hp} {D : Addr} {Qd : Hp → Prop}
/-- the elements are known: z some y is told, z none is left out -/
theorem lcz (w : Walk J n G Y) (hGs : ∀ H H', G H → Same H H' → G H') (zs : List (Option V)) (hlen : zs.length = n) (hz : n < sizeLine) (hG : G H1) (hD : H1 D = none)
    (hs : ∀ (i : Nat) (x : V) (H H' : Hp) (z : Option V) (N : VK) (M : Hp → Prop), i < n → zs[i]? = some z → Same H1 H → Y i H x H' → (∀ y H4, z = some y → Same H H4 → N y H4) → (∀ H4, z = none → Same H H4 → M H4) →
      g x (wipe σ vs) H' fun σ2 H2 => wipe σ2 vs = wipe σ vs ∧ tt σ2 H2 fun b H3 => if b = true then te σ2 H3 N else M H3)
    (hd : ∀ H, Same H1 H → H D = some (.lst (zs.filterMap _root_.id)) → Qd H) :
    ∃ W : Nat → Nat → Hp → Prop, (∃ m, W 0 m (upd H1 D (.lst []))) ∧ ∀ i m H, W i m H →
      (J.stop i H ∧ Qd H) ∨ (J.go i H ∧ ∃ Nx : Hp → Prop, (∀ H', Nx H' → ∃ m', m' < m ∧ W (i + 1) m' H') ∧ ∀ x H', J.yld i H x H' → g x (wipe σ vs) H' fun σ2 H2 => wipe σ2 vs = wipe σ vs ∧ tt σ2 H2 fun b H3 =>
        if b = true then te σ2 H3 fun y H4 => ∃ acc, H4 D = some (.lst acc) ∧ acc.length < sizeLine ∧ Nx (upd H4 D (.lst (acc ++ [y]))) else Nx H3) := by
  refine lc_it w (fun i H => Same H1 H ∧ H D = some (.lst ((zs.take i).filterMap _root_.id))) ⟨same1 hD, upd_same⟩ (fun i H _ p => hGs _ _ hG p.1) (fun i x H H' hi p y => ?_) (fun H p => hd H p.1 ?_)
  · have hi2 : i < zs.length := by omega
    have tk : ∀ z, zs[i]? = some z → (zs.take (i + 1)).filterMap _root_.id = (zs.take i).filterMap _root_.id ++ z.toList := fun z e => by
      rw [List.take_add_one, e, List.filterMap_append]
      cases z <;> rfl
    have ez : zs[i]? = some zs[i] := List.getElem?_eq_getElem hi2
    refine hs i x H H' zs[i] _ _ hi ez p.1 y (fun v H4 e s4 => ⟨_, s4 _ _ p.2, ?_, ?_, ?_⟩) (fun H4 e s4 => ⟨p.1.trans s4, ?_⟩)
    · refine Nat.lt_of_le_of_lt (List.length_filterMap_le _ _) ?_
      rw [List.length_take]; omega
    · intro c o ec
      rw [upd_ne (ne_of_none ec hD)]
      exact s4 _ _ (p.1 _ _ ec)
    · rw [upd_same, tk _ ez, e]
      rfl
    · rw [tk _ ez, e, Option.toList_none, List.append_nil]
      exact s4 _ _ p.2
  · have e := p.2
    rw [← hlen, List.take_length] at e
    exact e
/-- the elements are told by what holds of them -/
theorem lcr (w : Walk J n G Y) (hGs : ∀ H H', G H → Same H H' → G H') (R : Nat → Hp → V → Prop) (hR : ∀ i H H' y, R i H y → Nl H H' → R i H' y) (hz : n < sizeLine) (hG : G H1) (hD : H1 D = none)
    (hs : ∀ (i : Nat) (x : V) (H H' : Hp) (N : VK) (M : Hp → Prop), i < n → Same H1 H → Y i H x H' → (∀ y H4, Same H H4 → R i H4 y → N y H4) →
      g x (wipe σ vs) H' fun σ2 H2 => wipe σ2 vs = wipe σ vs ∧ tt σ2 H2 fun b H3 => if b = true then te σ2 H3 N else M H3)
    (hd : ∀ H ys, Same H1 H → H D = some (.lst ys) → ys.length = n → (∀ i y, ys[i]? = some y → R i H y) → Qd H) :
    ∃ W : Nat → Nat → Hp → Prop, (∃ m, W 0 m (upd H1 D (.lst []))) ∧ ∀ i m H, W i m H →
      (J.stop i H ∧ Qd H) ∨ (J.go i H ∧ ∃ Nx : Hp → Prop, (∀ H', Nx H' → ∃ m', m' < m ∧ W (i + 1) m' H') ∧ ∀ x H', J.yld i H x H' → g x (wipe σ vs) H' fun σ2 H2 => wipe σ2 vs = wipe σ vs ∧ tt σ2 H2 fun b H3 =>
        if b = true then te σ2 H3 fun y H4 => ∃ acc, H4 D = some (.lst acc) ∧ acc.length < sizeLine ∧ Nx (upd H4 D (.lst (acc ++ [y]))) else Nx H3) := by
  refine lc_it w (fun i H => Same H1 H ∧ ∃ ys, H D = some (.lst ys) ∧ ys.length = i ∧ ∀ j y, ys[j]? = some y → R j H y) ⟨same1 hD, [], upd_same, rfl, fun j y hy => by simp at hy⟩ (fun i H _ p => hGs _ _ hG p.1) (fun i x H H' hi p y => ?_) (fun H p => ?_)
  · obtain ⟨s1, ys, h1, h2, h3⟩ := p
    refine hs i x H H' _ _ hi s1 y (fun v H4 s4 r4 => ⟨ys, s4 _ _ h1, by omega, ?_, ys ++ [v], upd_same, by rw [List.length_append, h2]; rfl, ?_⟩)
    · intro c o ec
      rw [upd_ne (ne_of_none ec hD)]
      exact s4 _ _ (s1 _ _ ec)
    · intro j z hj
      have n4 : Nl H4 (upd H4 D (.lst (ys ++ [v]))) := Nl.put (s4 _ _ h1)
      by_cases hlt : j < ys.length
      · rw [List.getElem?_append_left hlt] at hj
        exact hR _ _ _ _ (hR _ _ _ _ (h3 j z hj) (Nl.of s4)) n4
      · have hj2 : j = ys.length := by
          have := (List.getElem?_eq_some_iff.mp hj).1
          rw [List.length_append, List.length_singleton] at this
          omega
        subst hj2
        rw [List.getElem?_append_right (Nat.le_refl _), Nat.sub_self] at hj
        cases hj
        rw [h2]
        exact hR _ _ _ _ r4 n4
  · obtain ⟨s1, ys, h1, h2, h3⟩ := p
    exact hd H ys s1 h1 h2 h3
end
/-! ### several Measures -/
/-- the values ps are Measures of the fractions zs -/
structure Mks (C : Addr) (H : Hp) (k : Nat) (ps : List V) (zs : List Q2) : Prop where
  len : ps.length = zs.length
  all : ∀ (i : Nat) (v : V) (z : Q2), ps[i]? = some v → zs[i]? = some z → ∃ p, v = V.ref p ∧ QAt C H p k z
section
variable {C : Addr} {H H' : Hp} {k : Nat} {ps : List V} {zs : List Q2} {v : V}
theorem Mks.same (m : Mks C H k ps zs) (s : Same H H') : Mks C H' k ps zs := ⟨m.len, fun i v z h1 h2 => by
  obtain ⟨p, e, q⟩ := m.all i v z h1 h2
  exact ⟨p, e, q.same s⟩⟩
theorem Mks.kp {hd : Addr} {n : Nat} (m : Mks C H k ps zs) (hh : HandAt H hd n) (s : Kp hd H H') : Mks C H' k ps zs := ⟨m.len, fun i v z h1 h2 => by
  obtain ⟨p, e, q⟩ := m.all i v z h1 h2
  exact ⟨p, e, q.kp hh s⟩⟩
theorem Mks.at (m : Mks C H k ps zs) {i : Nat} {z : Q2} (h : zs[i]? = some z) : ∃ p, ps[i]? = some (.ref p) ∧ QAt C H p k z := by
  have hi : i < ps.length := by rw [m.len]; exact (List.getElem?_eq_some_iff.mp h).1
  obtain ⟨p, e, q⟩ := m.all i _ z (List.getElem?_eq_getElem hi) h
  exact ⟨p, by rw [List.getElem?_eq_getElem hi, e], q⟩
theorem Mks.of (m : Mks C H k ps zs) {i : Nat} {v : V} (h : ps[i]? = some v) : ∃ p z, v = .ref p ∧ zs[i]? = some z ∧ QAt C H p k z := by
  have hi : i < zs.length := by rw [← m.len]; exact (List.getElem?_eq_some_iff.mp h).1
  obtain ⟨p, e, q⟩ := m.all i v _ h (List.getElem?_eq_getElem hi)
  exact ⟨p, _, e, List.getElem?_eq_getElem hi, q⟩
/-- None, or a Measure -/
def QO (C : Addr) (H : Hp) (k : Nat) (v : V) : Option Q2 → Prop
  | none => v = .non
  | some z => ∃ p, v = .ref p ∧ QAt C H p k z
theorem QO.same : ∀ {e : Option Q2}, QO C H k v e → Same H H' → QO C H' k v e
  | none, h, _ => h
  | some _, ⟨p, h1, h2⟩, s => ⟨p, h1, h2.same s⟩
theorem QO.kp {hd : Addr} {n : Nat} : ∀ {e : Option Q2}, QO C H k v e → HandAt H hd n → Kp hd H H' → QO C H' k v e
  | none, h, _, _ => h
  | some _, ⟨p, h1, h2⟩, hh, s => ⟨p, h1, h2.kp hh s⟩
/-- the exact numbers of such a Measure -/
theorem QAt.low {p : Addr} {z : Q2} (q : QAt C H p k z) (l : k ≤ 4000) : ∃ a : Q2, MAt C H p a.1 a.2 ∧ Low a ∧ Re a z := by
  obtain ⟨⟨t, u, m, f⟩, h1, h2, h3⟩ := q
  exact ⟨(t, u), m, ⟨f.pos, f.co, (h2.le f.lt).mono l, (h3.le f.lu).mono l⟩, f.pos, h1, f.eq⟩
theorem QO.low (l : k ≤ 4000) : ∀ {e : Option Q2}, QO C H k v e → ∃ m, MsV C H v m ∧ LowO m ∧ ReO m e
  | none, h => ⟨none, h, trivial, trivial⟩
  | some _, ⟨p, h1, h2⟩ => by
    obtain ⟨a, ma, la, ra⟩ := h2.low l
    exact ⟨some a, ⟨p, h1, ma⟩, la, ra⟩
theorem QAt.of {p : Addr} {a z : Q2} (m : MAt C H p a.1 a.2) (l : Low a) (r : Re a z) (s1 : Sz k z.1) (s2 : Sz k z.2) : QAt C H p k z :=
  ⟨⟨a.1, a.2, m, fr_of l.pos l.co r.2.1 r.2.2⟩, r.2.1, s1, s2⟩
end
/-! ### a Ladder -/
def lf (T : V) (r : Str) (l h : V) : List (Str × V) := [("marks", T), ("rule", .str r), ("least", l), ("most", h)]
theorem lf_put (T : V) (r : Str) (l h : V) : putF "most" h (putF "least" l (putF "rule" (.str r) (putF "marks" T []))) = lf T r l h := by
  have e1 : putF ("rule" : Str) (.str r) (putF ("marks" : Str) T []) = ([("marks", T), ("rule", .str r)] : List (Str × V)) := by
    show (if ("marks" : Str) = "rule" then [(("marks" : Str), V.str r)] else (("marks" : Str), T) :: putF "rule" (.str r) []) = _
    rw [if_neg (by decide +kernel)] <;> rfl
  have e2 : putF ("least" : Str) l [("marks", T), ("rule", .str r)] = ([("marks", T), ("rule", .str r), ("least", l)] : List (Str × V)) := by
    show (if ("marks" : Str) = "least" then _ else (("marks" : Str), T) :: (if ("rule" : Str) = "least" then _ else (("rule" : Str), V.str r) :: putF "least" l [])) = _
    rw [if_neg (by decide +kernel), if_neg (by decide +kernel)] <;> rfl
  have e3 : putF ("most" : Str) h [("marks", T), ("rule", .str r), ("least", l)] = lf T r l h := by
    show (if ("marks" : Str) = "most" then _ else (("marks" : Str), T) :: (if ("rule" : Str) = "most" then _ else (("rule" : Str), V.str r) :: (if ("least" : Str) = "most" then _ else (("least" : Str), l) :: putF "most" h []))) = _
    rw [if_neg (by decide +kernel), if_neg (by decide +kernel), if_neg (by decide +kernel)] <;> rfl
  rw [e1, e2, e3]
section
variable (T : V) (r : Str) (l h : V)
theorem lf_marks : (lf T r l h).lookup ("marks" : Str) = some T := by
  rw [← lf_put, lookup_putF, if_neg (by decide +kernel), lookup_putF, if_neg (by decide +kernel), lookup_putF, if_neg (by decide +kernel), lookup_putF, if_pos rfl]
theorem lf_rule : (lf T r l h).lookup ("rule" : Str) = some (.str r) := by
  rw [← lf_put, lookup_putF, if_neg (by decide +kernel), lookup_putF, if_neg (by decide +kernel), lookup_putF, if_pos rfl]
theorem lf_least : (lf T r l h).lookup ("least" : Str) = some l := by
  rw [← lf_put, lookup_putF, if_neg (by decide +kernel), lookup_putF, if_pos rfl]
theorem lf_most : (lf T r l h).lookup ("most" : Str) = some h := by
  rw [← lf_put, lookup_putF, if_pos rfl]
theorem lf_no {m : Str} (h1 : ¬ m = "marks") (h2 : ¬ m = "rule") (h3 : ¬ m = "least") (h4 : ¬ m = "most") : (lf T r l h).lookup m = none := by
  rw [← lf_put, lookup_putF, if_neg h4, lookup_putF, if_neg h3, lookup_putF, if_neg h2, lookup_putF, if_neg h1] <;> rfl
end
/-- rows that rise -/
def RiseQ (zs : List Q2) : Prop := ∀ i a b, zs[i]? = some a → zs[i + 1]? = some b → ltq a b = true
/-- the first row that isn't above the one ahead -/
def SlipQ (zs : List Q2) : Option Nat → Prop
  | none => RiseQ zs
  | some n => 1 ≤ n ∧ n < zs.length ∧ (∀ a b, zs[n - 1]? = some a → zs[n]? = some b → ltq a b = false) ∧ ∀ i a b, i + 1 < n → zs[i]? = some a → zs[i + 1]? = some b → ltq a b = true
def optI : Option Nat → V
  | none => .non
  | some n => .int (n : Int)
def leq (a b : Q2) : Bool := ltq a b || eqq a b
/-- least isn't above most -/
def spanB : Option Q2 → Option Q2 → Bool
  | some a, some b => !ltq b a
  | _, _ => true
def IsRule (r : Str) : Prop := r = "up" ∨ r = "down" ∨ r = "near"
structure LadAt (K : PySem.W.Frag) (CM CL : Addr) (H : Hp) (p : Addr) (k : Nat) (zs : List Q2) (r : Str) (lo hi : Option Q2) : Prop where
  ob : ∃ dx T ps l h, H p = some (.ins CL dx (lf (.ref T) r l h)) ∧ SqT K H T ps ∧ Mks CM H k ps zs ∧ QO CM H k l lo ∧ QO CM H k h hi
  len0 : 0 < zs.length
  len1 : zs.length ≤ 24
  rise : RiseQ zs
  rule : IsRule r
  span : spanB lo hi = true
theorem LadAt.same {K : PySem.W.Frag} {CM CL p : Addr} {H H' : Hp} {k : Nat} {zs : List Q2} {r : Str} {lo hi : Option Q2} (a : LadAt K CM CL H p k zs r lo hi) (s : Same H H') : LadAt K CM CL H' p k zs r lo hi := by
  obtain ⟨⟨dx, T, ps, l, h, h1, h2, h3, h4, h5⟩, a1, a2, a3, a4, a5⟩ := a
  exact ⟨⟨dx, T, ps, l, h, s _ _ h1, s.sqt h2, h3.same s, h4.same s, h5.same s⟩, a1, a2, a3, a4, a5⟩
theorem LadAt.raw {K : PySem.W.Frag} {CM CL p : Addr} {H : Hp} {k : Nat} {zs : List Q2} {r : Str} {lo hi : Option Q2} (a : LadAt K CM CL H p k zs r lo hi) {m : Str} (h1 : ¬ m = "marks") (h2 : ¬ m = "rule") (h3 : ¬ m = "least") (h4 : ¬ m = "most") : ∃ dx fs, H p = some (.ins CL dx fs) ∧ fs.lookup m = none := by
  obtain ⟨⟨dx, T, ps, l, h, e1, _⟩, _⟩ := a
  exact ⟨dx, _, e1, lf_no _ _ _ _ h1 h2 h3 h4⟩
/-- the midsts of neighbours -/
def midq : List Q2 → List Q2
  | a :: b :: r => qhalf a b :: midq (b :: r)
  | _ => []
def sizeR (zs : List Q2) (r : Str) (x : Q2) : Int :=
  if r = "up" then (zs.countP (fun a => ltq a x) : Nat) else if r = "down" then (zs.countP (fun a => leq a x) : Nat) - 1 else ((midq zs).countP (fun a => leq a x) : Nat)
def loOk : Option Q2 → Q2 → Bool
  | none, _ => true
  | some a, x => !ltq x a
def hiOk : Option Q2 → Q2 → Bool
  | none, _ => true
  | some b, x => !ltq b x
def inO (lo hi : Option Q2) (x : Q2) : Bool := loOk lo x && hiOk hi x
def sizeQ (zs : List Q2) (r : Str) (lo hi : Option Q2) (x : Q2) : Option Nat :=
  if inO lo hi x = true then (if 0 ≤ sizeR zs r x ∧ sizeR zs r x < zs.length then some (sizeR zs r x).toNat else none) else none
theorem sizeQ_out {zs : List Q2} {r : Str} {lo hi : Option Q2} {x : Q2} (h : inO lo hi x = false) : none = sizeQ zs r lo hi x := by
  unfold sizeQ
  rw [h]
  rfl
theorem inO_lo {a : Q2} {hi : Option Q2} {x : Q2} (h : ltq x a = true) : inO (some a) hi x = false := by
  show (!ltq x a && hiOk hi x) = false
  rw [h]; rfl
theorem inO_hi {b : Q2} {lo : Option Q2} {x : Q2} (h : ltq b x = true) : inO lo (some b) x = false := by
  show (loOk lo x && !ltq b x) = false
  rw [h]; cases loOk lo x <;> rfl
theorem midq_len : ∀ zs : List Q2, (midq zs).length = zs.length - 1
  | [] => rfl
  | [_] => rfl
  | a :: b :: r => by
    show (midq (b :: r)).length + 1 = _
    rw [midq_len (b :: r)]
    simp
theorem midq_get : ∀ (zs : List Q2) (i : Nat) (a b : Q2), zs[i]? = some a → zs[i + 1]? = some b → (midq zs)[i]? = some (qhalf a b)
  | [], i, a, b, h, _ => by simp at h
  | [x], i, a, b, _, h => by simp at h
  | x :: y :: r, 0, a, b, h1, h2 => by
    cases h1; cases h2; rfl
  | x :: y :: r, i + 1, a, b, h1, h2 => by
    have := midq_get (y :: r) i a b (by simpa using h1) (by simpa using h2)
    simpa [midq] using this
theorem atI_of {xs : List V} {z : Int} {n : Nat} {v : V} (e : z = (n : Int)) (h : xs[n]? = some v) : atI xs z = some v := by
  rw [e]; exact atI_nat h
theorem ge2 {n : Nat} {zs : List Q2} (h : n < zs.length) : ∃ a, zs[n]? = some a := ⟨_, List.getElem?_eq_getElem h⟩
/-- a constant of the module: a tuple of texts -/
def strsOf : List Value → Option (List Str)
  | [] => some []
  | .str x _ :: r => (strsOf r).map (x :: ·)
  | _ => none
theorem strsOf_ok : ∀ {l : List Value} {ss : List Str}, strsOf l = some ss → Vals (ss.map V.str) l
  | [], ss, h => by cases h; exact .nil
  | .str x t :: r, ss, h => by
    cases e : strsOf r with
    | none => simp [strsOf, e] at h
    | some l =>
      simp [strsOf, e] at h
      subst h
      exact .cons ⟨t, rfl⟩ (strsOf_ok e)
def tupB (x : Str) (ss : List Str) : PySem.W.Frag → Bool := fun K => match K.lookup (He.ga K x) with
  | some ⟨.type "tuple", _, .seq its _, _⟩ => decide (its.size ≤ sizeLine) && decide (strsOf its.toList = some ss)
  | _ => false
theorem tup_ok {x : Str} {ss : List Str} {K : PySem.W.Frag} (c : tupB x ss K = true) : ∀ H, SqT K H (He.ga K x) (ss.map V.str) := by
  intro H
  unfold tupB at c
  split at c
  · rename_i d its n sl e
    obtain ⟨c1, c2⟩ := He.ba c
    exact .inr ⟨_, its, n, e, rfl, rfl, of_decide_eq_true c1, strsOf_ok (of_decide_eq_true c2)⟩
  · cases c
theorem tyTup {K : PySem.W.Frag} {H : Hp} {T : Addr} {ps : List V} (h : SqT K H T ps) : TyX K H (.ref T) (.type "tuple") := by
  rcases h with (h | ⟨o, h⟩) | ⟨o, its, n, h, c, _⟩
  · exact .base (.tup h)
  · exact .fTuple h
  · exact .kTuple h c
theorem Same.of_put {H H1 : Hp} {p : Addr} (h : ∀ q o, H q = some o → q ≠ p → H1 q = some o) (n : H p = none) : Same H H1 := fun c o e => h c o e (ne_of_none e n)
/-! ### what the defs of ladders promise -/
def sp_slip (K : PySem.W.Frag) (CM : Addr) : Sp := fun vs H Q _ => ∃ (T : Addr) (k : Nat) (ps : List V) (zs : List Q2), vs = [.ref T] ∧ SqT K H T ps ∧ Mks CM H k ps zs ∧ k ≤ 9000 ∧ zs.length ≤ 1000 ∧ ∀ o, SlipQ zs o → Q (optI o) H
def sp_isendQ (CM : Addr) : Sp := fun vs H Q _ => ∃ (v : V) (k : Nat) (e : Option Q2), vs = [v] ∧ QO CM H k v e ∧ Q (.bl true) H
def sp_arem (K : PySem.W.Frag) (CM : Addr) : Sp := fun vs H Q _ => ∃ (T : Addr) (k : Nat) (ps : List V) (zs : List Q2), vs = [.ref T] ∧ SqT K H T ps ∧ Mks CM H k ps zs ∧ 0 < zs.length ∧ zs.length ≤ 24 ∧ ∀ H', Same H H' → Q (.bl true) H'
def sp_isrule : Sp := fun vs H Q _ => ∃ r : Str, vs = [.str r] ∧ IsRule r ∧ Q (.bl true) H
def sp_linit (K : PySem.W.Frag) (CM CL : Addr) : Sp := fun vs H Q _ => ∃ (p dx T : Addr) (k : Nat) (ps : List V) (zs : List Q2) (r : Str) (l h : V) (lo hi : Option Q2), vs = [.ref p, .ref T, .str r, l, h] ∧ H p = some (.ins CL dx []) ∧ SqT K H T ps ∧ Mks CM H k ps zs ∧ k ≤ 4000 ∧ 0 < zs.length ∧ zs.length ≤ 24 ∧ RiseQ zs ∧ IsRule r ∧
  QO CM H k l lo ∧ QO CM H k h hi ∧ spanB lo hi = true ∧ ∀ H', H' p = some (.ins CL dx (lf (.ref T) r l h)) → (∀ q o, H q = some o → q ≠ p → H' q = some o) → Q .non H'
def sp_mids (K : PySem.W.Frag) (CM : Addr) : Sp := fun vs H Q _ => ∃ (T : Addr) (k : Nat) (ps : List V) (zs : List Q2), vs = [.ref T] ∧ SqT K H T ps ∧ Mks CM H k ps zs ∧ 0 < k ∧ k ≤ 1000 ∧ 0 < zs.length ∧ zs.length ≤ 24 ∧ ∀ (D : Addr) (ys : List V) (H' : Hp), Same H H' → H' D = some (.lst ys) → Mks CM H' (k + k + 1 + 10 + 1) ys (midq zs) → Q (.ref D) H'
def sp_sizeR (K : PySem.W.Frag) (CM : Addr) : Sp := fun vs H Q _ => ∃ (T q : Addr) (k : Nat) (ps : List V) (zs : List Q2) (r : Str) (x : Q2), vs = [.ref T, .str r, .ref q] ∧ SqT K H T ps ∧ Mks CM H k ps zs ∧ QAt CM H q k x ∧ 0 < k ∧ k ≤ 1000 ∧ 0 < zs.length ∧ zs.length ≤ 24 ∧ ∀ H', Same H H' → Q (.int (sizeR zs r x)) H'
def sp_size (K : PySem.W.Frag) (CM CL : Addr) : Sp := fun vs H Q _ => ∃ (p q : Addr) (k : Nat) (zs : List Q2) (r : Str) (lo hi : Option Q2) (x : Q2), vs = [.ref p, .ref q] ∧ LadAt K CM CL H p k zs r lo hi ∧ QAt CM H q k x ∧ 0 < k ∧ k ≤ 1000 ∧ ∀ H', Same H H' → Q (optI (sizeQ zs r lo hi x)) H'
/-- a Ladder is made -/
theorem lad_made {K : PySem.W.Frag} {CM CL T : Addr} {H : Hp} {Qa : Addr → Hp → Prop} {E : XK} {k : Nat} {ps : List V} {zs : List Q2} {r : Str} {l h : V} {lo hi : Option Q2} (hT : SqT K H T ps) (hm : Mks CM H k ps zs) (hk : k ≤ 4000) (l0 : 0 < zs.length) (l1 : zs.length ≤ 24) (ri : RiseQ zs) (ru : IsRule r)
    (q1 : QO CM H k l lo) (q2 : QO CM H k h hi) (sp : spanB lo hi = true) (f : ∀ (p : Addr) (H' : Hp), H p = none → Same H H' → LadAt K CM CL H' p k zs r lo hi → (∃ dx, H' p = some (.ins CL dx (lf (.ref T) r l h))) → Qa p H') :
    ∀ x dx, H x = none → H dx = none → dx ≠ x → sp_linit K CM CL [.ref x, .ref T, .str r, l, h] (upd (upd H dx (.own x)) x (.ins CL dx [])) (fun v H2 => v = .non ∧ Qa x H2) E := by
  intro x dx nx nd ne
  have s0 : Same H (upd (upd H dx (.own x)) x (.ins CL dx [])) := fun c o e => by
    rw [upd_ne (ne_of_none e nx)]
    exact up1 nd e
  refine ⟨x, dx, T, k, ps, zs, r, l, h, lo, hi, rfl, upd_same, s0.sqt hT, hm.same s0, hk, l0, l1, ri, ru, q1.same s0, q2.same s0, sp, fun H' hx kp => ⟨rfl, ?_⟩⟩
  have s1 : Same H H' := made_same nx nd kp
  exact f x H' nx s1 ⟨⟨dx, T, ps, l, h, hx, s1.sqt hT, hm.same s1, q1.same s1, q2.same s1⟩, l0, l1, ri, ru, sp⟩ ⟨dx, hx⟩
theorem zipF_len {f : Q2 → Bool} : ∀ {ps : List V} {zs : List Q2}, ps.length = zs.length → ((List.zipWith (fun (p : V) (z : Q2) => if f z then some p else none) ps zs).filterMap _root_.id).length = zs.countP f
  | [], [], _ => rfl
  | p :: ps, z :: zs, h => by
    have ih := zipF_len (f := f) (ps := ps) (zs := zs) (by simpa using h)
    rw [List.zipWith_cons_cons, List.countP_cons]
    cases e : f z
    · simpa using ih
    · simpa using ih
  | [], _ :: _, h => by simp at h
  | _ :: _, [], h => by simp at h
theorem zipF_get {f : Q2 → Bool} {ps : List V} {zs : List Q2} {i : Nat} {p : V} {z : Q2} {o : Option V} (h1 : ps[i]? = some p) (h2 : zs[i]? = some z) (h : (List.zipWith (fun (p : V) (z : Q2) => if f z then some p else none) ps zs)[i]? = some o) : o = if f z then some p else none := by
  rw [List.getElem?_zipWith, h1, h2] at h
  exact (Option.some.inj h).symm
theorem iteDT {c A B : Prop} [Decidable c] (hc : c) (h : A) : if decide c = true then A else B := by
  rw [if_pos (decide_eq_true hc)]; exact h
theorem iteDF {c A B : Prop} [Decidable c] (hc : ¬ c) (h : B) : if decide c = true then A else B := by
  rw [if_neg (by simpa using hc)]; exact h
theorem iteNT {c A B : Prop} [Decidable c] (hc : ¬ c) (h : A) : if (!decide c) = true then A else B := by
  rw [if_pos (by simpa using hc)]; exact h
section
variable {C H p k} {m : Str} {R : Prop}
theorem meth_q {x : Q2} (q : QAt C H p k x) (h1 : ¬ m = "top") (h2 : ¬ m = "bottom") (h : R) : ∃ a dx fs, V.ref p = .ref a ∧ H a = some (.ins C dx fs) ∧ fs.lookup m = none ∧ R := by
  obtain ⟨dx, fs, e1, e2⟩ := q.raw h1 h2
  exact ⟨p, dx, fs, rfl, e1, e2, h⟩
theorem meth_l {K : PySem.W.Frag} {CM : Addr} {zs : List Q2} {r : Str} {lo hi : Option Q2} (q : LadAt K CM C H p k zs r lo hi) (h1 : ¬ m = "marks") (h2 : ¬ m = "rule") (h3 : ¬ m = "least") (h4 : ¬ m = "most") (h : R) : ∃ a dx fs, V.ref p = .ref a ∧ H a = some (.ins C dx fs) ∧ fs.lookup m = none ∧ R := by
  obtain ⟨dx, fs, e1, e2⟩ := q.raw h1 h2 h3 h4
  exact ⟨p, dx, fs, rfl, e1, e2, h⟩
theorem meth_s {CM : Addr} {lo hi : Option Q2} {li hj : Bool} (q : StAt CM C H p lo hi li hj) (h1 : ¬ m = "low") (h2 : ¬ m = "high") (h3 : ¬ m = "low_in") (h4 : ¬ m = "high_in") (h : R) : ∃ a dx fs, V.ref p = .ref a ∧ H a = some (.ins C dx fs) ∧ fs.lookup m = none ∧ R := by
  obtain ⟨dx, fs, e1, e2⟩ := q.raw h1 h2 h3 h4
  exact ⟨p, dx, fs, rfl, e1, e2, h⟩
end
end My
namespace K44
open PySem PySem.Spec PyProof.Rows L2 My
/-! ### the text by places -/
def topS (i : Nat) : Stmt := PySem.Challenge.pw_sizeladders_k44_fewest_of_all_lots.main.body.getD i (.Pass ⟨0, 0, 0, 0⟩)
abbrev s_is_whole : Stmt := (topS 8)
abbrev s_common_part : Stmt := (topS 10)
abbrev s_Measure_init : Stmt := (inClass (topS 12) 0)
abbrev s_Measure_plus : Stmt := (inClass (topS 12) 4)
abbrev s_Measure_minus : Stmt := (inClass (topS 12) 5)
abbrev s_Measure_is_below : Stmt := (inClass (topS 12) 8)
abbrev s_is_measure_or_none : Stmt := (topS 13)
abbrev s_measure_or : Stmt := (topS 14)
abbrev s_fits : Stmt := (topS 16)
abbrev s_fitting_of : Stmt := (topS 17)
abbrev s_first_bare : Stmt := (topS 18)
abbrev s_fewest_of : Stmt := (topS 19)
abbrev s_stock_for : Stmt := (topS 20)
abbrev s_slip_of : Stmt := (topS 22)
abbrev s_are_marks : Stmt := (topS 26)
abbrev s_is_rule : Stmt := (topS 27)
abbrev s_is_span : Stmt := (topS 28)
abbrev s_Ladder_init : Stmt := (inClass (topS 32) 0)
abbrev s_l_hand : Stmt := (topS 34)
abbrev s_l_take : Stmt := (topS 35)
abbrev s_l_pick : Stmt := (topS 36)
abbrev s_l_plain : Stmt := (topS 37)
abbrev s_l_sum : Stmt := (topS 38)
abbrev s_l_less : Stmt := (topS 39)
abbrev s_l_measures : Stmt := (topS 40)
abbrev s_l_part : Stmt := (topS 41)
abbrev s_l_marks : Stmt := (topS 42)
abbrev s_l_any_ladder : Stmt := (topS 43)
abbrev s_l_width : Stmt := (topS 44)
abbrev s_l_fits : Stmt := (topS 45)
abbrev s_l_fitted_foot : Stmt := (topS 46)
abbrev s_l_lots : Stmt := (topS 47)
abbrev s_l_right : Stmt := (topS 48)
abbrev s_law : Stmt := (topS 49)
abbrev N_is_whole : List Str := ["thing"]
abbrev p_is_whole : List Str := ["thing"]
theorem sc_is_whole : FnScope N_is_whole p_is_whole (defScope s_is_whole) := ⟨rfl, rfl, rfl, by decide +kernel, rfl, by decide +kernel, by decide +kernel⟩
abbrev N_common_part : List Str := ["one", "other", "great", "small"]
abbrev p_common_part : List Str := ["one", "other"]
theorem sc_common_part : FnScope N_common_part p_common_part (defScope s_common_part) := ⟨rfl, rfl, rfl, by decide +kernel, rfl, by decide +kernel, by decide +kernel⟩
abbrev N_Measure_init : List Str := ["self", "top", "bottom", "common"]
abbrev p_Measure_init : List Str := ["self", "top", "bottom"]
theorem sc_Measure_init : FnScope N_Measure_init p_Measure_init (defScope s_Measure_init) := ⟨rfl, rfl, rfl, by decide +kernel, rfl, by decide +kernel, by decide +kernel⟩
abbrev N_Measure_plus : List Str := ["self", "other"]
abbrev p_Measure_plus : List Str := ["self", "other"]
theorem sc_Measure_plus : FnScope N_Measure_plus p_Measure_plus (defScope s_Measure_plus) := ⟨rfl, rfl, rfl, by decide +kernel, rfl, by decide +kernel, by decide +kernel⟩
abbrev N_Measure_minus : List Str := ["self", "other"]
abbrev p_Measure_minus : List Str := ["self", "other"]
theorem sc_Measure_minus : FnScope N_Measure_minus p_Measure_minus (defScope s_Measure_minus) := ⟨rfl, rfl, rfl, by decide +kernel, rfl, by decide +kernel, by decide +kernel⟩
abbrev N_Measure_is_below : List Str := ["self", "other", "alike", "here", "there"]
abbrev p_Measure_is_below : List Str := ["self", "other", "alike"]
theorem sc_Measure_is_below : FnScope N_Measure_is_below p_Measure_is_below (defScope s_Measure_is_below) := ⟨rfl, rfl, rfl, by decide +kernel, rfl, by decide +kernel, by decide +kernel⟩
abbrev N_is_measure_or_none : List Str := ["thing"]
abbrev p_is_measure_or_none : List Str := ["thing"]
theorem sc_is_measure_or_none : FnScope N_is_measure_or_none p_is_measure_or_none (defScope s_is_measure_or_none) := ⟨rfl, rfl, rfl, by decide +kernel, rfl, by decide +kernel, by decide +kernel⟩
abbrev N_measure_or : List Str := ["thing", "number"]
abbrev p_measure_or : List Str := ["thing", "number"]
theorem sc_measure_or : FnScope N_measure_or p_measure_or (defScope s_measure_or) := ⟨rfl, rfl, rfl, by decide +kernel, rfl, by decide +kernel, by decide +kernel⟩
abbrev N_fits : List Str := ["ladder", "foot", "slack", "tight", "least", "most", "number", "mark"]
abbrev p_fits : List Str := ["ladder", "foot", "slack", "tight"]
theorem sc_fits : FnScope N_fits p_fits (defScope s_fits) := ⟨rfl, rfl, rfl, by decide +kernel, rfl, by decide +kernel, by decide +kernel⟩
abbrev N_fitting_of : List Str := ["ladder", "feet", "slack", "tight", "foot"]
abbrev p_fitting_of : List Str := ["ladder", "feet", "slack", "tight"]
theorem sc_fitting_of : FnScope N_fitting_of p_fitting_of (defScope s_fitting_of) := ⟨rfl, rfl, rfl, by decide +kernel, rfl, by decide +kernel, by decide +kernel⟩
abbrev N_first_bare : List Str := ["fitting", "number", "sizes"]
abbrev p_first_bare : List Str := ["fitting"]
theorem sc_first_bare : FnScope N_first_bare p_first_bare (defScope s_first_bare) := ⟨rfl, rfl, rfl, by decide +kernel, rfl, by decide +kernel, by decide +kernel⟩
abbrev N_fewest_of : List Str := ["fitting", "sizes", "apart", "last", "number", "run"]
abbrev p_fewest_of : List Str := ["fitting"]
theorem sc_fewest_of : FnScope N_fewest_of p_fewest_of (defScope s_fewest_of) := ⟨rfl, rfl, rfl, by decide +kernel, rfl, by decide +kernel, by decide +kernel⟩
abbrev N_stock_for : List Str := ["ladder", "feet", "slack", "tight", "fitting", "bare", "sizes", "apart"]
abbrev p_stock_for : List Str := ["ladder", "feet", "slack", "tight"]
theorem sc_stock_for : FnScope N_stock_for p_stock_for (defScope s_stock_for) := ⟨rfl, rfl, rfl, by decide +kernel, rfl, by decide +kernel, by decide +kernel⟩
abbrev N_slip_of : List Str := ["rows", "number"]
abbrev p_slip_of : List Str := ["rows"]
theorem sc_slip_of : FnScope N_slip_of p_slip_of (defScope s_slip_of) := ⟨rfl, rfl, rfl, by decide +kernel, rfl, by decide +kernel, by decide +kernel⟩
abbrev N_are_marks : List Str := ["thing", "mark"]
abbrev p_are_marks : List Str := ["thing"]
theorem sc_are_marks : FnScope N_are_marks p_are_marks (defScope s_are_marks) := ⟨rfl, rfl, rfl, by decide +kernel, rfl, by decide +kernel, by decide +kernel⟩
abbrev N_is_rule : List Str := ["thing"]
abbrev p_is_rule : List Str := ["thing"]
theorem sc_is_rule : FnScope N_is_rule p_is_rule (defScope s_is_rule) := ⟨rfl, rfl, rfl, by decide +kernel, rfl, by decide +kernel, by decide +kernel⟩
abbrev N_is_span : List Str := ["least", "most"]
abbrev p_is_span : List Str := ["least", "most"]
theorem sc_is_span : FnScope N_is_span p_is_span (defScope s_is_span) := ⟨rfl, rfl, rfl, by decide +kernel, rfl, by decide +kernel, by decide +kernel⟩
abbrev N_Ladder_init : List Str := ["self", "marks", "rule", "least", "most", "slip"]
abbrev p_Ladder_init : List Str := ["self", "marks", "rule", "least", "most"]
theorem sc_Ladder_init : FnScope N_Ladder_init p_Ladder_init (defScope s_Ladder_init) := ⟨rfl, rfl, rfl, by decide +kernel, rfl, by decide +kernel, by decide +kernel⟩
abbrev N_l_hand : List Str := ["_law_script", "_law_k", "_law_cell", "_law_own"]
abbrev p_l_hand : List Str := ["_law_script", "_law_k"]
theorem sc_l_hand : FnScope N_l_hand p_l_hand (defScope s_l_hand) := ⟨rfl, rfl, rfl, by decide +kernel, rfl, by decide +kernel, by decide +kernel⟩
abbrev N_l_take : List Str := ["_law_hand_here", "_law_many", "_law_digit", "_law_mixed"]
abbrev p_l_take : List Str := ["_law_hand_here", "_law_many"]
theorem sc_l_take : FnScope N_l_take p_l_take (defScope s_l_take) := ⟨rfl, rfl, rfl, by decide +kernel, rfl, by decide +kernel, by decide +kernel⟩
abbrev N_l_pick : List Str := ["_law_hand_here", "_law_some"]
abbrev p_l_pick : List Str := ["_law_hand_here", "_law_some"]
theorem sc_l_pick : FnScope N_l_pick p_l_pick (defScope s_l_pick) := ⟨rfl, rfl, rfl, by decide +kernel, rfl, by decide +kernel, by decide +kernel⟩
abbrev N_l_plain : List Str := ["_law_top", "_law_bottom", "_law_one", "_law_other"]
abbrev p_l_plain : List Str := ["_law_top", "_law_bottom"]
theorem sc_l_plain : FnScope N_l_plain p_l_plain (defScope s_l_plain) := ⟨rfl, rfl, rfl, by decide +kernel, rfl, by decide +kernel, by decide +kernel⟩
abbrev N_l_sum : List Str := ["_law_a", "_law_b"]
abbrev p_l_sum : List Str := ["_law_a", "_law_b"]
theorem sc_l_sum : FnScope N_l_sum p_l_sum (defScope s_l_sum) := ⟨rfl, rfl, rfl, by decide +kernel, rfl, by decide +kernel, by decide +kernel⟩
abbrev N_l_less : List Str := ["_law_a", "_law_b"]
abbrev p_l_less : List Str := ["_law_a", "_law_b"]
theorem sc_l_less : FnScope N_l_less p_l_less (defScope s_l_less) := ⟨rfl, rfl, rfl, by decide +kernel, rfl, by decide +kernel, by decide +kernel⟩
abbrev N_l_measures : List Str := ["_law_some", "_law_top", "_law_bottom"]
abbrev p_l_measures : List Str := ["_law_some"]
theorem sc_l_measures : FnScope N_l_measures p_l_measures (defScope s_l_measures) := ⟨rfl, rfl, rfl, by decide +kernel, rfl, by decide +kernel, by decide +kernel⟩
abbrev N_l_part : List Str := ["_law_hand_here"]
abbrev p_l_part : List Str := ["_law_hand_here"]
theorem sc_l_part : FnScope N_l_part p_l_part (defScope s_l_part) := ⟨rfl, rfl, rfl, by decide +kernel, rfl, by decide +kernel, by decide +kernel⟩
abbrev N_l_marks : List Str := ["_law_hand_here", "_law_most", "_law_alike", "_law_many", "_law_step", "_law_found", "_law_k"]
abbrev p_l_marks : List Str := ["_law_hand_here", "_law_most"]
theorem sc_l_marks : FnScope N_l_marks p_l_marks (defScope s_l_marks) := ⟨rfl, rfl, rfl, by decide +kernel, rfl, by decide +kernel, by decide +kernel⟩
abbrev N_l_any_ladder : List Str := ["_law_hand_here", "_law_marks_here", "_law_word", "_law_low", "_law_high", "_law_ends", "_law_one"]
abbrev p_l_any_ladder : List Str := ["_law_hand_here", "_law_marks_here"]
theorem sc_l_any_ladder : FnScope N_l_any_ladder p_l_any_ladder (defScope s_l_any_ladder) := ⟨rfl, rfl, rfl, by decide +kernel, rfl, by decide +kernel, by decide +kernel⟩
abbrev N_l_width : List Str := ["_law_hand_here", "_law_marks_here", "_law_gap", "_law_bare", "_law_top", "_law_bottom"]
abbrev p_l_width : List Str := ["_law_hand_here", "_law_marks_here"]
theorem sc_l_width : FnScope N_l_width p_l_width (defScope s_l_width) := ⟨rfl, rfl, rfl, by decide +kernel, rfl, by decide +kernel, by decide +kernel⟩
abbrev N_l_fits : List Str := ["_law_marks_here", "_law_here", "_law_loose", "_law_close", "_law_low", "_law_high", "_law_k", "_law_mark"]
abbrev p_l_fits : List Str := ["_law_marks_here", "_law_here", "_law_loose", "_law_close"]
theorem sc_l_fits : FnScope N_l_fits p_l_fits (defScope s_l_fits) := ⟨rfl, rfl, rfl, by decide +kernel, rfl, by decide +kernel, by decide +kernel⟩
abbrev N_l_fitted_foot : List Str := ["_law_hand_here", "_law_marks_here", "_law_loose", "_law_close", "_law_mark", "_law_way", "_law_far"]
abbrev p_l_fitted_foot : List Str := ["_law_hand_here", "_law_marks_here", "_law_loose", "_law_close"]
theorem sc_l_fitted_foot : FnScope N_l_fitted_foot p_l_fitted_foot (defScope s_l_fitted_foot) := ⟨rfl, rfl, rfl, by decide +kernel, rfl, by decide +kernel, by decide +kernel⟩
abbrev N_l_lots : List Str := ["_law_many", "_law_found", "_law_size", "_law_lot"]
abbrev p_l_lots : List Str := ["_law_many"]
theorem sc_l_lots : FnScope N_l_lots p_l_lots (defScope s_l_lots) := ⟨rfl, rfl, rfl, by decide +kernel, rfl, by decide +kernel, by decide +kernel⟩
abbrev N_l_right : List Str := ["_law_told", "_law_runs", "_law_many", "_law_word", "_law_sizes", "_law_apart", "_law_good", "_law_one", "_law_other", "_law_lot", "_law_run", "_law_size", "_law_number"]
abbrev p_l_right : List Str := ["_law_told", "_law_runs", "_law_many"]
theorem sc_l_right : FnScope N_l_right p_l_right (defScope s_l_right) := ⟨rfl, rfl, rfl, by decide +kernel, rfl, by decide +kernel, by decide +kernel⟩
abbrev N_law : List Str := ["_law_script", "_law_k", "_law_hand_here", "_law_marks_here", "_law_chart", "_law_turn", "_law_loose", "_law_close", "_law_some", "_law_runs", "_law_at", "_law_by", "_law_near", "_law_again", "_law_here"]
abbrev p_law : List Str := ["_law_script"]
theorem sc_law : FnScope N_law p_law (defScope s_law) := ⟨rfl, rfl, rfl, by decide +kernel, rfl, by decide +kernel, by decide +kernel⟩

/-! ### the head -/
def h_is_whole : He.DefD := ⟨("is_whole", none), "is_whole", "is_whole", defArgs s_is_whole, defBody s_is_whole, defScope s_is_whole, [], []⟩
def h_common_part : He.DefD := ⟨("common_part", none), "common_part", "common_part", defArgs s_common_part, defBody s_common_part, defScope s_common_part, [], []⟩
def h_Measure_init : He.DefD := ⟨("Measure", some "__init__"), "__init__", "Measure.__init__", defArgs s_Measure_init, defBody s_Measure_init, defScope s_Measure_init, [.int 1], []⟩
def h_Measure_plus : He.DefD := ⟨("Measure", some "plus"), "plus", "Measure.plus", defArgs s_Measure_plus, defBody s_Measure_plus, defScope s_Measure_plus, [], []⟩
def h_Measure_minus : He.DefD := ⟨("Measure", some "minus"), "minus", "Measure.minus", defArgs s_Measure_minus, defBody s_Measure_minus, defScope s_Measure_minus, [], []⟩
def h_Measure_is_below : He.DefD := ⟨("Measure", some "is_below"), "is_below", "Measure.is_below", defArgs s_Measure_is_below, defBody s_Measure_is_below, defScope s_Measure_is_below, [.bl false], []⟩
def h_is_measure_or_none : He.DefD := ⟨("is_measure_or_none", none), "is_measure_or_none", "is_measure_or_none", defArgs s_is_measure_or_none, defBody s_is_measure_or_none, defScope s_is_measure_or_none, [], []⟩
def h_measure_or : He.DefD := ⟨("measure_or", none), "measure_or", "measure_or", defArgs s_measure_or, defBody s_measure_or, defScope s_measure_or, [], []⟩
def h_fits : He.DefD := ⟨("fits", none), "fits", "fits", defArgs s_fits, defBody s_fits, defScope s_fits, [.non], []⟩
def h_fitting_of : He.DefD := ⟨("fitting_of", none), "fitting_of", "fitting_of", defArgs s_fitting_of, defBody s_fitting_of, defScope s_fitting_of, [], []⟩
def h_first_bare : He.DefD := ⟨("first_bare", none), "first_bare", "first_bare", defArgs s_first_bare, defBody s_first_bare, defScope s_first_bare, [], []⟩
def h_fewest_of : He.DefD := ⟨("fewest_of", none), "fewest_of", "fewest_of", defArgs s_fewest_of, defBody s_fewest_of, defScope s_fewest_of, [], []⟩
def h_stock_for : He.DefD := ⟨("stock_for", none), "stock_for", "stock_for", defArgs s_stock_for, defBody s_stock_for, defScope s_stock_for, [.non], []⟩
def h_slip_of : He.DefD := ⟨("slip_of", none), "slip_of", "slip_of", defArgs s_slip_of, defBody s_slip_of, defScope s_slip_of, [], []⟩
def h_are_marks : He.DefD := ⟨("are_marks", none), "are_marks", "are_marks", defArgs s_are_marks, defBody s_are_marks, defScope s_are_marks, [], []⟩
def h_is_rule : He.DefD := ⟨("is_rule", none), "is_rule", "is_rule", defArgs s_is_rule, defBody s_is_rule, defScope s_is_rule, [], []⟩
def h_is_span : He.DefD := ⟨("is_span", none), "is_span", "is_span", defArgs s_is_span, defBody s_is_span, defScope s_is_span, [], []⟩
def h_Ladder_init : He.DefD := ⟨("Ladder", some "__init__"), "__init__", "Ladder.__init__", defArgs s_Ladder_init, defBody s_Ladder_init, defScope s_Ladder_init, [.str "up", .non, .non], []⟩
def h_l_hand : He.DefD := ⟨("_law_hand", none), "_law_hand", "_law_hand", defArgs s_l_hand, defBody s_l_hand, defScope s_l_hand, [], []⟩
def h_l_take : He.DefD := ⟨("_law_take", none), "_law_take", "_law_take", defArgs s_l_take, defBody s_l_take, defScope s_l_take, [], []⟩
def h_l_pick : He.DefD := ⟨("_law_pick", none), "_law_pick", "_law_pick", defArgs s_l_pick, defBody s_l_pick, defScope s_l_pick, [], []⟩
def h_l_plain : He.DefD := ⟨("_law_plain", none), "_law_plain", "_law_plain", defArgs s_l_plain, defBody s_l_plain, defScope s_l_plain, [], []⟩
def h_l_sum : He.DefD := ⟨("_law_sum", none), "_law_sum", "_law_sum", defArgs s_l_sum, defBody s_l_sum, defScope s_l_sum, [], []⟩
def h_l_less : He.DefD := ⟨("_law_less", none), "_law_less", "_law_less", defArgs s_l_less, defBody s_l_less, defScope s_l_less, [], []⟩
def h_l_measures : He.DefD := ⟨("_law_measures", none), "_law_measures", "_law_measures", defArgs s_l_measures, defBody s_l_measures, defScope s_l_measures, [], []⟩
def h_l_part : He.DefD := ⟨("_law_part", none), "_law_part", "_law_part", defArgs s_l_part, defBody s_l_part, defScope s_l_part, [], []⟩
def h_l_marks : He.DefD := ⟨("_law_marks", none), "_law_marks", "_law_marks", defArgs s_l_marks, defBody s_l_marks, defScope s_l_marks, [], []⟩
def h_l_any_ladder : He.DefD := ⟨("_law_any_ladder", none), "_law_any_ladder", "_law_any_ladder", defArgs s_l_any_ladder, defBody s_l_any_ladder, defScope s_l_any_ladder, [], []⟩
def h_l_width : He.DefD := ⟨("_law_width", none), "_law_width", "_law_width", defArgs s_l_width, defBody s_l_width, defScope s_l_width, [], []⟩
def h_l_fits : He.DefD := ⟨("_law_fits", none), "_law_fits", "_law_fits", defArgs s_l_fits, defBody s_l_fits, defScope s_l_fits, [], []⟩
def h_l_fitted_foot : He.DefD := ⟨("_law_fitted_foot", none), "_law_fitted_foot", "_law_fitted_foot", defArgs s_l_fitted_foot, defBody s_l_fitted_foot, defScope s_l_fitted_foot, [], []⟩
def h_l_lots : He.DefD := ⟨("_law_lots", none), "_law_lots", "_law_lots", defArgs s_l_lots, defBody s_l_lots, defScope s_l_lots, [], []⟩
def h_l_right : He.DefD := ⟨("_law_right", none), "_law_right", "_law_right", defArgs s_l_right, defBody s_l_right, defScope s_l_right, [], []⟩
def h_law : He.DefD := ⟨("law", none), "law", "law", defArgs s_law, defBody s_law, defScope s_law, [], []⟩
def fn : List He.DefD := [h_is_whole, h_common_part, h_Measure_init, h_Measure_plus, h_Measure_minus, h_Measure_is_below, h_is_measure_or_none, h_measure_or, h_fits, h_fitting_of, h_first_bare, h_fewest_of, h_stock_for, h_slip_of, h_are_marks, h_is_rule, h_is_span, h_Ladder_init, h_l_hand, h_l_take, h_l_pick, h_l_plain, h_l_sum, h_l_less, h_l_measures, h_l_part, h_l_marks, h_l_any_ladder, h_l_width, h_l_fits, h_l_fitted_foot, h_l_lots, h_l_right, h_law]
def fa : List He.Fa := [.glo "is_whole", .glo "common_part", .glo "is_measure_or_none", .glo "measure_or", .glo "fits", .glo "fitting_of", .glo "first_bare", .glo "fewest_of", .glo "stock_for", .glo "slip_of", .glo "are_marks", .glo "is_rule", .glo "is_span", .glo "_law_hand", .glo "_law_take", .glo "_law_pick", .glo "_law_plain", .glo "_law_sum", .glo "_law_less", .glo "_law_measures", .glo "_law_part", .glo "_law_marks", .glo "_law_any_ladder", .glo "_law_width", .glo "_law_fits", .glo "_law_fitted_foot", .glo "_law_lots", .glo "_law_right", .glo "law", .glo "Measure", .glo "Ladder", .glo "RULES", .int "MOST_MARKS" 24, .free "abs", .free "all", .free "any", .free "bool", .free "enumerate", .free "int", .free "isinstance", .free "len", .free "list", .free "max", .free "min", .free "range", .free "set", .free "sorted", .free "str", .free "tuple", .cls "Measure", .noat "Measure" "top", .noat "Measure" "bottom", .meth "Measure" "plus", .meth "Measure" "minus", .meth "Measure" "is_below", .mkr "Measure", .cls "Ladder", .noat "Ladder" "marks", .noat "Ladder" "rule", .noat "Ladder" "least", .noat "Ladder" "most", .mkr "Ladder"]
abbrev R : PySem.W.OpenRow := PySem.W.OpenLaw.row PySem.Challenge.rw_sizeladders_k44_fewest_of_all_lots
def ex : List (PySem.W.Frag → Bool) := [isCB "Measure", tupB "RULES" ["up", "down", "near"], kitF (.inl "Measure") (.inl "Measure") true]
abbrev hk : PySem.W.Hook := hookM 5 fa fn ex
def ob (s : PySem.W.SharedT) : He.AlD × Bool := obsM 5 fa fn ex (HandSHeadRun.getT s)
theorem ob_eq (s : PySem.W.SharedT) : ob s = hk.obs s.abs := obsM_eq (HandSHeadRun.getT_eq s)
theorem run (w : World) : HandSHeadRun.RunEq R (PySem.W.view R.prog [49]) hk ob 20000 [("_wall" : PySem.Str), ("LadderError" : PySem.Str), ("NoMeasure" : PySem.Str), ("NoLadder" : PySem.Str), ("Slip" : PySem.Str), ("NoBottom" : PySem.Str), ("is_whole" : PySem.Str), ("common_part" : PySem.Str), ("written" : PySem.Str), ("Measure" : PySem.Str), ("is_measure_or_none" : PySem.Str), ("measure_or" : PySem.Str), ("fits" : PySem.Str), ("fitting_of" : PySem.Str), ("first_bare" : PySem.Str), ("fewest_of" : PySem.Str), ("stock_for" : PySem.Str), ("slip_of" : PySem.Str), ("MOST_MARKS" : PySem.Str), ("RULES" : PySem.Str), ("are_marks" : PySem.Str), ("is_rule" : PySem.Str), ("is_span" : PySem.Str), ("midsts_of" : PySem.Str), ("size_by_rule" : PySem.Str), ("bound_text" : PySem.Str), ("Ladder" : PySem.Str), ("_law_hand" : PySem.Str), ("_law_take" : PySem.Str), ("_law_pick" : PySem.Str), ("_law_plain" : PySem.Str), ("_law_sum" : PySem.Str), ("_law_less" : PySem.Str), ("_law_measures" : PySem.Str), ("_law_part" : PySem.Str), ("_law_marks" : PySem.Str), ("_law_any_ladder" : PySem.Str), ("_law_width" : PySem.Str), ("_law_fits" : PySem.Str), ("_law_fitted_foot" : PySem.Str), ("_law_lots" : PySem.Str), ("_law_right" : PySem.Str)] w := by
  intro os
  kernel_rfl

end K44
namespace My
open PySem PySem.Spec PyProof.Rows L2
/-! ### enumerate of a tuple -/
theorem meets_en1 {v : Value} {o : Obj} {Hh : Heap → Prop} (B : Begins v o Hh) : Meets (Builtin.«enumerate.__new__» ⟨[.type "enumerate", v], []⟩) (fun _ R s => Hh s.heap ∧
      R (.ok (.ret (.ref (s.heap.push o).objs.size))) { s with heap := (s.heap.push o).push { cls := .type "enumerate", data := .fields #[.none, .bool false, .ref s.heap.objs.size, rawInt 0, .none, .none] } }) :=
  .of_wp fun prog w A R s hh => by
    obtain ⟨hp, g, d, tk, os⟩ := s
    obtain ⟨hb, hr⟩ := hh
    have sub := sub_enumerate
    have qi : ∀ {A' : Around} {E : Value → Shared → Prop} {Q : Value → Shared → Prop}, Q (.ref hp.objs.size) ⟨hp.push o, g, d, tk, os⟩ → wpAny (model prog w) A' (pyIter v) Q E ⟨hp, g, d, tk, os⟩ := fun q => B.iter prog w _ _ ⟨hp, g, d, tk, os⟩ _ hb q
    wp_walk using qi
    refine wpAny_stack_any fun st => wpAny_pure ?_
    split
    · rename_i c _ _ _ _ _
      cases (c == Value.type "enumerate")
      · wp_walk using qi
        exact ⟨_, rfl, hr⟩
      · wp_walk using qi
        exact ⟨_, rfl, hr⟩
    · wp_walk using qi
      exact ⟨_, rfl, hr⟩
theorem call_en1 {prog : Program} {w : World} {A : Around} {E : Value → Shared → Prop} {s : Shared} {v : Value} {o : Obj} {Hh : Heap → Prop} {Q : Value → Shared → Prop} (B : Begins v o Hh) (hb : Hh s.heap)
    (f : ∀ h', IsEnum h' (s.heap.objs.size + 1) s.heap.objs.size 0 .none → h'.get? s.heap.objs.size = some o → (∀ b u, s.heap.get? b = some u → h'.get? b = some u) → Q (.ref (s.heap.objs.size + 1)) { s with heap := h' }) :
    wpAny (model prog w) A (call (.type "enumerate") [v]) Q E s := by
  refine callType_new PySem.F.called_enumerate (by decide) (PySem.F.typeCall_enumerate_1 _) (PySem.F.newCall_enumerate_1 _) (fun ob => PySem.F.args_object_init_2 ob _) PySem.F.entry_enumerate_new (meets_en1 B) ⟨hb, ?_⟩
  have hz : (s.heap.push o).objs.size = s.heap.objs.size + 1 := Heap.size_push ..
  have en := Heap.get?_push_size (s.heap.push o) (o := { cls := .type "enumerate", data := .fields #[.none, .bool false, .ref s.heap.objs.size, rawInt 0, .none, .none] }) rfl
  show _ ∧ _
  rw [hz] at en ⊢
  exact ⟨⟨_, en, rfl⟩, f _ en (Heap.get?_push_of_some _ (Heap.get?_push_size _ B.free)) fun b u x => Heap.get?_push_of_some _ (Heap.get?_push_of_some _ x)⟩
/-- the tuple at a, its items in new pairs -/
def ItT (K : PySem.W.Frag) (a : Addr) : It :=
  ⟨fun i H => ∃ (xs : List V) (x : V), SqT K H a xs ∧ xs[i]? = some x, fun i H v H' => ∃ T x, v = .ref T ∧ H T = none ∧ H' = upd H T (.tup [.int (i : Nat), x]) ∧ ∀ xs, SqT K H a xs → xs[i]? = some x, fun i H => ∃ xs : List V, SqT K H a xs ∧ xs.length = i⟩
theorem ti_ne {h : Heap} {it a : Addr} {i : Nat} {its : Array Value} (x : h.IsTupleIter it a i) (y : h.IsTuple a its) : a ≠ it := by
  intro e
  subst e
  obtain ⟨o, e1, c1, _⟩ := x
  obtain ⟨o', e2, c2, _⟩ := y
  rw [e1] at e2
  cases e2
  rw [c1] at c2
  injection c2 with e
  exact absurd e (by decide)
theorem turn_enumT {P : Program} {w : World} {K : PySem.W.Frag} {elts : List Expr} {kk : Nat} {tpos : Pos} (a e it : Addr) :
    Turn P w K (.Tuple elts kk tpos) (ItT K a) [e, it] e (fun i h => (∃ old, IsEnum h e it ((i : Nat) : Int) old) ∧ h.IsTupleIter it a i ∧ e ≠ it ∧ e ≠ a) where
  mem := by simp
  obj := fun i h st b hb => by
    obtain ⟨⟨old, he⟩, ⟨o, ho, hc, hd⟩, _⟩ := st
    rcases (show b = e ∨ b = it by simpa using hb) with z | z
    · rw [z]; exact ⟨_, he, fun v q => nomatch q⟩
    · rw [z]; exact ⟨o, ho, fun v q => by rw [hd] at q; cases q⟩
  keep := fun i h h' st k => let ⟨⟨old, he⟩, hi, hne⟩ := st; ⟨⟨old, k e (by simp) _ he⟩, hi.at fun o q => k it (by simp) o q, hne⟩
  item := by
    intro X hP hw hK hc i pins s σ H E I hf st hg
    subst hP hw hK
    obtain ⟨⟨old, he⟩, hit, hne, hna⟩ := st
    obtain ⟨xs, x, hq, hx⟩ := hg
    obtain ⟨its, rv, p, hz⟩ := I.tuple hq
    have pT : s.heap.IsTuple a its.toArray := p
    obtain ⟨u, hu, ru⟩ := rv.get hx
    have hel : e < s.heap.objs.size := Heap.lt_size he
    have hil : it < s.heap.objs.size := by obtain ⟨_, q, _⟩ := hit; exact Heap.lt_size q
    have hi2 : i < its.toArray.size := by
      have := (List.getElem?_eq_some_iff.mp hu).1
      simpa using this
    have DD := Draws.tuple (prog := X.prog) (w := X.w) (A := X.A.in1) (I.ok.hd hc) it a (ti_ne hit pT) its.toArray
    refine wpAny_pyNext_enum_itemC DD he ⟨hit, pT⟩ hi2 hne (by simp [hne, hna]) fun y h' tk hy ho hst hT hsz hk => ?_
    have ey : y = u := by
      have : its[i]? = some y := by simpa using hy
      rw [hu] at this
      exact (Option.some.inj this).symm
    subst ey
    refine ⟨_, rfl, wpAny_letOwnedTupleGo_enum (s := { s with heap := h', toks := tk + 1 }) ho fun h'' he' sb => ?_⟩
    have hT2 : h''.get? s.heap.objs.size = some { cls := .type "tuple", data := .seq #[.int i tk, y] } := (sb.2 _ (Nat.ne_of_gt hel)).trans hT
    have new : ObjOk X.prog X.w (upd H s.heap.objs.size (.tup [.int (i : Nat), x])) h'' s.heap.objs.size (.tup [.int (i : Nat), x]) :=
      ⟨by show 2 ≤ sizeLine; decide, [.int i tk, y], .cons ⟨_, rfl⟩ (.cons ru .nil), ⟨_, hT2, rfl, _, rfl⟩⟩
    have I1 : Inv X pins σ (upd H s.heap.objs.size (.tup [.int (i : Nat), x])) { s with heap := h'', toks := tk + 1 } :=
      I.turnedNew (ch := [e, it]) (fun b ob hb q => (sb.2 b (fun z => hb (by simp [z]))).trans (hk b ob (fun z => hb (by simp [z])) (fun z => hb (by simp [z])) q)) hf (Nat.le_refl _) new
    refine ⟨.ref s.heap.objs.size, _, I1, rfl, ⟨_, x, rfl, I.hok.fresh (Nat.le_refl _), rfl, fun ys hy => by rw [I.tuple_inj hy hq]; exact hx⟩, ⟨⟨y, ?_⟩, hst.1.at fun o q => (sb.2 it (Ne.symm hne)).trans q, hne, hna⟩, fun b hb => ?_⟩
    · have e1 : ((i + 1 : Nat) : Int) = (i : Int) + 1 := by omega
      rw [e1]; exact he'
    · have hb' : b < s.heap.objs.size := by
        rcases (show b = e ∨ b = it by simpa using hb) with z | z
        · rw [z]; exact hel
        · rw [z]; exact hil
      rw [upd_ne (Nat.ne_of_lt hb')]
      exact (hf b hb).1
  done := by
    intro X hP hw hK hc i pins s σ H E I hf st hg
    subst hP hw hK
    obtain ⟨⟨old, he⟩, hit, hne, hna⟩ := st
    obtain ⟨xs, hq, hx⟩ := hg
    obtain ⟨its, rv, p, hz⟩ := I.tuple hq
    have pT : s.heap.IsTuple a its.toArray := p
    obtain ⟨f0, f1, f2, f3, f4, f5⟩ := hf it (by simp)
    have hl := rv.length
    have hi : i = its.toArray.size := by rw [List.size_toArray]; omega
    have DD := Draws.tuple (prog := X.prog) (w := X.w) (A := X.A.in1) (I.ok.hd hc) it a (ti_ne hit pT) its.toArray
    exact wpAny_pyNext_enum_endD DD he ⟨by rw [← hi]; exact hit, pT⟩ fun h' eb => ⟨rfl, I.turned (t' := s.toks) (fun b o hb q => eb b o hb q) f0 f1 f3 f4 f5⟩
  self := fun A i s Q E st h => let ⟨⟨_, he⟩, _⟩ := st; wpAny_pyIter_enum he h
def iEnumT (K : PySem.W.Frag) (ta : TA) : TI := fun σ H R => ta σ H fun vs H1 => ∃ a xs, vs = [.ref a] ∧ SqT K H1 a xs ∧ R (ItT K a) H1
theorem pi_enumT {X : Cx} {e : Expr} {ta : TA} {p pos tpos : Pos} {elts : List Expr} {kk : Nat} (hg : Gl X "enumerate") (hm : X.mg "enumerate" = none) (ha : PA X [e] ta) (hs : starEach [e] X.env = [(false, eval e X.env)] := by rfl) :
    PI X (.Tuple elts kk tpos) (.Call (.Name "enumerate" p) [e] [] pos) (iEnumT X.K ta) := by
  refine ⟨fun pins s σ H R I h => ?_⟩
  refine Call_ (ld_blt I hg hm boot_enumerate (PyProof.Rows.callWith_type1 (thn (ha.run pos pins s σ H _ I h) fun us s1 ⟨vs, H1, I1, r1, q1⟩ => ?_) hs rfl))
  obtain ⟨a, xs, ex, hq, q⟩ := q1
  subst ex
  cases r1 with
  | cons r rr =>
    cases rr
    cases r
    obtain ⟨its, rv, p', hz⟩ := I1.tuple hq
    have pT : s1.heap.IsTuple a its.toArray := p'
    have la : a < s1.heap.objs.size := by obtain ⟨_, q, _⟩ := pT; exact Heap.lt_size q
    refine call_en1 (begins_tuple a its.toArray) pT fun h' he hit hk => wpAny_pyIter_enum he ?_
    have I2 : Inv X pins σ H1 { s1 with heap := h' } := I1.kept (t' := s1.toks) hk
    refine ⟨s1.heap.objs.size + 1, [s1.heap.objs.size + 1, s1.heap.objs.size], _, _, H1, rfl, I2, turn_enumT a (s1.heap.objs.size + 1) s1.heap.objs.size, ⟨⟨.none, he⟩, ⟨_, hit, rfl, rfl⟩, Nat.succ_ne_self _, Nat.ne_of_gt (Nat.lt_succ_of_lt la)⟩, fun b hb => ?_, q⟩
    have hle : s1.heap.objs.size ≤ b := by
      rcases (show b = s1.heap.objs.size + 1 ∨ b = s1.heap.objs.size by simpa using hb) with z | z
      · rw [z]; exact Nat.le_add_right _ _
      · rw [z]; exact Nat.le_refl _
    exact I1.fpOk hle (I1.hok.fresh hle)
theorem walk_enumT {K : PySem.W.Frag} {a : Addr} {xs : List V} : Walk (ItT K a) xs.length (fun H => SqT K H a xs) (YPair (fun i => some (.int (i : Nat))) (fun i => xs[i]?)) := by
  refine ⟨fun i _ hi q => ⟨xs, xs[i], q, by simp [hi]⟩, fun _ q => ⟨xs, q, rfl⟩, fun i H v H' _ q y => ?_⟩
  obtain ⟨T, x, h1, h2, h3, h4⟩ := y
  exact ⟨T, .int (i : Nat), x, h1, h2, h3, rfl, h4 xs q⟩
section
variable {X : Cx}
/-! ### len of an own object -/
theorem call_lenO {CX : CXT} {n : Nat} {C f : Addr} {fd : FuncData} {ps : List Str} {sp : Sp} {E : XK} (F : FnOk X.prog X.w X.K X.mg X.base CX n f fd ps sp) (hm : Meth X.K C "__len__" f) (hb : Binds X.K fd ps []) (hx : Passes CX X E) (hr : Room (n + 1) X.A) :
    CallR X (.builtin "len") (fun xs H Q => ∃ x a dx fs, xs = [x] ∧ x = .ref a ∧ H a = some (.ins C dx fs) ∧ sp [.ref a] H (fun v H' => ∃ k : Nat, v = .int (k : Int) ∧ k < 1000 ∧ Q (.int (k : Int)) H') E) := by
  intro pins s σ H xs us Q I r h
  obtain ⟨x, a, dx, fs, rfl, rfl, ha, h⟩ := h
  obtain ⟨u, rfl, r1⟩ := vals1 r
  cases (show u = Value.ref a from r1)
  obtain ⟨mA, J, _⟩ := ins_get I.hok ha
  obtain ⟨od, J, _⟩ := J.look
  obtain ⟨m, hF⟩ := I.fr
  have sb : Sub X (n + 1) X.A := ⟨hr, rfl⟩
  refine PySem.W.len_K hF I.ok.mod.kin J hm.at_ hm.fn ?_
  refine thn (fn_at F hb hx sb.in1 I (vs := [.ref a]) (.cons rfl .nil) h) fun u s' q => ?_
  obtain ⟨v, H', I', rv, k, rfl, hk, q⟩ := q
  obtain ⟨t, rfl⟩ := rv
  exact ⟨⟨by omega, by omega⟩, .int (k : Int), H', I'.tok _, ⟨_, rfl⟩, q⟩
end
/-! ### max and min with a default -/
theorem fold_max : ∀ (ns : List Int) (n : Int), ns.foldl max n ∈ n :: ns ∧ ∀ y ∈ n :: ns, y ≤ ns.foldl max n
  | [], n => ⟨by simp, fun y hy => by simp at hy; simp [hy]⟩
  | m :: ns, n => by
    obtain ⟨h1, h2⟩ := fold_max ns (max n m)
    refine ⟨?_, fun y hy => ?_⟩
    · show ns.foldl max (max n m) ∈ _
      rcases List.mem_cons.mp h1 with e | e
      · rw [e]
        rcases Int.le_total n m with l | l
        · rw [Int.max_eq_right l]; simp
        · rw [Int.max_eq_left l]; simp
      · simp [e]
    · show y ≤ ns.foldl max (max n m)
      have h0 := h2 (max n m) (by simp)
      rcases List.mem_cons.mp hy with e | e
      · rw [e]; omega
      · rcases List.mem_cons.mp e with e | e
        · rw [e]; omega
        · exact h2 y (by simp [e])
theorem fold_min : ∀ (ns : List Int) (n : Int), ns.foldl min n ∈ n :: ns ∧ ∀ y ∈ n :: ns, ns.foldl min n ≤ y
  | [], n => ⟨by simp, fun y hy => by simp at hy; simp [hy]⟩
  | m :: ns, n => by
    obtain ⟨h1, h2⟩ := fold_min ns (min n m)
    refine ⟨?_, fun y hy => ?_⟩
    · show ns.foldl min (min n m) ∈ _
      rcases List.mem_cons.mp h1 with e | e
      · rw [e]
        rcases Int.le_total n m with l | l
        · rw [Int.min_eq_left l]; simp
        · rw [Int.min_eq_right l]; simp
      · simp [e]
    · show ns.foldl min (min n m) ≤ y
      have h0 := h2 (min n m) (by simp)
      rcases List.mem_cons.mp hy with e | e
      · rw [e]; omega
      · rcases List.mem_cons.mp e with e | e
        · rw [e]; omega
        · exact h2 y (by simp [e])
theorem ints_alike (ns : List Int) : PySem.W.AlikeAll (ns.map PyData.int) := by
  refine ⟨fun x hx y hy => ?_, fun x hx => ?_⟩
  · obtain ⟨a, _, rfl⟩ := List.mem_map.mp hx
    obtain ⟨b, _, rfl⟩ := List.mem_map.mp hy
    rfl
  · obtain ⟨a, _, rfl⟩ := List.mem_map.mp hx
    exact fun z => nomatch z
theorem ints_depth : ∀ ns : List Int, PyData.depthAll (ns.map PyData.int) ≤ 1
  | [] => by simp [PyData.depthAll]
  | n :: ns => by
    have := ints_depth ns
    simp [PyData.depthAll, PyData.depth] at this ⊢
    omega
section
variable {X : Cx} {K : PySem.W.Frag}
def rMaxDf (K : PySem.W.Frag) : List V → List V → Hp → VK → Prop := fun xs zs H Q => ∃ (a : Addr) (ns : List Int) (d : V), xs = [.ref a] ∧ zs = [d] ∧ SqL K H a (ns.map V.int) ∧ (ns = [] → Q d H) ∧ ∀ m, m ∈ ns → (∀ y ∈ ns, y ≤ m) → Q (.int m) H
def rMinDf (K : PySem.W.Frag) : List V → List V → Hp → VK → Prop := fun xs zs H Q => ∃ (a : Addr) (ns : List Int) (d : V), xs = [.ref a] ∧ zs = [d] ∧ SqL K H a (ns.map V.int) ∧ (ns = [] → Q d H) ∧ ∀ m, m ∈ ns → (∀ y ∈ ns, m ≤ y) → Q (.int m) H
theorem maxDf {k : Nat} (hr : Room k X.A) (hK : X.K = K := by rfl) (hc : X.calm = true := by rfl) : CallRK X (.builtin "max") ["default"] (rMaxDf K) := by
  subst hK
  intro pins s σ H xs zs us ws Q I r1 r2 h
  obtain ⟨a, ns, d, rfl, rfl, hs, h0, h1⟩ := h
  obtain ⟨its, rv, hl, _⟩ := I.list hs
  rw [Vals.ref1 r1]
  obtain ⟨dv, rfl, rd⟩ := vals1 r2
  have hu := hr.un
  have hd := ints_depth ns
  refine PySem.W.max_list_default (xs := ns.map PyData.int) (I.ok.hd hc) hl.isList (by simpa using (rv.ints).reads s.heap) (ints_alike ns) (by omega) (fun e h' tk hk => ?_) (fun y ys i v h' tk bs e hv rr hk => ?_)
  · have e2 : ns = [] := by simpa using e
    exact ⟨d, H, I.kept hk, rd, h0 e2⟩
  · cases ns with
    | nil => simp at e
    | cons n ns =>
      simp only [List.map_cons, List.cons.injEq] at e
      obtain ⟨rfl, rfl⟩ := e
      rw [PySem.W.maxD_ints] at rr
      obtain ⟨f1, f2⟩ := fold_max ns n
      cases rr
      exact ⟨.int _, H, I.kept hk, ⟨_, rfl⟩, h1 _ f1 f2⟩
theorem minDf {k : Nat} (hr : Room k X.A) (hK : X.K = K := by rfl) (hc : X.calm = true := by rfl) : CallRK X (.builtin "min") ["default"] (rMinDf K) := by
  subst hK
  intro pins s σ H xs zs us ws Q I r1 r2 h
  obtain ⟨a, ns, d, rfl, rfl, hs, h0, h1⟩ := h
  obtain ⟨its, rv, hl, _⟩ := I.list hs
  rw [Vals.ref1 r1]
  obtain ⟨dv, rfl, rd⟩ := vals1 r2
  have hu := hr.un
  have hd := ints_depth ns
  refine PySem.W.min_list_default (xs := ns.map PyData.int) (I.ok.hd hc) hl.isList (by simpa using (rv.ints).reads s.heap) (ints_alike ns) (by omega) (fun e h' tk hk => ?_) (fun y ys i v h' tk bs e hv rr hk => ?_)
  · have e2 : ns = [] := by simpa using e
    exact ⟨d, H, I.kept hk, rd, h0 e2⟩
  · cases ns with
    | nil => simp at e
    | cons n ns =>
      simp only [List.map_cons, List.cons.injEq] at e
      obtain ⟨rfl, rfl⟩ := e
      rw [PySem.W.minD_ints] at rr
      obtain ⟨f1, f2⟩ := fold_min ns n
      cases rr
      exact ⟨.int _, H, I.kept hk, ⟨_, rfl⟩, h1 _ f1 f2⟩
theorem maxL (hK : X.K = K := by rfl) (hc : X.calm = true := by rfl) : CallR X (.builtin "max") (rMax K) := by subst hK; exact cr_max hc
theorem minL (hK : X.K = K := by rfl) (hc : X.calm = true := by rfl) : CallR X (.builtin "min") (rMin K) := by subst hK; exact cr_min hc
/-! ### xs[::k] -/
theorem vals_pick {xs : List V} {us : List Value} (r : Vals xs us) : ∀ l : List Nat, Vals (l.filterMap (xs[·]?)) (l.filterMap (us[·]?))
  | [] => .nil
  | i :: l => by
    have ih := vals_pick r l
    rw [List.filterMap_cons, List.filterMap_cons]
    have hl := r.length
    cases e : xs[i]? with
    | none =>
      have : us[i]? = none := by rw [List.getElem?_eq_none_iff] at e ⊢; omega
      rw [this]
      exact ih
    | some x =>
      obtain ⟨u, hu, ru⟩ := r.get e
      rw [hu]
      exact .cons ru ih
def tStepL (K : PySem.W.Frag) (te ts : TE) : TE := fun σ H Q => te σ H fun x H1 => tPart ts σ H1 fun o H2 => ∃ (a : Addr) (xs : List V) (k : Int), x = .ref a ∧ o = some k ∧ 0 < k ∧ SqL K H2 a xs ∧ ∀ (p : Addr) (ys : List V), H2 p = none → (∀ y ∈ ys, y ∈ xs) → ys.length ≤ xs.length → Q (.ref p) (upd H2 p (.lst ys))
theorem pe_stepL {e st : Expr} {te ts : TE} {p3 pos : Pos} (he : PE X e te) (hs : PE X st ts) (hK : X.K = K := by rfl) : PE X (.Subscript e (.Slice none none (some st) p3) pos) (tStepL K te ts) := by
  subst hK
  refine ⟨fun pins s σ H Q I h => ?_⟩
  refine Subscript_ (thn (he.run pins s σ H _ I h) fun v s1 ⟨x, H1, I1, r1, q1⟩ => ?_)
  refine wpAny_Slice (thn (po_none.run pins s1 σ H1 (fun o H2 => o = none ∧ H2 = H1) I1 ⟨rfl, rfl⟩) fun vl s2 ⟨l, H2, I2, pl, el, e2⟩ => ?_)
  subst el e2
  refine thn (po_none.run pins s2 σ H2 (fun o H3 => o = none ∧ H3 = H2) I2 ⟨rfl, rfl⟩) fun vu s3 ⟨u, H3, I3, pu, eu, e3⟩ => ?_
  subst eu e3
  have hst : PO X (some st) (tPart ts) := po_some hs
  refine thn (hst.run pins s3 σ H3 _ I3 q1) fun vs s4 ⟨o, H4, I4, ps, a, xs, k, ex, eo, hk, hx, q⟩ => ?_
  subst eo ex
  cases r1
  have I5 : Inv X pins σ H4 { s4 with heap := s4.heap.push { cls := .type "slice", data := .fields #[vl, vu, vs] } } := I4.kept (t' := s4.toks) fun b ob q => Heap.get?_push_of_some _ q
  obtain ⟨its, r, ht, hz⟩ := I5.list hx
  have hlen := r.length
  show wpAny (model X.prog X.w) X.A (subscriptTail e (.Slice none none (some st) p3) (.ref a) (.ref s4.heap.objs.size)) (EP X pins σ Q) X.xe _
  refine tail_any (ops := [.ref a, .ref s4.heap.objs.size]) ht.isList.typeIs (PySem.slot_list_getitem.lookup) ?_ (by with_unfolding_all rfl)
  refine wpAny_getItem_list_slice ht.isList (Heap.IsSliceOf.new _ vl vu vs) pl pu ps (by simp; omega) ?_ (by rw [List.size_toArray]; omega)
  have pk : (slicePick its.toArray none none (some k)).size ≤ its.length := by simpa using slicePick_size_le its.toArray none none (some k)
  obtain ⟨L, eL⟩ : ∃ L : List Nat, slicePick its.toArray none none (some k) = (L.filterMap (its[·]?)).toArray := ⟨_, by unfold slicePick; simp; rfl⟩
  have rp := vals_pick r L
  have lp : (L.filterMap (xs[·]?)).length ≤ xs.length := by
    rw [rp.length]
    rw [eL, List.size_toArray] at pk
    omega
  rw [eL]
  refine ⟨.ref _, _, I5.laid (t' := s4.toks) (o := .lst (L.filterMap (xs[·]?))) (fun b ob q => Heap.get?_push_of_some _ q) (Nat.le_refl _) ?_, rfl, q _ _ (I5.hok.fresh (Nat.le_refl _)) (fun y hy => ?_) lp⟩
  · exact ⟨by omega, _, 0, rp, Heap.get?_push_size _ rfl⟩
  · obtain ⟨i, _, e⟩ := List.mem_filterMap.mp hy
    exact List.mem_of_getElem? e
def rTupL (K : PySem.W.Frag) : List V → Hp → VK → Prop := fun xs H Q => ∃ (p : Addr) (ys : List V), xs = [.ref p] ∧ SqL K H p ys ∧ ∀ l, H l = none → Q (.ref l) (upd H l (.tup ys))
theorem tupleL (hK : X.K = K := by rfl) : CallR X (.type "tuple") (rTupL K) := by
  subst hK
  intro pins s σ H xs us Q I r h
  obtain ⟨p, ys, e, h1, h2⟩ := h
  exact call_tuple_of pins s σ H xs us Q I r ⟨p, ys, e, .inl ⟨h1, h2⟩⟩
def rTupT (K : PySem.W.Frag) : List V → Hp → VK → Prop := fun xs H Q => ∃ (p : Addr) (ys : List V), xs = [.ref p] ∧ SqT K H p ys ∧ Q (.ref p) H
theorem tupleT (hK : X.K = K := by rfl) : CallR X (.type "tuple") (rTupT K) := by
  subst hK
  exact call_tupleT
def rListOf (K : PySem.W.Frag) : List V → Hp → VK → Prop := fun xs H Q => ∃ (p : Addr) (ys : List V), xs = [.ref p] ∧ (SqL K H p ys ∨ SqT K H p ys) ∧ ∀ l, H l = none → Q (.ref l) (upd H l (.lst ys))
theorem listOf (hK : X.K = K := by rfl) : CallR X (.type "list") (rListOf K) := by
  subst hK
  exact call_list_of
theorem walk_zipT {a b : Addr} {xs ys : List V} {n : Nat} (hn : n = min xs.length ys.length) : Walk (RZ.ItzT K a b) n (fun H => SqT K H a xs ∧ SqT K H b ys) (YPair (fun i => xs[i]?) (fun i => ys[i]?)) := by
  subst hn
  refine ⟨fun i _ hi q => ?_, fun _ q => ⟨xs, ys, q.1, q.2, by omega⟩, fun i H v H' _ q y => ?_⟩
  · have h1 : i < xs.length := by omega
    have h2 : i < ys.length := by omega
    exact ⟨xs, ys, xs[i], ys[i], q.1, q.2, by simp [h1], by simp [h2]⟩
  · obtain ⟨T, x, z, h1, h2, h3, h4, h5⟩ := y
    exact ⟨T, x, z, h1, h2, h3, h4 xs q.1, h5 ys q.2⟩
end
theorem logS {m : Int} (h : m.natAbs < 2 ^ 60) : m.natAbs.log2 < 9000 := Nat.lt_of_lt_of_le (PySem.Flt.log2_lt_of (by decide) h) (by decide)
theorem szl {n : Nat} (h : n ≤ 1000) : n ≤ sizeLine := Nat.le_trans h (by decide)
theorem szb {n : Nat} (h : Nat.ble n 1000 = true) : n ≤ sizeLine := szl (Nat.le_of_ble_eq_true h)
theorem szs {n : Nat} (h : n < 1000) : n < sizeLine := Nat.lt_of_lt_of_le h (by decide)
theorem atI_end {xs : List V} {n : Nat} {v : V} (hn : n + 1 = xs.length) (h : xs[n]? = some v) : atI xs (-1) = some v := by
  have e : ixN xs.length (-1) = some n := by
    unfold ixN
    rw [if_neg (by decide), if_pos (by omega)]
    exact congrArg some (by omega)
  unfold atI
  rw [e]
  exact h
theorem qmk_pos {a b : Int} (h : 0 < b) : qmk a b = (a, b) := by
  have e : sgn b = 1 := by unfold sgn; rw [if_pos h]
  unfold qmk
  rw [e, Int.mul_one, Int.mul_one]
/-- a Measure is made -/
theorem q_made {C : Addr} {H : Hp} {Qa : Addr → Hp → Prop} {E : XK} {k : Nat} {a b : Int} (hb : 0 < b) (sa : Sz k a) (sb : Sz k b) (k0 : 0 < k) (k1 : k ≤ 8900) (f : ∀ (p : Addr) (H' : Hp), Same H H' → QAt C H' p k (a, b) → Qa p H') :
    ∀ x dx, H x = none → H dx = none → dx ≠ x → sp_minit C [.ref x, .int a, .int b] (upd (upd H dx (.own x)) x (.ins C dx [])) (fun v H2 => v = .non ∧ Qa x H2) E := by
  intro x dx nx nd ne
  refine ⟨x, dx, a, b, rfl, upd_same, by omega, Sz.log sb k0 (by omega), fun t u H' fr hx kp => ⟨rfl, ?_⟩⟩
  have q := q_mk (k := k) ⟨dx, hx⟩ fr (by omega) sa sb
  rw [qmk_pos hb] at q
  exact f x H' (made_same nx nd kp) q
/-! ### draws -/
/-- one of a list -/
def sp_of (K : PySem.W.Frag) : Sp := fun vs H Q _ => ∃ (h l : Addr) (n : Nat) (xs : List V), vs = [.ref h, .ref l] ∧ HandAt H h n ∧ n < 100000 ∧ SqL K H l xs ∧ l ≠ h ∧ 0 < xs.length ∧ xs.length ≤ 1000 ∧
  ∀ (i : Nat) (x : V) (H' : Hp), xs[i]? = some x → HandAt H' h (n + 1) → Kp h H H' → Q x H'
end My
namespace My
open PySem PySem.Spec PyProof.Rows L2
theorem HandAt.put {H : Hp} {h l : Addr} {u : HO} {n : Nat} (a : HandAt H h n) (ne : l ≠ h) : HandAt (upd H l u) h n := by
  obtain ⟨x, y, z, h1, h2⟩ := a
  exact ⟨x, y, z, by rw [upd_ne ne.symm]; exact h1, h2⟩
theorem Kp.fresh {h l : Addr} {H H1 : Hp} (k : Kp h H H1) (hn : H1 l = none) (ne : l ≠ h) : H l = none := by
  cases e : H l with
  | none => rfl
  | some o => rw [k l o e ne] at hn; cases hn
theorem Kp.putN {h l : Addr} {H H1 : Hp} {u : HO} (k : Kp h H H1) (hn : H l = none) : Kp h H (upd H1 l u) := fun c o e n => by
  rw [upd_ne (ne_of_none e hn)]; exact k c o e n
theorem geI {n : Nat} {zs : List Int} (h : n < zs.length) : ∃ a, zs[n]? = some a := ⟨_, List.getElem?_eq_getElem h⟩
theorem mapI {ms : List Int} {n : Nat} {a : Int} (h : ms[n]? = some a) : (ms.map V.int)[n]? = some (.int a) := by rw [List.getElem?_map, h]; rfl
def optZ : Option Int → V
  | none => .non
  | some z => .int z
/-- a ladder in whole parts, as the laws draw it -/
structure LawL (H : Hp) (p : Addr) (part : Int) (ms : List Int) (r : Str) (lo hi : Option Int) : Prop where
  ob : ∃ T, H p = some (.tup [.int part, .ref T, .str r, optZ lo, optZ hi]) ∧ H T = some (.tup (ms.map V.int))
  p0 : 0 < part
  p1 : part ≤ 10007
  len0 : 0 < ms.length
  len1 : ms.length ≤ 24
  rise : ∀ (i : Nat) (a b : Int), ms[i]? = some a → ms[i + 1]? = some b → a < b
  four : ∀ m ∈ ms, m % 4 = 0
  bnd : ∀ m ∈ ms, -4000000 ≤ m ∧ m ≤ 4000000
  blo : ∀ z, lo = some z → -4000040 ≤ z ∧ z ≤ 4000040
  bhi : ∀ z, hi = some z → -4000040 ≤ z ∧ z ≤ 4000040
  rule : IsRule r
  span : ∀ a b, lo = some a → hi = some b → a ≤ b
section
variable {H H' : Hp} {p : Addr} {part : Int} {ms : List Int} {r : Str} {lo hi : Option Int}
theorem LawL.same (a : LawL H p part ms r lo hi) (s : Same H H') : LawL H' p part ms r lo hi := by
  obtain ⟨⟨T, h1, h2⟩, a1⟩ := a
  exact ⟨⟨T, s _ _ h1, s _ _ h2⟩, by assumption, by assumption, by assumption, by assumption, by assumption, by assumption, by assumption, by assumption, by assumption, by assumption, by assumption⟩
/-- the parts as fractions -/
def zq (d : Int) (ms : List Int) : List Q2 := ms.map fun m => (m, d)
def oq (d : Int) (o : Option Int) : Option Q2 := o.map fun m => (m, d)
theorem zq_len (d : Int) (ms : List Int) : (zq d ms).length = ms.length := List.length_map ..
theorem zq_get {d : Int} {ms : List Int} {i : Nat} {z : Q2} (h : (zq d ms)[i]? = some z) : ∃ m, ms[i]? = some m ∧ z = (m, d) := by
  unfold zq at h
  rw [List.getElem?_map] at h
  cases e : ms[i]? with
  | none => rw [e] at h; cases h
  | some m => rw [e] at h; exact ⟨m, rfl, (Option.some.inj h).symm⟩
theorem ltq_d {d a b : Int} (h : 0 < d) : ltq (a, d) (b, d) = decide (a < b) := by
  unfold ltq
  refine decide_eq_decide.mpr ⟨fun z => Int.lt_of_mul_lt_mul_right z (Int.le_of_lt h), fun z => Int.mul_lt_mul_of_pos_right z h⟩
theorem eqq_d {d a b : Int} (h : 0 < d) : eqq (a, d) (b, d) = decide (a = b) := by
  unfold eqq
  refine decide_eq_decide.mpr ⟨fun z => Int.eq_of_mul_eq_mul_right (by omega) z, fun z => by rw [z]⟩
theorem leq_d {d a b : Int} (h : 0 < d) : leq (a, d) (b, d) = decide (a ≤ b) := by
  unfold leq
  rw [ltq_d h, eqq_d h, ← Bool.decide_or]
  exact decide_eq_decide.mpr ⟨fun z => by omega, fun z => by omega⟩
theorem LawL.riseQ (a : LawL H p part ms r lo hi) : RiseQ (zq (4 * part) ms) := by
  intro i x y hx hy
  obtain ⟨m, hm, rfl⟩ := zq_get hx
  obtain ⟨m', hm', rfl⟩ := zq_get hy
  have := a.p0
  rw [ltq_d (by omega)]
  exact decide_eq_true (a.rise i m m' hm hm')
theorem LawL.spanQ (a : LawL H p part ms r lo hi) : spanB (oq (4 * part) lo) (oq (4 * part) hi) = true := by
  cases lo with
  | none => cases hi <;> rfl
  | some x =>
    cases hi with
    | none => rfl
    | some y =>
      have := a.p0
      have h := a.span x y rfl rfl
      show (!ltq (y, 4 * part) (x, 4 * part)) = true
      rw [ltq_d (by omega), decide_eq_false (by omega)]
      rfl
end
theorem rise_snoc {ms : List Int} {x : Int} (h : ∀ (i : Nat) (a b : Int), ms[i]? = some a → ms[i + 1]? = some b → a < b) (hx : ∀ m ∈ ms, m < x) : ∀ (i : Nat) (a b : Int), (ms ++ [x])[i]? = some a → (ms ++ [x])[i + 1]? = some b → a < b := by
  intro i a b ha hb
  have l1 := (List.getElem?_eq_some_iff.mp hb).1
  rw [List.length_append, List.length_singleton] at l1
  rw [List.getElem?_append_left (by omega)] at ha
  by_cases hi : i + 1 < ms.length
  · rw [List.getElem?_append_left hi] at hb
    exact h i a b ha hb
  · have e : i + 1 = ms.length := by omega
    rw [e, List.getElem?_append_right (Nat.le_refl _), Nat.sub_self] at hb
    have eb : x = b := by simpa using hb
    rw [← eb]
    exact hx a (List.mem_of_getElem? ha)
theorem map_snoc (ms : List Int) (x : Int) : ms.map V.int ++ [V.int x] = (ms ++ [x]).map V.int := by simp
theorem whole1 {n : Nat} {X : Prop} (h : 0 < n) : ¬ (HT.sIx n 0 (some 1) = 0 ∧ X) := fun z => by
  have e : HT.sIx n 0 (some ((1 : Nat) : Int)) = min 1 n := HT.sIx_nat n 0 1
  have z1 : HT.sIx n 0 (some ((1 : Nat) : Int)) = 0 := z.1
  omega
theorem cutV_tail (xs : List V) : cutV xs (some 1) none = xs.drop 1 := by
  unfold cutV
  have e : HT.sIx xs.length 0 (some ((1 : Nat) : Int)) = min 1 xs.length := HT.sIx_nat xs.length 0 1
  have e1 : HT.sIx xs.length 0 (some (1 : Int)) = min 1 xs.length := e
  rw [e1, HT.sIx_none]
  cases xs with
  | nil => rfl
  | cons x xs =>
    rw [show min 1 (x :: xs).length = 1 by simp]
    rw [List.take_of_length_le (by rw [List.length_drop]; omega)]
/-- whole numbers within a bound -/
def IntsB (B : Int) (xs : List V) : Prop := ∀ x ∈ xs, ∃ z : Int, x = .int z ∧ -B ≤ z ∧ z ≤ B
theorem IntsB.app {B : Int} {xs ys : List V} (a : IntsB B xs) (b : IntsB B ys) : IntsB B (xs ++ ys) := fun x h => by
  rcases List.mem_append.mp h with h | h
  · exact a x h
  · exact b x h
theorem IntsB.mono {B B' : Int} {xs : List V} (a : IntsB B xs) (l : B ≤ B') : IntsB B' xs := fun x h => by
  obtain ⟨z, e, h1, h2⟩ := a x h
  exact ⟨z, e, by omega, by omega⟩
theorem IntsB.ints {B : Int} : ∀ {xs : List V}, IntsB B xs → ∃ ys : List Int, xs = ys.map V.int ∧ ∀ y ∈ ys, -B ≤ y ∧ y ≤ B
  | [], _ => ⟨[], rfl, fun y h => by simp at h⟩
  | x :: xs, a => by
    obtain ⟨z, rfl, h1⟩ := a x (by simp)
    obtain ⟨ys, e, h2⟩ := IntsB.ints (xs := xs) fun w hw => a w (by simp [hw])
    refine ⟨z :: ys, by rw [e]; rfl, fun y hy => ?_⟩
    rcases List.mem_cons.mp hy with e | e
    · rw [e]; exact h1
    · exact h2 y e
theorem IntsB.of {B : Int} {ms : List Int} (h : ∀ m ∈ ms, -B ≤ m ∧ m ≤ B) : IntsB B (ms.map V.int) := fun x hx => by
  obtain ⟨m, hm, rfl⟩ := List.mem_map.mp hx
  exact ⟨m, rfl, h m hm⟩
/-! ### sizes by whole numbers -/
abbrev RiseI (ms : List Int) : Prop := ∀ (i : Nat) (a b : Int), ms[i]? = some a → ms[i + 1]? = some b → a < b
theorem RiseI.tail {x : Int} {ms : List Int} (h : RiseI (x :: ms)) : RiseI ms := fun i a b h1 h2 => h (i + 1) a b (by simpa using h1) (by simpa using h2)
theorem RiseI.head : ∀ {ms : List Int} {x : Int}, RiseI (x :: ms) → ∀ m ∈ ms, x < m
  | [], _, _, m, hm => by simp at hm
  | y :: ms, x, h, m, hm => by
    have h0 : x < y := h 0 x y rfl rfl
    rcases List.mem_cons.mp hm with e | e
    · rw [e]; exact h0
    · have := RiseI.head h.tail m e
      omega
theorem RiseI.lt {ms : List Int} (h : RiseI ms) : ∀ {j : Nat} {i : Nat} {a b : Int}, i < j → ms[i]? = some a → ms[j]? = some b → a < b
  | 0, _, _, _, hi, _, _ => by omega
  | j + 1, i, a, b, hi, ha, hb => by
    obtain ⟨c, hc⟩ := geI (zs := ms) (n := j) (by have := (List.getElem?_eq_some_iff.mp hb).1; omega)
    have h1 := h j c b hc hb
    by_cases e : i = j
    · subst e
      rw [ha] at hc
      cases hc
      exact h1
    · have := RiseI.lt h (show i < j by omega) ha hc
      omega
theorem cnt_rise (f : Int → Bool) (hf : ∀ a b, a < b → f b = true → f a = true) : ∀ {ms : List Int}, RiseI ms → ∀ (k : Nat) (a : Int), ms[k]? = some a → (f a = true ↔ k < ms.countP f)
  | [], _, k, a, h => by simp at h
  | x :: ms, hr, k, a, h => by
    rw [List.countP_cons]
    cases e : f x with
    | true =>
      rw [if_pos rfl]
      cases k with
      | zero =>
        have : x = a := by simpa using h
        subst this
        simp [e]
      | succ k =>
        have := cnt_rise f hf hr.tail k a (by simpa using h)
        rw [this]
        omega
    | false =>
      rw [if_neg (by simp)]
      have z0 : ms.countP f = 0 := by
        rw [List.countP_eq_zero]
        intro y hy q
        have := hf x y (hr.head y hy) q
        rw [e] at this
        cases this
      rw [z0]
      have fa : f a = false := by
        cases k with
        | zero =>
          have : x = a := by simpa using h
          rw [← this]; exact e
        | succ k =>
          cases q : f a with
          | false => rfl
          | true =>
            have := hf x a (hr.head a (List.mem_of_getElem? (by simpa using h : ms[k]? = some a))) q
            rw [e] at this
            cases this
      rw [fa]
      simp
theorem cnt_is {f : Int → Bool} (hf : ∀ a b, a < b → f b = true → f a = true) {ms : List Int} (hr : RiseI ms) {k : Nat} (hk : k ≤ ms.length) (h1 : ∀ j a, j < k → ms[j]? = some a → f a = true) (h2 : ∀ a, ms[k]? = some a → f a = false) : ms.countP f = k := by
  have le : ms.countP f ≤ ms.length := List.countP_le_length
  rcases Nat.lt_trichotomy (ms.countP f) k with h | h | h
  · obtain ⟨a, ha⟩ := geI (zs := ms) (n := ms.countP f) (by omega)
    have := (cnt_rise f hf hr _ a ha).mp (h1 _ a h ha)
    omega
  · exact h
  · obtain ⟨a, ha⟩ := geI (zs := ms) (n := k) (by omega)
    have := (cnt_rise f hf hr _ a ha).mpr h
    rw [h2 a ha] at this
    cases this
section
variable {ms : List Int} {d z : Int} {lo hi : Option Q2}
theorem lt_down : ∀ a b : Int, a < b → decide (b < z) = true → decide (a < z) = true := fun a b h q => decide_eq_true (by have := of_decide_eq_true q; omega)
theorem le_down : ∀ a b : Int, a < b → decide (b ≤ z) = true → decide (a ≤ z) = true := fun a b h q => decide_eq_true (by have := of_decide_eq_true q; omega)
theorem cq_lt (hd : 0 < d) : (zq d ms).countP (fun a => ltq a (z, d)) = ms.countP (fun m => decide (m < z)) := by
  unfold zq
  rw [List.countP_map]
  exact congrArg (fun f => ms.countP f) (funext fun m => ltq_d hd)
theorem cq_le (hd : 0 < d) : (zq d ms).countP (fun a => leq a (z, d)) = ms.countP (fun m => decide (m ≤ z)) := by
  unfold zq
  rw [List.countP_map]
  exact congrArg (fun f => ms.countP f) (funext fun m => leq_d hd)
theorem size_in (hin : inO lo hi (z, d) = true) {r : Str} {n : Int} (e : sizeR (zq d ms) r (z, d) = n) : sizeQ (zq d ms) r lo hi (z, d) = if 0 ≤ n ∧ n < ms.length then some n.toNat else none := by
  unfold sizeQ
  rw [if_pos hin, e, zq_len]
theorem up_none (hd : 0 < d) (hr : RiseI ms) (hin : inO lo hi (z, d) = true) (h : ∀ m ∈ ms, m < z) : sizeQ (zq d ms) "up" lo hi (z, d) = none := by
  have c : ms.countP (fun m => decide (m < z)) = ms.length := List.countP_eq_length.mpr fun m hm => decide_eq_true (h m hm)
  rw [size_in hin (n := (ms.length : Int)) (by unfold sizeR; rw [if_pos rfl, cq_lt hd, c]), if_neg (by omega)]
theorem up_some (hd : 0 < d) (hr : RiseI ms) (hin : inO lo hi (z, d) = true) {k : Nat} {a : Int} (hk : ms[k]? = some a) (ha : z ≤ a) (h : ∀ j b, j < k → ms[j]? = some b → b < z) : sizeQ (zq d ms) "up" lo hi (z, d) = some k := by
  have hl := (List.getElem?_eq_some_iff.mp hk).1
  have c : ms.countP (fun m => decide (m < z)) = k := cnt_is lt_down hr (by omega) (fun j b hj hb => decide_eq_true (h j b hj hb)) fun b hb => by
    rw [hk] at hb
    cases hb
    exact decide_eq_false (by omega)
  rw [size_in hin (n := (k : Int)) (by unfold sizeR; rw [if_pos rfl, cq_lt hd, c]), if_pos (by omega)]
  rfl
theorem dn_none (hd : 0 < d) (hr : RiseI ms) (hin : inO lo hi (z, d) = true) (h : ∀ m ∈ ms, z < m) : sizeQ (zq d ms) "down" lo hi (z, d) = none := by
  have c : ms.countP (fun m => decide (m ≤ z)) = 0 := by
    rw [List.countP_eq_zero]
    intro m hm q
    have := h m hm
    have := of_decide_eq_true q
    omega
  rw [size_in hin (n := -1) (by unfold sizeR; rw [if_neg (by decide +kernel), if_pos rfl, cq_le hd, c]; rfl), if_neg (by omega)]
theorem dn_some (hd : 0 < d) (hr : RiseI ms) (hin : inO lo hi (z, d) = true) {k : Nat} {a : Int} (hk : ms[k]? = some a) (ha : a ≤ z) (h : ∀ j b, k < j → ms[j]? = some b → z < b) : sizeQ (zq d ms) "down" lo hi (z, d) = some k := by
  have hl := (List.getElem?_eq_some_iff.mp hk).1
  have c : ms.countP (fun m => decide (m ≤ z)) = k + 1 := cnt_is le_down hr (by omega) (fun j b hj hb => decide_eq_true (by
    by_cases e : j = k
    · subst e
      rw [hk] at hb
      cases hb
      exact ha
    · have := hr.lt (show j < k by omega) hb hk
      omega)) fun b hb => decide_eq_false (by have := h (k + 1) b (by omega) hb; omega)
  rw [size_in hin (n := (k : Int)) (by unfold sizeR; rw [if_neg (by decide +kernel), if_pos rfl, cq_le hd, c]; omega), if_pos (by omega)]
  rfl
/-- sums of neighbours -/
def pairS : List Int → List Int
  | a :: b :: r => (a + b) :: pairS (b :: r)
  | _ => []
theorem half_d {a b : Int} (hd : 0 < d) : leq (qhalf (a, d) (b, d)) (z, d) = decide (a + b ≤ 2 * z) := by
  rw [qhalf_eq]
  unfold leq ltq eqq
  rw [← Bool.decide_or]
  refine decide_eq_decide.mpr ?_
  show ((a * d + b * d) * d < z * (d * d * 2) ∨ (a * d + b * d) * d = z * (d * d * 2)) ↔ _
  have e1 : (a * d + b * d) * d = (a + b) * (d * d) := by grind
  have e2 : z * (d * d * 2) = (2 * z) * (d * d) := by grind
  have p : 0 < d * d := Int.mul_pos hd hd
  rw [e1, e2]
  constructor
  · rintro (h | h)
    · have := Int.lt_of_mul_lt_mul_right h (Int.le_of_lt p)
      omega
    · have := Int.eq_of_mul_eq_mul_right (by omega) h
      omega
  · intro h
    rcases Int.lt_or_eq_of_le h with h | h
    · exact .inl (Int.mul_lt_mul_of_pos_right h p)
    · exact .inr (by rw [h])
theorem cq_mid (hd : 0 < d) : ∀ ms : List Int, (midq (zq d ms)).countP (fun a => leq a (z, d)) = (pairS ms).countP (fun m => decide (m ≤ 2 * z))
  | [] => rfl
  | [_] => rfl
  | a :: b :: r => by
    have ih := cq_mid hd (b :: r)
    show (qhalf (a, d) (b, d) :: midq (zq d (b :: r))).countP _ = ((a + b) :: pairS (b :: r)).countP _
    rw [List.countP_cons, List.countP_cons, ih, half_d hd]
theorem pairS_len : ∀ ms : List Int, (pairS ms).length = ms.length - 1
  | [] => rfl
  | [_] => rfl
  | a :: b :: r => by
    show (pairS (b :: r)).length + 1 = _
    rw [pairS_len (b :: r)]
    simp
theorem pairS_get : ∀ (ms : List Int) (i : Nat) (a b : Int), ms[i]? = some a → ms[i + 1]? = some b → (pairS ms)[i]? = some (a + b)
  | [], i, a, b, h, _ => by simp at h
  | [x], i, a, b, _, h => by simp at h
  | x :: y :: r, 0, a, b, h1, h2 => by
    cases h1; cases h2; rfl
  | x :: y :: r, i + 1, a, b, h1, h2 => by
    have := pairS_get (y :: r) i a b (by simpa using h1) (by simpa using h2)
    simpa [pairS] using this
theorem pairS_rise (hr : RiseI ms) : RiseI (pairS ms) := by
  intro i x y hx hy
  have l := (List.getElem?_eq_some_iff.mp hy).1
  rw [pairS_len] at l
  obtain ⟨a, ha⟩ := geI (zs := ms) (n := i) (by omega)
  obtain ⟨b, hb⟩ := geI (zs := ms) (n := i + 1) (by omega)
  obtain ⟨c, hc⟩ := geI (zs := ms) (n := i + 1 + 1) (by omega)
  rw [pairS_get ms i a b ha hb] at hx
  rw [pairS_get ms (i + 1) b c hb hc] at hy
  cases hx; cases hy
  have := hr i a b ha hb
  have := hr (i + 1) b c hb hc
  omega
/-- how far -/
def farI (m z : Int) : Int := if m - z < 0 then -(m - z) else m - z
/-- the place of the nearest mark, of two the greater -/
theorem near_at (hr : RiseI ms) (l0 : 0 < ms.length) : ∃ (c : Nat) (mc : Int), c < ms.length ∧ (pairS ms).countP (fun m => decide (m ≤ 2 * z)) = c ∧ ms[c]? = some mc ∧ (∀ (j : Nat) (b : Int), ms[j]? = some b → farI mc z ≤ farI b z) ∧ ∀ (j : Nat) (b : Int), c < j → ms[j]? = some b → farI mc z < farI b z := by
  have le : (pairS ms).countP (fun m => decide (m ≤ 2 * z)) ≤ (pairS ms).length := List.countP_le_length
  rw [pairS_len] at le
  generalize hc : (pairS ms).countP (fun m => decide (m ≤ 2 * z)) = c at *
  obtain ⟨mc, hmc⟩ := geI (zs := ms) (n := c) (by omega)
  have key : ∀ (i : Nat) (a b : Int), ms[i]? = some a → ms[i + 1]? = some b → (a + b ≤ 2 * z ↔ i < c) := fun i a b ha hb => by
    have := cnt_rise (fun m => decide (m ≤ 2 * z)) le_down (pairS_rise hr) i (a + b) (pairS_get ms i a b ha hb)
    rw [hc] at this
    rw [← this]
    exact ⟨fun h => decide_eq_true h, fun h => of_decide_eq_true h⟩
  have upw : ∀ (n : Nat) (b : Int), ms[c + 1 + n]? = some b → farI mc z < farI b z := by
    intro n
    induction n with
    | zero =>
      intro b hb
      have k1 := key c mc b hmc hb
      have k2 := hr c mc b hmc hb
      unfold farI
      split <;> split <;> omega
    | succ n ih =>
      intro b hb
      obtain ⟨a, ha⟩ := geI (zs := ms) (n := c + 1 + n) (by have := (List.getElem?_eq_some_iff.mp hb).1; omega)
      have h1 := ih a ha
      have k1 := key (c + 1 + n) a b ha hb
      have k2 := hr (c + 1 + n) a b ha hb
      unfold farI at *
      split at h1 <;> split at h1 <;> split <;> split <;> omega
  have dnw : ∀ (n j : Nat) (b : Int), j + n = c → ms[j]? = some b → farI mc z ≤ farI b z := by
    intro n
    induction n with
    | zero =>
      intro j b hj hb
      have : j = c := by omega
      subst this
      rw [hmc] at hb
      cases hb
      exact Int.le_refl _
    | succ n ih =>
      intro j b hj hb
      obtain ⟨a, ha⟩ := geI (zs := ms) (n := j + 1) (by omega)
      have h1 := ih (j + 1) a (by omega) ha
      have k1 := (key j b a hb ha).mpr (by omega)
      have k2 := hr j b a hb ha
      unfold farI at *
      split at h1 <;> split at h1 <;> split <;> split <;> omega
  refine ⟨c, mc, by omega, rfl, hmc, fun j b hb => ?_, fun j b hj hb => upw (j - c - 1) b (by rw [show c + 1 + (j - c - 1) = j by omega]; exact hb)⟩
  by_cases hj : j ≤ c
  · exact dnw (c - j) j b (by omega) hb
  · exact Int.le_of_lt (upw (j - c - 1) b (by rw [show c + 1 + (j - c - 1) = j by omega]; exact hb))
theorem nr_some (hd : 0 < d) (hin : inO lo hi (z, d) = true) {r : Str} (h1 : ¬ r = "up") (h2 : ¬ r = "down") {c : Nat} (hl : c < ms.length) (e : (pairS ms).countP (fun m => decide (m ≤ 2 * z)) = c) : sizeQ (zq d ms) r lo hi (z, d) = some c := by
  rw [size_in hin (n := (c : Int)) (by unfold sizeR; rw [if_neg h1, if_neg h2, cq_mid hd, e]), if_pos (by omega)]
  rfl
end
theorem in_true {d z : Int} {lo hi : Option Int} (hd : 0 < d) (h1 : ∀ a, lo = some a → a ≤ z) (h2 : ∀ b, hi = some b → z ≤ b) : inO (oq d lo) (oq d hi) (z, d) = true := by
  have e1 : loOk (oq d lo) (z, d) = true := by
    cases lo with
    | none => rfl
    | some a =>
      have := h1 a rfl
      show (!ltq (z, d) (a, d)) = true
      rw [ltq_d hd, decide_eq_false (by omega)]
      rfl
  have e2 : hiOk (oq d hi) (z, d) = true := by
    cases hi with
    | none => rfl
    | some b =>
      have := h2 b rfl
      show (!ltq (b, d) (z, d)) = true
      rw [ltq_d hd, decide_eq_false (by omega)]
      rfl
  unfold inO
  rw [e1, e2]
  rfl
theorem out_lo {d z a : Int} {hi : Option Q2} (hd : 0 < d) (h : z < a) : inO (oq d (some a)) hi (z, d) = false := inO_lo (by rw [ltq_d hd]; exact decide_eq_true h)
theorem out_hi {d z b : Int} {lo : Option Q2} (hd : 0 < d) (h : b < z) : inO lo (oq d (some b)) (z, d) = false := inO_hi (by rw [ltq_d hd]; exact decide_eq_true h)
theorem rep_fm (n : Nat) : (List.replicate n (some (V.bl true))).filterMap _root_.id = (List.replicate n true).map V.bl := by
  induction n with
  | zero => rfl
  | succ n ih => rw [List.replicate_succ, List.replicate_succ]; simpa using ih
theorem rep_all (n : Nat) : (List.replicate n true).all _root_.id = true := by
  induction n with
  | zero => rfl
  | succ n ih => rw [List.replicate_succ]; simpa using ih
theorem some_fm (f : Int → Int) : ∀ ms : List Int, (ms.map fun m => some (V.int (f m))).filterMap _root_.id = (ms.map f).map V.int
  | [] => rfl
  | x :: l => by simpa using some_fm f l
/-- the numbers from 0 on of which c holds -/
def idx (n : Nat) (c : Nat → Bool) : List Int := ((List.range n).filter c).map fun k : Nat => (k : Int)
theorem idx_mem {n : Nat} {c : Nat → Bool} {m : Int} : m ∈ idx n c ↔ ∃ k : Nat, k < n ∧ c k = true ∧ m = k := by
  unfold idx
  simp only [List.mem_map, List.mem_filter, List.mem_range]
  exact ⟨fun ⟨k, ⟨h1, h2⟩, h3⟩ => ⟨k, h1, h2, h3.symm⟩, fun ⟨k, h1, h2, h3⟩ => ⟨k, ⟨h1, h2⟩, h3.symm⟩⟩
def oIdx (n : Nat) (c : Nat → Bool) : List (Option V) := (List.range n).map fun k => if c k then some (.int (k : Int)) else none
theorem oIdx_len (n : Nat) (c : Nat → Bool) : (oIdx n c).length = n := by unfold oIdx; simp
theorem oIdx_get {n i : Nat} {c : Nat → Bool} {z : Option V} (h : (oIdx n c)[i]? = some z) : z = if c i then some (.int (i : Int)) else none := by
  unfold oIdx at h
  rw [List.getElem?_map] at h
  by_cases hi : i < n
  · rw [List.getElem?_range hi] at h
    exact (Option.some.inj h).symm
  · rw [List.getElem?_eq_none (by simpa using hi)] at h
    cases h
theorem oIdx_fm (n : Nat) (c : Nat → Bool) : (oIdx n c).filterMap _root_.id = (idx n c).map V.int := by
  unfold oIdx idx
  rw [List.filterMap_map, List.map_map]
  generalize List.range n = l
  induction l with
  | nil => rfl
  | cons x l ih =>
    rw [List.filterMap_cons, List.filter_cons]
    cases e : c x
    · simpa [e] using ih
    · simpa [e] using ih
/-! ### what the laws' own defs promise -/
def sp_near : Sp := fun vs H Q _ => ∃ (h l : Addr) (n : Nat) (ms : List Int), vs = [.ref h, .ref l] ∧ HandAt H h n ∧ n < 90000 ∧ H l = some (.lst (ms.map V.int)) ∧ l ≠ h ∧ 0 < ms.length ∧ ms.length ≤ 24 ∧ (∀ m ∈ ms, -4000000 ≤ m ∧ m ≤ 4000000) ∧
  ∀ (z : Int) (H' : Hp), -4000040 ≤ z → z ≤ 4000040 → HandAt H' h (n + 3) → Kp h H H' → Q (.int z) H'
def sp_lad : Sp := fun vs H Q _ => ∃ (h : Addr) (n : Nat), vs = [.ref h] ∧ HandAt H h n ∧ n < 10000 ∧
  ∀ (p : Addr) (part : Int) (ms : List Int) (r : Str) (lo hi : Option Int) (H' : Hp), LawL H' p part ms r lo hi → HandAt H' h (n + 60) → Kp h H H' → Q (.ref p) H'
def sp_lmeas (CM : Addr) : Sp := fun vs H Q _ => ∃ (part z : Int), vs = [.int part, .int z] ∧ 0 < part ∧ part ≤ 10007 ∧ Sz 40 z ∧
  ∀ (q : Addr) (H' : Hp), Same H H' → QAt CM H' q 40 (z, 4 * part) → Q (.ref q) H'
def sp_lend (CM : Addr) : Sp := fun vs H Q _ => ∃ (part : Int) (o : Option Int), vs = [.int part, optZ o] ∧ 0 < part ∧ part ≤ 10007 ∧ (∀ z, o = some z → Sz 40 z) ∧
  ∀ (v : V) (H' : Hp), Same H H' → QO CM H' 40 v (oq (4 * part) o) → Q v H'
def sp_lmade (K : PySem.W.Frag) (CM CL : Addr) : Sp := fun vs H Q _ => ∃ (p : Addr) (part : Int) (ms : List Int) (r : Str) (lo hi : Option Int), vs = [.ref p] ∧ LawL H p part ms r lo hi ∧
  ∀ (q : Addr) (H' : Hp), Same H H' → LadAt K CM CL H' q 40 (zq (4 * part) ms) r (oq (4 * part) lo) (oq (4 * part) hi) → Q (.ref q) H'
def sp_spots : Sp := fun vs H Q _ => ∃ (p : Addr) (part : Int) (ms : List Int) (r : Str) (lo hi : Option Int), vs = [.ref p] ∧ LawL H p part ms r lo hi ∧
  ∀ (l : Addr) (ys : List Int) (H' : Hp), Same H H' → H' l = some (.lst (ys.map V.int)) → ys.length ≤ 500 → (∀ y ∈ ys, -5000000 ≤ y ∧ y ≤ 5000000) → Q (.ref l) H'
def sp_lsize : Sp := fun vs H Q _ => ∃ (p : Addr) (part : Int) (ms : List Int) (r : Str) (lo hi : Option Int) (z : Int), vs = [.ref p, .int z] ∧ LawL H p part ms r lo hi ∧ -5000000 ≤ z ∧ z ≤ 5000000 ∧
  ∀ H', Same H H' → Q (optI (sizeQ (zq (4 * part) ms) r (oq (4 * part) lo) (oq (4 * part) hi) (z, 4 * part))) H'
end My
namespace My
open PySem PySem.Spec PyProof.Rows L2
/-! ### the stretches of a ladder's sizes -/
section
variable {X : Cx} {K : PySem.W.Frag}
/-- an item of a list or a tuple -/
def rIxLT (K : PySem.W.Frag) : R2 := fun x y H Q => ∃ (p : Addr) (xs : List V) (i : Int) (v : V), x = .ref p ∧ y = .int i ∧ (SqL K H p xs ∨ SqT K H p xs) ∧ atI xs i = some v ∧ Q v H
theorem ixs (hK : X.K = K := by rfl) : IxR X (rIxLT K) := by
  subst hK
  intro value slice pins s σ H x y v u Q I rx ry h hs
  obtain ⟨p, xs, i, w, e1, e2, hq | hq, h3, h4⟩ := h
  · exact ix_list value slice pins s σ H x y v u Q I rx ry ⟨p, xs, i, w, e1, e2, hq, h3, h4⟩ hs
  · exact ix_tup value slice pins s σ H x y v u Q I rx ry ⟨p, xs, i, w, e1, e2, hq, h3, h4⟩ hs
end
def endQ (zs : List Q2) (i : Int) : Option Q2 := if 0 ≤ i ∧ i < zs.length then zs[i.toNat]? else none
/-- both ends of a size by the rule alone, and whether they are in -/
def rulE (zs : List Q2) (r : Str) (n : Nat) : (Option Q2 × Bool) × (Option Q2 × Bool) :=
  if r = "up" then ((endQ zs ((n : Int) - 1), false), (zs[n]?, true)) else if r = "down" then ((zs[n]?, true), (endQ zs ((n : Int) + 1), false)) else ((endQ (midq zs) ((n : Int) - 1), true), (endQ (midq zs) n, false))
/-- a Stretch whose ends are these fractions -/
def StQ (CM CS : Addr) (H : Hp) (p : Addr) (x y : Option Q2 × Bool) : Prop := ∃ lo hi, StAt CM CS H p lo hi (x.2 && x.1.isSome) (y.2 && y.1.isSome) ∧ ReO lo x.1 ∧ ReO hi y.1
theorem StQ.same {CM CS p : Addr} {H H' : Hp} {x y : Option Q2 × Bool} (a : StQ CM CS H p x y) (s : Same H H') : StQ CM CS H' p x y := by
  obtain ⟨lo, hi, h1, h2, h3⟩ := a
  exact ⟨lo, hi, h1.same s, h2, h3⟩
def CutQ (CM CS : Addr) (H : Hp) (v : V) (x y : Option Q2 × Bool) : Prop := ∃ x' y', CutV CM CS H v x' y' ∧ Alike x' x ∧ Alike y' y
theorem CutQ.same {CM CS : Addr} {H H' : Hp} {v : V} {x y : Option Q2 × Bool} (a : CutQ CM CS H v x y) (s : Same H H') : CutQ CM CS H' v x y := by
  obtain ⟨x', y', h1, h2, h3⟩ := a
  exact ⟨x', y', h1.same s, h2, h3⟩
/-- both ends of a size's stretch -/
def sizE (zs : List Q2) (r : Str) (lo hi : Option Q2) (n : Nat) : (Option Q2 × Bool) × (Option Q2 × Bool) :=
  (cutLo (rulE zs r n).1.1 (rulE zs r n).1.2 lo true, cutHi (rulE zs r n).2.1 (rulE zs r n).2.2 hi true)
def sp_endat (K : PySem.W.Frag) (CM : Addr) : Sp := fun vs H Q _ => ∃ (T : Addr) (k : Nat) (ps : List V) (zs : List Q2) (i : Int), vs = [.ref T, .int i] ∧ (SqL K H T ps ∨ SqT K H T ps) ∧ Mks CM H k ps zs ∧ ∀ v, QO CM H k v (endQ zs i) → Q v H
def sp_strR (K : PySem.W.Frag) (CM CS : Addr) : Sp := fun vs H Q _ => ∃ (T : Addr) (k : Nat) (ps : List V) (zs : List Q2) (r : Str) (n : Nat), vs = [.ref T, .str r, .int n] ∧ SqT K H T ps ∧ Mks CM H k ps zs ∧ 0 < k ∧ k ≤ 1000 ∧ zs.length ≤ 24 ∧ n < zs.length ∧ RiseQ zs ∧
  ∀ (p : Addr) (H' : Hp), Same H H' → StQ CM CS H' p (rulE zs r n).1 (rulE zs r n).2 → Q (.ref p) H'
def sp_hassz (K : PySem.W.Frag) (CM CL : Addr) : Sp := fun vs H Q _ => ∃ (p : Addr) (k : Nat) (zs : List Q2) (r : Str) (lo hi : Option Q2) (n : Nat), vs = [.ref p, .int n] ∧ LadAt K CM CL H p k zs r lo hi ∧ n < zs.length ∧ Q (.bl true) H
def sp_llen (K : PySem.W.Frag) (CM CL : Addr) : Sp := fun vs H Q _ => ∃ (p : Addr) (k : Nat) (zs : List Q2) (r : Str) (lo hi : Option Q2), vs = [.ref p] ∧ LadAt K CM CL H p k zs r lo hi ∧ Q (.int (zs.length : Nat)) H
def sp_stretch (K : PySem.W.Frag) (CM CL CS : Addr) : Sp := fun vs H Q _ => ∃ (p : Addr) (k : Nat) (zs : List Q2) (r : Str) (lo hi : Option Q2) (n : Nat), vs = [.ref p, .int n] ∧ LadAt K CM CL H p k zs r lo hi ∧ 0 < k ∧ k ≤ 1000 ∧ n < zs.length ∧
  ∀ (v : V) (H' : Hp), Same H H' → CutQ CM CS H' v (sizE zs r lo hi n).1 (sizE zs r lo hi n).2 → Q v H'
/-! between neighbours there is something -/
theorem some_lt {a b : Q2} {i j : Bool} (h : ltq a b = true) : someB (some a) (some b) i j = true := by
  unfold someB
  first
    | (rw [h]; rfl)
    | (simp [h])
theorem mids_lt {a b c : Q2} (ha : 0 < a.2) (hb : 0 < b.2) (hc : 0 < c.2) (h1 : ltq a b = true) (h2 : ltq b c = true) : ltq (qhalf a b) (qhalf b c) = true := by
  have e1 := (half_lo ha hb).2.1
  have e2 := (half_lo hb hc).1
  rw [h1] at e1
  rw [h2] at e2
  have p1 : 0 < (qhalf a b).2 := by rw [qhalf_eq]; exact Int.mul_pos (Int.mul_pos ha hb) (by decide)
  have p2 : 0 < (qhalf b c).2 := by rw [qhalf_eq]; exact Int.mul_pos (Int.mul_pos hb hc) (by decide)
  exact ltq_trans hb p1 p2 e1 e2
theorem stq_made {CM CS : Addr} {H : Hp} {Qa : Addr → Hp → Prop} {E : XK} {k j : Nat} {l h : V} {a b : Option Q2} {ia ib : Bool} (ql : QO CM H k l a) (qh : QO CM H j h b) (hk : k ≤ 4000) (hj : j ≤ 4000) (so : someB a b ia ib = true)
    (f : ∀ (p : Addr) (H' : Hp), Same H H' → StQ CM CS H' p (a, ia) (b, ib) → Qa p H') :
    ∀ x dx, H x = none → H dx = none → dx ≠ x → sp_sinit CM CS [.ref x, l, h, .bl ia, .bl ib] (upd (upd H dx (.own x)) x (.ins CS dx [])) (fun v H2 => v = .non ∧ Qa x H2) E := by
  intro x dx nx nd ne
  obtain ⟨lo, m1, l1, r1⟩ := ql.low hk
  obtain ⟨hi, m2, l2, r2⟩ := qh.low hj
  have s0 : Same H (upd (upd H dx (.own x)) x (.ins CS dx [])) := fun c o e => by
    rw [upd_ne (ne_of_none e nx)]
    exact up1 nd e
  refine ⟨x, dx, l, h, lo, hi, ia, ib, rfl, upd_same, m1.same s0, m2.same s0, l1, l2, by rw [someB_congr r1 r2]; exact so, fun H' hx kp => ⟨rfl, ?_⟩⟩
  have s1 : Same H H' := made_same nx nd kp
  refine f x H' s1 ⟨lo, hi, ?_, r1, r2⟩
  have z := StAt.mk' (CM := CM) hx s1 m1 m2 l1 l2
  rw [r1.isS, r2.isS] at z
  exact z
theorem some_tt {lo hi : Option Q2} (h : spanB lo hi = true) : someB lo hi true true = true := by
  cases lo with
  | none => cases hi <;> rfl
  | some a =>
    cases hi with
    | none => rfl
    | some b =>
      have h' : ltq b a = false := by simpa [spanB] using h
      have t := lt_tri a b
      rw [h'] at t
      unfold someB
      rcases t with ⟨t1, t2, _⟩ | ⟨t1, t2, _⟩ | ⟨_, _, t3⟩
      · simp [t1, t2]
      · simp [t1, t2]
      · cases t3
/-- the fractions' bottoms are above nought -/
def PosL (zs : List Q2) : Prop := ∀ z ∈ zs, 0 < z.2
theorem Mks.posL {C : Addr} {H : Hp} {k : Nat} {ps : List V} {zs : List Q2} (m : Mks C H k ps zs) : PosL zs := fun z hz => by
  obtain ⟨i, hi⟩ := List.mem_iff_getElem?.mp hz
  obtain ⟨p, _, q⟩ := m.at hi
  exact q.pos
theorem endQ_in {zs : List Q2} {i : Int} {n : Nat} (e : i = (n : Int)) : endQ zs i = zs[n]? := by
  subst e
  unfold endQ
  by_cases h : n < zs.length
  · rw [if_pos (by omega)]; rfl
  · rw [if_neg (by omega)]
    exact (List.getElem?_eq_none (by omega)).symm
theorem endQ_none {zs : List Q2} {i : Int} (h : i < 0) : endQ zs i = none := by
  unfold endQ
  rw [if_neg (by omega)]
theorem some_up {zs : List Q2} {n : Nat} (hr : RiseQ zs) {i j : Bool} : someB (endQ zs ((n : Int) - 1)) zs[n]? i j = true := by
  cases n with
  | zero => rw [endQ_none (by omega)]; rfl
  | succ n =>
    rw [endQ_in (n := n) (by omega)]
    cases e1 : zs[n]? with
    | none => rfl
    | some a =>
      cases e2 : zs[n + 1]? with
      | none => rfl
      | some b => exact some_lt (hr n a b e1 e2)
theorem some_dn {zs : List Q2} {n : Nat} (hr : RiseQ zs) {i j : Bool} : someB zs[n]? (endQ zs ((n : Int) + 1)) i j = true := by
  rw [endQ_in (n := n + 1) (by omega)]
  cases e1 : zs[n]? with
  | none => rfl
  | some a =>
    cases e2 : zs[n + 1]? with
    | none => rfl
    | some b => exact some_lt (hr n a b e1 e2)
theorem midq_rise {zs : List Q2} (hr : RiseQ zs) (hp : PosL zs) : RiseQ (midq zs) := by
  intro i x y hx hy
  have l := (List.getElem?_eq_some_iff.mp hy).1
  rw [midq_len] at l
  obtain ⟨a, ha⟩ := ge2 (zs := zs) (n := i) (by omega)
  obtain ⟨b, hb⟩ := ge2 (zs := zs) (n := i + 1) (by omega)
  obtain ⟨c, hc⟩ := ge2 (zs := zs) (n := i + 1 + 1) (by omega)
  rw [midq_get zs i a b ha hb] at hx
  rw [midq_get zs (i + 1) b c hb hc] at hy
  cases hx; cases hy
  exact mids_lt (hp a (List.mem_of_getElem? ha)) (hp b (List.mem_of_getElem? hb)) (hp c (List.mem_of_getElem? hc)) (hr i a b ha hb) (hr (i + 1) b c hb hc)
theorem some_nr {zs : List Q2} {n : Nat} (hr : RiseQ zs) {i j : Bool} : someB (endQ zs ((n : Int) - 1)) (endQ zs (n : Int)) i j = true := by
  rw [endQ_in (n := n) rfl]
  exact some_up hr
end My
namespace My
open PySem PySem.Spec PyProof.Rows L2
/-! ### defs that are called where no text of a list or tuple is under way -/
structure FnG (P : Program) (w : World) (K : PySem.W.Frag) (mg : Str → Option Value) (base : Heap) (CX : CXT) (k : Nat) (f : Addr) (fd : FuncData) (ps : List Str) (sp : Sp) : Prop where
  lenG : ∀ vs H Q E, sp vs H Q E → vs.length = ps.length
  runG : ∀ (A : Around) (outer : List Env) (s : Shared) (H : Hp) (args : Args) (us : List Value) (vs : List V) (Q : VK) (E : XK), Room k A → A.guards = some [] → Env0 P w K mg base A outer s H → BindsTo s fd args (ps.zip us) → Vals vs us → sp vs H Q E →
    codeAny (model P w) A (.call (.ref f) args) (CR CX outer P w H s Q E) s
section
variable {P : Program} {w : World} {K : PySem.W.Frag} {mg : Str → Option Value} {base : Heap} {x qual : Str} {params : Arguments} {body : List Stmt} {scope : Scope} {dvs : List V} {kws : List (Str × V)} {f : Addr} {fd : FuncData}
theorem okG {CX : CXT} {N ps : List Str} {k : Nat} {sp : Sp} (F : FunD K x qual params body scope dvs kws f fd) (S : FnScope N ps scope) (hlen : ∀ vs H Q E, sp vs H Q E → vs.length = ps.length)
    (hbody : ∀ (cdv : Value) (A : Around) (outer : List Env) (s : Shared) (H : Hp) (vs : List V) (Q : VK) (E : XK), Room k (A.deeper (envOfC qual scope s.heap.objs.size f cdv)) → A.guards = some [] → sp vs H Q E →
      ∃ t, PSs (cxOf CX P w K mg base N qual scope f cdv A outer s H E) body t ∧ t { nx := fun _ H' => Q .non H', rt := Q } (start N vs) H) : FnG P w K mg base CX (k + 1) f fd ps sp := by
  obtain ⟨oc, od, dV, kV, doc, pm, an, cdv, ct, osl, rfl, lk, hcd, _, _⟩ := F.ex
  refine ⟨hlen, fun A outer s H args us vs Q E room gd en bd rl hs => ?_⟩
  have lv := hlen _ _ _ _ hs
  have kin : K.In s.heap := en.mod.kin.keeps fun b o q => (en.bs b o q).1
  have noL : s.heap.NoLimit := en.mod.nolimit.keeps fun b o q => (en.bs b o q).1
  have kinds : ∀ y ∈ ps.zip us, scope.names.lookup y.1 = some .local ∨ (scope.names.lookup y.1 = some .cell ∧ ((cellsFrom (s.heap.objs.size + 1) scope.names []).lookup y.1).isSome = true) := fun ⟨n, v⟩ hy => by
    rcases S.par n (List.of_mem_zip hy).1 with q | q
    · exact .inl q
    · exact .inr ⟨q, PySem.W.cellsFrom_some _ _ _ (.inl q)⟩
  refine codeAny_call_function room.depth (kin _ _ lk) rfl S.co S.gen rfl (PySem.W.codeRec_of kin hcd) (bd _ _ _ _ ?_)
  refine wpAny_newFunctionEnv_cells S.kind kinds fun env ee s1 ic => ?_
  subst ee
  refine ⟨noL.keeps ic.toInCall.keep, codeAny_func ?_⟩
  obtain ⟨t, ht, hq⟩ := hbody cdv A outer s H vs Q E (room.deeper _) gd hs
  have J0 : Inv (cxOf CX P w K mg base N qual scope f cdv A outer s H E) [] (start N vs) H s1 := inv_start S room.hd en lv rl ic
  refine wpAny_mono (ht.run [] s1 (start N vs) H _ J0 hq) (fun fl s' hz => ?_) fun e s' hz => hz
  cases fl with
  | ret u =>
    obtain ⟨v, σ', H', J, rv, q⟩ := hz
    exact ⟨v, H', J.os, J.bare, J.base, J.hok, rv, q⟩
  | next =>
    obtain ⟨σ', H', J, q⟩ := hz
    exact ⟨V.non, H', J.os, J.bare, J.base, J.hok, rfl, q⟩
  | brk =>
    obtain ⟨_, _, _, q⟩ := hz
    exact False.elim q
  | cont =>
    obtain ⟨_, _, _, q⟩ := hz
    exact False.elim q
end
section
variable {X : Cx} {CX : CXT} {k : Nat} {f : Addr} {fd : FuncData} {ps : List Str} {sp : Sp} {dvs : List V} {ds : List Value} {E : XK} {x : Str} {p pos : Pos} {e : Expr} {es : List Expr} {t : TA}
theorem pe_callG (F : FnG X.prog X.w X.K X.mg X.base CX k f fd ps sp) (gd : X.A.guards = some []) (hr : Room k X.A) (hg : Gl X x) (hm : X.mg x = some (.ref f)) (hk : PySem.W.keepIn X.K (.ref f) = true) (hb : Binds X.K fd ps ds) (hd : Vals dvs ds) (hx : Passes CX X E)
    (ha : PA X (e :: es) t) (hdb : (x == ("__debug__" : Str)) = false := by decide) (he : starEach (e :: es) X.env = (false, eval e X.env) :: starEach es X.env := by rfl) (hpl : (backTo pos (starEach es X.env)).any (·.1) = false := by rfl) :
    PE X (.Call (.Name x p) (e :: es) [] pos) (tCall sp dvs E t) := by
  refine ⟨fun pins s σ H Q I hw => ?_⟩
  refine wpAny_Call_Name_kw (ld_glob I hg hm ?_ hdb)
  refine PySem.W.callWith_K (h₀ := X.base) I.ok.mod.kin hk (thn (ha.run pos pins s σ H _ I hw) fun us s1 ⟨vs, H1, I1, rl, q⟩ => ⟨I1.kIn, ?_⟩) he hpl
  have r2 : Vals (vs ++ dvs) (us ++ ds) := rl.append hd
  have hl : (us ++ ds).length = ps.length := by rw [← r2.length]; exact F.lenG _ _ _ _ q
  refine wpAny_call (codeAny_mono (F.runG X.A X.stack s1 H1 ⟨us, []⟩ (us ++ ds) (vs ++ dvs) Q E hr gd I1.env0 (hb s1 us I1.kIn hl) r2 q) fun rr s' hq => ?_)
  cases rr with
  | error e => exact hx pins σ H1 s1 e s' I1 hq
  | ok fl =>
    cases fl with
    | ret u => exact I1.after hq
    | next => exact False.elim hq
    | brk => exact False.elim hq
    | cont => exact False.elim hq
/-- repr of data -/
theorem call_reprD {n : Nat} (gd : X.A.guards = some []) (hr : Room n X.A) : CallR X (.builtin "repr") (fun xs H Q => ∃ x d, xs = [x] ∧ Dp X.K H x d ∧ d.showable = true ∧ d.hasDict = false ∧ d.depth ≤ 60 ∧ d.shown.length ≤ sizeLine ∧ Q (.str d.shown) H) := by
  intro pins s σ H xs us Q I r h
  obtain ⟨x, d, rfl, hd, hs, hn, hp, hz, q⟩ := h
  obtain ⟨u, rfl, rx⟩ := vals1 r
  obtain ⟨as, rd⟩ := Dp.reads I d x u hd rx
  have hu := hr.un
  cases hd with
  | non =>
    cases (show u = Value.none from rx)
    exact PySem.P.repr_of_none ⟨.str _, H, I.tok _, ⟨_, rfl⟩, q⟩
  | bl b =>
    cases (show u = Value.bool b from rx)
    exact PySem.P.repr_of_bool ⟨.str _, H, I.tok _, ⟨_, rfl⟩, q⟩
  | int i =>
    obtain ⟨t, rfl⟩ := rx
    have hi : i.natAbs.log2 < 1920 := by simpa [PyData.showable] using hs
    simp only [PyData.shown] at q
    exact PySem.P.repr_of_int hi ⟨.str _, H, I.tok _, ⟨_, rfl⟩, q⟩
  | str z =>
    obtain ⟨t, rfl⟩ := rx
    exact PySem.P.repr_of_str ⟨.str _, H, I.tok _, ⟨_, rfl⟩, q⟩ hz
  | lst hq ha =>
    cases (show u = Value.ref _ from rx)
    exact repr_of_reads' rd hs (fun e => by rw [hn] at e; cases e) gd (by omega) (fun _ _ e => e) (fun h' t tk hk => ⟨.str _, H, I.kept hk, ⟨t, rfl⟩, q⟩) hz
  | tup hq ha =>
    cases (show u = Value.ref _ from rx)
    exact repr_of_reads' rd hs (fun e => by rw [hn] at e; cases e) gd (by omega) (fun _ _ e => e) (fun h' t tk hk => ⟨.str _, H, I.kept hk, ⟨t, rfl⟩, q⟩) hz
end
/-! ### the law is called where none is under way -/
theorem law_G {P : Program} {w : World} {K : PySem.W.Frag} {mg mb : Str → Option Value} {CX : CXT} {k : Nat} {fa a : Addr} {fd : FuncData} {x : Str} {sp : Sp} {s1 : Shared} {vs : List Value} {ns : List Int}
    (kin : K.In s1.heap) (hns : s1.heap.Ns mainGlobals mg) (hb : s1.heap.Ns builtinsNs mb) (hbb : ∀ y : Str, y ≠ "__name__" → mb y = bootBuiltins y) (hlim : s1.heap.NoLimit) (hgen : s1.gens = #[])
    (ha : s1.heap.get? a = some { cls := .type "list", data := .seq vs.toArray }) (hi : IntsAre vs ns) (hl : ns.length ≤ sizeLine) (hr : Room k callerA)
    (F : ∀ base : Heap, K.In base → base.Ns mainGlobals mg → FnG P w K mg base CX k fa fd [x] sp) (hbind : ∀ (s : Shared) (u : Value), BindsTo s fd ⟨[u], []⟩ [(x, u)])
    (hsp : ∀ H : Hp, Only H → SqL K H a (ns.map V.int) → sp [.ref a] H (fun v _ => v = .bl true) fun _ _ _ => False)
    (hCX : ∀ H e s', CX [] H s1 (fun _ _ _ => False) e s' → False) :
    codeAny (model P w) callerA (.call (.ref fa) ⟨[.ref a], []⟩) (fun r s' => r = .ok (.ret (.bool true)) ∧ OldK s1.heap s'.heap ∧ s'.os = s1.os ∧ AllBare s'.gens) s1 := by
  have rv := vals_ints hi
  have lenV := hi.length
  have core : ∀ H : Hp, Only H → SqL K H a (ns.map V.int) → HOk P w H s1.heap → (∀ b, H b ≠ none → b = a) → (H a ≠ none → K.lookup a = none) →
      codeAny (model P w) callerA (.call (.ref fa) ⟨[.ref a], []⟩) (fun r s' => r = .ok (.ret (.bool true)) ∧ OldK s1.heap s'.heap ∧ s'.os = s1.os ∧ AllBare s'.gens) s1 := by
    intro H only seq hok one free
    have inB : ∀ {b : Addr} {o : Obj}, s1.heap.get? b = some o → H b = none → (hidT s1.heap H).get? b = some o := fun q n => hidT_get q n
    have apart : ∀ {b : Addr} {o : Obj} {es : Array DictEntry} {ep : Nat}, s1.heap.get? b = some o → o.data = .dict es ep → H b = none := fun {b o es ep} q dd => by
      cases z : H b with
      | none => rfl
      | some u =>
        have eb : b = a := one b (by rw [z]; simp)
        subst eb
        rw [ha] at q; cases q
        have d' : Data.seq vs.toArray _ = Data.dict es ep := dd
        cases d'
    have nsB : ∀ {b : Addr} {m : Str → Option Value}, s1.heap.Ns b m → (hidT s1.heap H).Ns b m := fun {b m} ⟨o, es, ep, q, dd, r⟩ => ⟨o, es, ep, inB q (apart q dd), dd, r⟩
    have kinB : K.In (hidT s1.heap H) := fun b o q => inB (kin b o q) (by
      cases z : H b with
      | none => rfl
      | some u =>
        have eb : b = a := one b (by rw [z]; simp)
        subst eb
        rw [free (by rw [z]; simp)] at q; cases q)
    have md : Mod K mg (hidT s1.heap H) := ⟨kinB, nsB hns, ⟨mb, nsB hb, hbb⟩, let ⟨mc, h1, h2⟩ := hlim; ⟨mc, nsB h1, h2⟩⟩
    have en : Env0 P w K mg (hidT s1.heap H) callerA [] s1 H := ⟨rfl, md, fun b o q => of_hidT q, Nat.le_of_eq (hidT_size _ _), trivial, fun b hb => absurd (show b ∈ ([] : List Addr) from hb) (by simp), hok, .of_eq hgen⟩
    refine codeAny_mono ((F _ kinB (nsB hns)).runG callerA [] s1 H ⟨[.ref a], []⟩ [.ref a] [.ref a] _ _ hr rfl en (hbind s1 (.ref a)) (.cons rfl .nil) (hsp H only seq)) fun r s' h => ?_
    cases r with
    | error e => exact (hCX H e s' h).elim
    | ok fl =>
      cases fl with
      | next => exact False.elim h
      | brk => exact False.elim h
      | cont => exact False.elim h
      | ret u =>
        obtain ⟨v, H', os, bare, un, hok', r', q⟩ := h
        cases (show v = .bl true from q)
        cases (show u = Value.bool true from r')
        refine ⟨rfl, OldK.of_keep fun b o eo => ?_, os, bare⟩
        cases z : H b with
        | none => exact un.keep b o eo z (fun y => absurd (show b ∈ ([] : List Addr) from y) (by simp)) (by simp)
        | some u =>
          rcases only b with y | ⟨ob, xs, y⟩
          · rw [z] at y; cases y
          · obtain ⟨e1, _⟩ := hok b _ y
            obtain ⟨e2, _⟩ := hok' b _ (un.frzs b ob _ y)
            rw [eo] at e1; cases e1
            exact e2
  cases hk : K.lookup a with
  | some o =>
    have eo := kin a o hk
    rw [ha] at eo
    cases eo
    exact core (fun _ => none) (fun _ => .inl rfl) (.inr ⟨_, vs.toArray, _, hk, rfl, rfl, rfl, by rw [List.size_toArray, lenV]; exact hl, by simpa using rv⟩) (fun b u z => nomatch (show (none : Option HO) = some u from z)) (fun b z => absurd rfl z) fun z => absurd rfl z
  | none =>
    refine core (fun b => if b = a then some (.frz { cls := .type "list", data := .seq vs.toArray } (.lst (ns.map V.int))) else none) (fun b => ?_) (.inl (.inr ⟨{ cls := .type "list", data := .seq vs.toArray }, if_pos rfl⟩)) (fun b u z => ?_) (fun b z => ?_) fun _ => hk
    · by_cases eb : b = a
      · exact .inr ⟨_, _, if_pos eb⟩
      · exact .inl (if_neg eb)
    · by_cases eb : b = a
      · have y := (if_pos eb).symm.trans z
        cases y
        subst eb
        exact ⟨ha, by rw [List.length_map]; exact hl, vs, _, rv, ha⟩
      · have y := (if_neg eb).symm.trans z
        cases y
    · by_cases eb : b = a
      · exact eb
      · exact absurd (if_neg eb) z
theorem walk_G {l : PySem.W.OpenLaw} {n k : Nat} {q : Program} {loose : List Str} {XP : (Str → Option Value) → Heap → Prop} {YP : World → Heap → Prop} {d : DefRec} {CX : CXT} {x : Str}
    (hn : l.most = some n) (hn2 : n ≤ sizeLine) (hdf : d.params.defaults = []) (hr : Room k callerA)
    (F : ∀ (w : World) (mg : Str → Option Value) (fa : Addr) (h : Heap), YP w h → h.Ns mainGlobals mg → mg d.name = some (.ref fa) →
      ∃ (K : PySem.W.Frag) (fd : FuncData) (sp : Sp), K.In h ∧ (∀ (s : Shared) (u : Value), BindsTo s fd ⟨[u], []⟩ [(x, u)]) ∧
        (∀ (H : Hp) (a : Addr) (ns : List Int), ns.length ≤ n → Only H → SqL K H a (ns.map V.int) → sp [.ref a] H (fun v _ => v = .bl true) fun _ _ _ => False) ∧
        ∀ base : Heap, K.In base → base.Ns mainGlobals mg → FnG l.prog w K mg base CX k fa fd [x] sp)
    (hCX : ∀ (H : Hp) (s : Shared) (e : Value) (s' : Shared), CX [] H s (fun _ _ _ => False) e s' → False) :
    PySem.W.WalkO q loose XP YP l.row.toRowW d [] (fun f vs => PySem.call f vs) := by
  refine Att.attach_call hn hdf fun w s₀ s1 mg mb fa o pm cd doc a vs ns G Y ho hd hcd hmg hobj hints hlen hgen => ?_
  obtain ⟨K, fd, sp, KX, hb, hsp, hF⟩ := F w mg fa _ Y G.T.g hmg
  exact law_G KX G.T.g G.T.b G.T.builtins G.T.nolimit hgen hobj hints (Nat.le_trans hlen hn2) hr hF hb (fun H hO hS => hsp H a ns hlen hO hS) fun H e s' => hCX H s1 e s'
end My
namespace My
open PySem PySem.Spec PyProof.Rows L2
/-! ### tuples: sums and slices, whatever their lengths -/
section
variable {X : Cx} {K : PySem.W.Frag}
def rCatU (K : PySem.W.Frag) : R2 := fun x y H Q => ∃ (a b : Addr) (xs ys : List V), x = .ref a ∧ y = .ref b ∧ SqT K H a xs ∧ SqT K H b ys ∧ xs.length + ys.length ≤ sizeLine ∧ ∀ (p : Addr) (H' : Hp), Same H H' → SqT K H' p (xs ++ ys) → Q (.ref p) H'
theorem catU (hK : X.K = K := by rfl) : OpR X (binaryOp .Add) (rCatU K) := by
  subst hK
  intro pins s σ H x y v u Q I rx ry h
  obtain ⟨a, b, xs, ys, e1, e2, ha, hb, hz, q⟩ := h
  refine op_catA pins s σ H x y v u Q I rx ry ⟨a, b, xs, ys, e1, e2, ha, hb, hz, fun e => q b H (Same.refl _) ?_, fun _ e => q a H (Same.refl _) ?_, fun _ _ p np => q p _ (same1 np) (SqT.of upd_same)⟩
  · rw [e]; exact hb
  · rw [e, List.append_nil]; exact ha
def rSlU (K : PySem.W.Frag) : V → Option Int → Option Int → Hp → VK → Prop := fun x lo hi H Q => ∃ (a : Addr) (xs : List V), x = .ref a ∧ SqT K H a xs ∧ ∀ (p : Addr) (H' : Hp), Same H H' → SqT K H' p (cutV xs lo hi) → Q (.ref p) H'
theorem slU (hK : X.K = K := by rfl) : SlR X (rSlU K) := by
  subst hK
  intro pins s σ H x v vl vu lo hi sl Q I rx hs pl pu h
  obtain ⟨a, xs, e1, hx, q⟩ := h
  refine sl_tupA pins s σ H x v vl vu lo hi sl Q I rx hs pl pu ⟨a, xs, e1, hx, fun e => q a H (Same.refl _) ?_, fun _ p np => q p _ (same1 np) (SqT.of upd_same)⟩
  have e2 : cutV xs lo hi = xs := by
    unfold cutV
    rw [e.1, e.2, List.drop_zero, Nat.sub_zero, List.take_length]
  rw [e2]
  exact hx
end
theorem cutV_take (xs : List V) {i : Int} {n : Nat} (e : i = (n : Int)) : cutV xs none (some i) = xs.take n := by
  subst e
  unfold cutV
  rw [HT.sIx_none, HT.sIx_nat, List.drop_zero, Nat.sub_zero]
  by_cases h : n ≤ xs.length
  · rw [Nat.min_eq_left h]
  · rw [Nat.min_eq_right (by omega), List.take_length, List.take_of_length_le (by omega)]
theorem cutV_drop (xs : List V) {i : Int} {n : Nat} (e : i = (n : Int)) : cutV xs (some i) none = xs.drop n := by
  subst e
  unfold cutV
  rw [HT.sIx_none, HT.sIx_nat]
  by_cases h : n ≤ xs.length
  · rw [Nat.min_eq_left h, List.take_of_length_le (by rw [List.length_drop]; omega)]
  · rw [Nat.min_eq_right (by omega), Nat.sub_self, List.take_zero, List.drop_eq_nil_of_le (by omega)]
theorem Mks.cut {C : Addr} {H : Hp} {k : Nat} {ps : List V} {zs : List Q2} (m : Mks C H k ps zs) (n : Nat) : Mks C H k (ps.take n ++ ps.drop (n + 1)) (zs.take n ++ zs.drop (n + 1)) := by
  have l := m.len
  refine ⟨by simp only [List.length_append, List.length_take, List.length_drop]; omega, fun i v z h1 h2 => ?_⟩
  by_cases hi : i < n ∧ i < ps.length
  · rw [List.getElem?_append_left (by rw [List.length_take]; omega), List.getElem?_take_of_lt hi.1] at h1
    rw [List.getElem?_append_left (by rw [List.length_take]; omega), List.getElem?_take_of_lt hi.1] at h2
    exact m.all i v z h1 h2
  · rw [List.getElem?_append_right (by rw [List.length_take]; omega), List.getElem?_drop] at h1
    rw [List.getElem?_append_right (by rw [List.length_take]; omega), List.getElem?_drop] at h2
    have e : (ps.take n).length = (zs.take n).length := by rw [List.length_take, List.length_take, l]
    rw [e] at h1
    exact m.all _ v z h1 h2
/-! ### rows, as the laws draw them -/
structure RowsL (H : Hp) (p : Addr) (part : Int) (ts : List Int) : Prop where
  ob : ∃ T, H p = some (.tup [.int part, .ref T]) ∧ H T = some (.tup (ts.map V.int))
  p0 : 0 < part
  p1 : part ≤ 10007
  len0 : 0 < ts.length
  len1 : ts.length ≤ 24
  bnd : ∀ t ∈ ts, -2000000 ≤ t ∧ t ≤ 2000000
theorem RowsL.same {H H' : Hp} {p : Addr} {part : Int} {ts : List Int} (a : RowsL H p part ts) (s : Same H H') : RowsL H' p part ts := by
  obtain ⟨⟨T, h1, h2⟩, a1, a2, a3, a4, a5⟩ := a
  exact ⟨⟨T, s _ _ h1, s _ _ h2⟩, a1, a2, a3, a4, a5⟩
/-- the rows while they are drawn -/
def RowSt (h l : Addr) (many n : Nat) (H H' : Hp) : Prop := ∃ ts : List Int, H' l = some (.lst (ts.map V.int)) ∧ ts.length = many ∧ HandAt H' h n ∧ Kp h H H' ∧ ∀ t ∈ ts, -1500000 ≤ t ∧ t ≤ 1500000
def RowSt2 (h l : Addr) (many n : Nat) (H H' : Hp) : Prop := ∃ ts : List Int, H' l = some (.lst (ts.map V.int)) ∧ ts.length = many ∧ HandAt H' h n ∧ Kp h H H' ∧ ∀ t ∈ ts, -2000000 ≤ t ∧ t ≤ 2000000
theorem six_nat {n i : Nat} (h : i < n) : seqIndex? (i : Int) n = some i := by
  have h1 : ¬ ((i : Int) < 0) := by omega
  have h2 : (0 : Int) ≤ (i : Int) := by omega
  have h3 : (i : Int) < (n : Int) := by omega
  simp [seqIndex?, h1, h2, h3]
theorem er_map (ts : List Int) : ∀ i, (ts.map V.int).eraseIdx i = (ts.eraseIdx i).map V.int := by
  induction ts with
  | nil => intro i; rfl
  | cons a r ih =>
    intro i
    cases i with
    | zero => rfl
    | succ i => show V.int a :: (r.map V.int).eraseIdx i = _; rw [ih]; rfl
theorem mem_set2 {ts : List Int} {i : Nat} {x : Int} {P : Int → Prop} (h : ∀ t ∈ ts, P t) (hx : P x) : ∀ t ∈ ts.set i x, P t := fun t ht => by
  rcases List.mem_or_eq_of_mem_set ht with e | e
  · exact h t e
  · rw [e]; exact hx
theorem map_set (ts : List Int) (i : Nat) (x : Int) : (ts.map V.int).set i (.int x) = (ts.set i x).map V.int := by rw [List.map_set]
theorem ixN_nat {n i : Nat} (h : i < n) : ixN n (i : Int) = some i := by
  unfold ixN
  rw [if_pos (by omega), if_pos (by omega)]
  rfl
def sp_rows : Sp := fun vs H Q _ => ∃ (h : Addr) (n : Nat), vs = [.ref h] ∧ HandAt H h n ∧ n < 10000 ∧
  ∀ (p : Addr) (part : Int) (ts : List Int) (H' : Hp), RowsL H' p part ts → HandAt H' h (n + 120) → Kp h H H' → Q (.ref p) H'
def sp_rmade (CM : Addr) : Sp := fun vs H Q _ => ∃ (p : Addr) (part : Int) (ts : List Int), vs = [.ref p] ∧ RowsL H p part ts ∧
  ∀ (T : Addr) (ps : List V) (H' : Hp), Same H H' → H' T = some (.tup ps) → Mks CM H' 40 ps (zq part ts) → Q (.ref T) H'
def riseB : List Q2 → Bool
  | a :: b :: r => ltq a b && riseB (b :: r)
  | _ => true
def riseZ : List Int → Bool
  | a :: b :: r => decide (a < b) && riseZ (b :: r)
  | _ => true
theorem riseB_iff : ∀ {zs : List Q2}, riseB zs = true ↔ RiseQ zs
  | [] => ⟨fun _ i a b h => by simp at h, fun _ => rfl⟩
  | [_] => ⟨fun _ i a b _ h => by simp at h, fun _ => rfl⟩
  | x :: y :: r => by
    have ih := riseB_iff (zs := y :: r)
    constructor
    · intro h
      have h' : (ltq x y && riseB (y :: r)) = true := h
      rw [Bool.and_eq_true] at h'
      intro i a b ha hb
      cases i with
      | zero => cases ha; cases hb; exact h'.1
      | succ i => exact ih.mp h'.2 i a b (by simpa using ha) (by simpa using hb)
    · intro h
      show (ltq x y && riseB (y :: r)) = true
      rw [Bool.and_eq_true]
      exact ⟨h 0 x y rfl rfl, ih.mpr fun i a b ha hb => h (i + 1) a b (by simpa using ha) (by simpa using hb)⟩
theorem riseZ_zq {d : Int} (hd : 0 < d) : ∀ ts : List Int, riseB (zq d ts) = riseZ ts
  | [] => rfl
  | [_] => rfl
  | x :: y :: r => by
    have ih := riseZ_zq hd (y :: r)
    show (ltq (x, d) (y, d) && riseB (zq d (y :: r))) = (decide (x < y) && riseZ (y :: r))
    rw [ltq_d hd, ih]
theorem slip_none {zs : List Q2} {o : Option Nat} (h : SlipQ zs o) : decide (optI o = V.non) = riseB zs := by
  cases o with
  | none => rw [riseB_iff.mpr h]; rfl
  | some n =>
    obtain ⟨n1, n2, n3, _⟩ := h
    have e : riseB zs = false := by
      cases z : riseB zs with
      | false => rfl
      | true =>
        have q := riseB_iff.mp z
        obtain ⟨a, ha⟩ := ge2 (zs := zs) (n := n - 1) (by omega)
        obtain ⟨b, hb⟩ := ge2 (zs := zs) (n := n) n2
        have := q (n - 1) a b ha (by rw [Nat.sub_add_cancel n1]; exact hb)
        rw [n3 a b ha hb] at this
        cases this
    rw [e]
    rfl
def nbrs : List Int → List Bool
  | a :: b :: r => decide (a < b) :: nbrs (b :: r)
  | _ => []
theorem nbrs_len : ∀ ts : List Int, (nbrs ts).length = ts.length - 1
  | [] => rfl
  | [_] => rfl
  | a :: b :: r => by
    show (nbrs (b :: r)).length + 1 = _
    rw [nbrs_len (b :: r)]
    simp
theorem nbrs_get : ∀ {ts : List Int} {i : Nat} {a b : Int}, ts[i]? = some a → ts[i + 1]? = some b → (nbrs ts)[i]? = some (decide (a < b))
  | [], _, _, _, h, _ => by simp at h
  | [_], _, _, _, _, h => by simp at h
  | x :: y :: r, 0, a, b, h1, h2 => by
    cases h1; cases h2; rfl
  | x :: y :: r, i + 1, a, b, h1, h2 => by
    have := nbrs_get (ts := y :: r) (i := i) (a := a) (b := b) (by simpa using h1) (by simpa using h2)
    simpa [nbrs] using this
theorem nbrs_all : ∀ ts : List Int, (nbrs ts).all _root_.id = riseZ ts
  | [] => rfl
  | [_] => rfl
  | a :: b :: r => by
    show (decide (a < b) && (nbrs (b :: r)).all _root_.id) = (decide (a < b) && riseZ (b :: r))
    rw [nbrs_all (b :: r)]
theorem bl_fm : ∀ bs : List Bool, (bs.map fun b => some (V.bl b)).filterMap _root_.id = bs.map V.bl
  | [] => rfl
  | x :: l => by simpa using bl_fm l
def sp_without (K : PySem.W.Frag) (CM : Addr) : Sp := fun vs H Q _ => ∃ (T : Addr) (k : Nat) (ps : List V) (zs : List Q2) (n : Nat), vs = [.ref T, .int n] ∧ SqT K H T ps ∧ Mks CM H k ps zs ∧ k ≤ 9000 ∧ zs.length ≤ 24 ∧ n < zs.length ∧ ∀ H', Same H H' → Q (.bl (riseB (zs.take n ++ zs.drop (n + 1)))) H'
def sp_singles (K : PySem.W.Frag) (CM : Addr) : Sp := fun vs H Q _ => ∃ (T : Addr) (k : Nat) (ps : List V) (zs : List Q2), vs = [.ref T] ∧ SqT K H T ps ∧ Mks CM H k ps zs ∧ k ≤ 9000 ∧ zs.length ≤ 24 ∧
  ∀ (p : Addr) (H' : Hp), Same H H' → H' p = some (.tup ((idx zs.length fun n => riseB (zs.take n ++ zs.drop (n + 1))).map V.int)) → Q (.ref p) H'
def sp_riseZ (K : PySem.W.Frag) : Sp := fun vs H Q _ => ∃ (T : Addr) (ts : List Int), vs = [.ref T] ∧ SqT K H T (ts.map V.int) ∧ ts.length ≤ 24 ∧ ∀ H', Same H H' → Q (.bl (riseZ ts)) H'
/-! ### tuples of whole numbers as data -/
def intsD (zs : List Int) : PyData := .tuple (zs.map PyData.int)
theorem dpI {K : PySem.W.Frag} {H : Hp} : ∀ zs : List Int, DpAll K H (zs.map V.int) (zs.map PyData.int)
  | [] => .nil
  | z :: zs => .cons (.int z) (dpI zs)
theorem dpT {K : PySem.W.Frag} {H : Hp} {p : Addr} {zs : List Int} (h : H p = some (.tup (zs.map V.int))) : Dp K H (.ref p) (intsD zs) := .tup (SqT.of h) (dpI zs)
theorem shI : ∀ zs : List Int, (∀ z ∈ zs, z.natAbs < 2 ^ 60) → PyData.showableAll (zs.map PyData.int) = true
  | [], _ => rfl
  | z :: zs, h => by
    have h1 := h z List.mem_cons_self
    have h2 := shI zs fun y hy => h y (List.mem_cons_of_mem _ hy)
    have h3 : z.natAbs.log2 < 1920 := by
      by_cases e : z.natAbs = 0
      · rw [e]; decide
      · exact Nat.lt_of_lt_of_le ((Nat.log2_lt e).mpr h1) (by decide)
    show (decide (z.natAbs.log2 < 1920) && PyData.showableAll (zs.map PyData.int)) = true
    rw [h2, Bool.and_true]
    exact decide_eq_true h3
theorem ndI : ∀ zs : List Int, PyData.hasDictAll (zs.map PyData.int) = false
  | [] => rfl
  | z :: zs => by
    show (false || PyData.hasDictAll (zs.map PyData.int)) = false
    rw [ndI zs]; rfl
theorem deI : ∀ zs : List Int, PyData.depthAll (zs.map PyData.int) = 0
  | [] => rfl
  | z :: zs => by
    show max 0 (PyData.depthAll (zs.map PyData.int)) = 0
    rw [deI zs]; rfl
theorem plI : ∀ zs : List Int, (∀ z ∈ zs, z.natAbs < 2 ^ 60) → piled (PyData.shownAll (zs.map PyData.int)) ≤ 100 * zs.length
  | [], _ => Nat.le_refl _
  | z :: zs, h => by
    have h1 := h z List.mem_cons_self
    have h2 := plI zs fun y hy => h y (List.mem_cons_of_mem _ hy)
    have h3 : z.natAbs.log2 < 60 := by
      by_cases e : z.natAbs = 0
      · rw [e]; decide
      · exact (Nat.log2_lt e).mpr h1
    have h4 := int_text_length_le (a := z) (k := 60) (by decide) h3
    have h5 : (Str.ofString (toString z)).length = (toString z).length := PySem.ofString_length _
    show piled (Str.ofString (toString z) :: PyData.shownAll (zs.map PyData.int)) ≤ _
    rw [piled_cons, h5, List.length_cons]
    omega
theorem intsD_ok {zs : List Int} (hl : zs.length ≤ 1000) (h : ∀ z ∈ zs, z.natAbs < 2 ^ 60) : (intsD zs).showable = true ∧ (intsD zs).hasDict = false ∧ (intsD zs).depth ≤ 60 ∧ (intsD zs).shown.length ≤ sizeLine := by
  refine ⟨shI zs h, ndI zs, ?_, ?_⟩
  · show PyData.depthAll (zs.map PyData.int) + 1 ≤ 60
    rw [deI]; decide
  · have h1 := fmt_text (PyData.shownAll (zs.map PyData.int))
    have h2 := plI zs h
    have h3 : 200000 ≤ sizeLine := by decide
    show (tupleText (PyData.shownAll (zs.map PyData.int))).length ≤ _
    omega
theorem idx_len {n : Nat} {c : Nat → Bool} : (idx n c).length ≤ n := by
  unfold idx
  rw [List.length_map]
  exact Nat.le_trans (List.length_filter_le _ _) (Nat.le_of_eq List.length_range)
theorem idx_bnd {n : Nat} {c : Nat → Bool} : ∀ z ∈ idx n c, 0 ≤ z ∧ z < n := fun z hz => by
  unfold idx at hz
  obtain ⟨k, hk, rfl⟩ := List.mem_map.mp hz
  have := List.mem_range.mp (List.mem_filter.mp hk).1
  omega
theorem idx_ok {n : Nat} {c : Nat → Bool} (hn : n ≤ 1000) : (intsD (idx n c)).showable = true ∧ (intsD (idx n c)).hasDict = false ∧ (intsD (idx n c)).depth ≤ 60 ∧ (intsD (idx n c)).shown.length ≤ sizeLine :=
  intsD_ok (Nat.le_trans idx_len hn) fun z hz => by have := idx_bnd z hz; omega
theorem singles_zq {d : Int} (hd : 0 < d) (ts : List Int) : (idx (zq d ts).length fun n => riseB ((zq d ts).take n ++ (zq d ts).drop (n + 1))) = idx ts.length fun n => riseZ (ts.take n ++ ts.drop (n + 1)) := by
  rw [zq_len]
  congr 1
  funext n
  rw [← riseZ_zq hd]
  unfold zq
  rw [List.map_append, List.map_take, List.map_drop]
end My
namespace My
open PySem PySem.Spec PyProof.Rows L2
/-! ### a list or a tuple, walked -/
section
variable {X : Cx} {tg : Expr}
def iSeq (K : PySem.W.Frag) (tl : TE) : TI := fun σ H R => tl σ H fun x H1 => ∃ a, x = .ref a ∧ (((∃ xs, SqL K H1 a xs) ∧ R (Itl K a) H1) ∨ ((∃ xs, SqT K H1 a xs) ∧ R (Itt K a) H1))
theorem pi_seq {l : Expr} {tl : TE} (hl : PE X l tl) : PI X tg l (iSeq X.K tl) := by
  refine ⟨fun pins s σ H R I h => ?_⟩
  refine thn (hl.run pins s σ H _ I h) fun v s1 ⟨x, H1, I1, r1, q1⟩ => ?_
  obtain ⟨a, e, q1⟩ := q1
  subst e
  cases r1
  have fresh : ∀ b ∈ [s1.heap.objs.size], FpOk X pins H1 b := fun b hb => by
    have e : b = s1.heap.objs.size := by simpa using hb
    subst e
    exact I1.fpOk (Nat.le_refl _) (I1.hok.fresh (Nat.le_refl _))
  rcases q1 with ⟨⟨xs, hq⟩, q⟩ | ⟨⟨xs, hq⟩, q⟩
  · obtain ⟨its, rv, p, hz⟩ := I1.list hq
    refine wpAny_pyIter_list p.isList ?_
    exact ⟨s1.heap.objs.size, [s1.heap.objs.size], _, _, H1, rfl, I1.kept (t' := s1.toks) fun b o e => Heap.get?_push_of_some _ e, turn_list a _, ⟨_, Heap.get?_push_size _ rfl, rfl, rfl⟩, fresh, q⟩
  · obtain ⟨its, rv, p, hz⟩ := I1.tuple hq
    refine wpAny_pyIter_tuple (show s1.heap.IsTuple a its.toArray from p) ?_
    exact ⟨s1.heap.objs.size, [s1.heap.objs.size], _, _, H1, rfl, I1.kept (t' := s1.toks) fun b o e => Heap.get?_push_of_some _ e, turn_tuple a _, ⟨_, Heap.get?_push_size _ rfl, rfl, rfl⟩, fresh, q⟩
end
/-- a def that calls itself, ahead of its own promise -/
theorem fn_never {P : Program} {w : World} {K : PySem.W.Frag} {mg : Str → Option Value} {base : Heap} {CX : CXT} {k : Nat} {f : Addr} {fd : FuncData} {ps : List Str} : FnOk P w K mg base CX k f fd ps (fun _ _ _ _ => False) :=
  ⟨fun _ _ _ _ h => h.elim, fun _ _ _ _ _ _ _ _ _ _ _ _ _ h => h.elim⟩
/-! ### fractions as pairs of whole numbers -/
def TQ (H : Hp) (v : V) (k : Nat) (z : Q2) : Prop := ∃ p, v = .ref p ∧ H p = some (.tup [.int z.1, .int z.2]) ∧ 0 < z.2 ∧ Sz k z.1 ∧ Sz k z.2
section
variable {H H' : Hp} {v : V} {k j : Nat} {z : Q2}
theorem TQ.same (a : TQ H v k z) (s : Same H H') : TQ H' v k z := by
  obtain ⟨p, h1, h2, h3⟩ := a
  exact ⟨p, h1, s _ _ h2, h3⟩
theorem TQ.nl (a : TQ H v k z) (s : Nl H H') : TQ H' v k z := by
  obtain ⟨p, h1, h2, h3⟩ := a
  exact ⟨p, h1, s _ _ h2 rfl, h3⟩
theorem TQ.kp {h : Addr} {n : Nat} (a : TQ H v k z) (hh : HandAt H h n) (s : Kp h H H') : TQ H' v k z := by
  obtain ⟨p, h1, h2, h3⟩ := a
  exact ⟨p, h1, s.get hh h2 rfl, h3⟩
theorem TQ.mono (a : TQ H v k z) (l : k ≤ j) : TQ H v j z := by
  obtain ⟨p, h1, h2, h3, h4, h5⟩ := a
  exact ⟨p, h1, h2, h3, h4.mono l, h5.mono l⟩
theorem TQ.pos (a : TQ H v k z) : 0 < z.2 := by
  obtain ⟨p, h1, h2, h3, h4, h5⟩ := a
  exact h3
theorem TQ.mk {p : Addr} {a b : Int} (h : H p = some (.tup [.int a, .int b])) (hb : 0 < b) (s1 : Sz k a) (s2 : Sz k b) : TQ H (.ref p) k (a, b) := ⟨p, rfl, h, hb, s1, s2⟩
end
structure Tqs (H : Hp) (k : Nat) (vs : List V) (zs : List Q2) : Prop where
  len : vs.length = zs.length
  all : ∀ (i : Nat) (v : V) (z : Q2), vs[i]? = some v → zs[i]? = some z → TQ H v k z
section
variable {H H' : Hp} {k j : Nat} {vs : List V} {zs : List Q2}
theorem Tqs.same (m : Tqs H k vs zs) (s : Same H H') : Tqs H' k vs zs := ⟨m.len, fun i v z h1 h2 => (m.all i v z h1 h2).same s⟩
theorem Tqs.nl (m : Tqs H k vs zs) (s : Nl H H') : Tqs H' k vs zs := ⟨m.len, fun i v z h1 h2 => (m.all i v z h1 h2).nl s⟩
theorem Tqs.kp {h : Addr} {n : Nat} (m : Tqs H k vs zs) (hh : HandAt H h n) (s : Kp h H H') : Tqs H' k vs zs := ⟨m.len, fun i v z h1 h2 => (m.all i v z h1 h2).kp hh s⟩
theorem Tqs.mono (m : Tqs H k vs zs) (l : k ≤ j) : Tqs H j vs zs := ⟨m.len, fun i v z h1 h2 => (m.all i v z h1 h2).mono l⟩
theorem Tqs.at (m : Tqs H k vs zs) {i : Nat} {z : Q2} (h : zs[i]? = some z) : ∃ v, vs[i]? = some v ∧ TQ H v k z := by
  have hi : i < vs.length := by rw [m.len]; exact (List.getElem?_eq_some_iff.mp h).1
  exact ⟨_, List.getElem?_eq_getElem hi, m.all i _ z (List.getElem?_eq_getElem hi) h⟩
theorem Tqs.of (m : Tqs H k vs zs) {i : Nat} {v : V} (h : vs[i]? = some v) : ∃ z, zs[i]? = some z ∧ TQ H v k z := by
  have hi : i < zs.length := by rw [← m.len]; exact (List.getElem?_eq_some_iff.mp h).1
  exact ⟨_, List.getElem?_eq_getElem hi, m.all i v _ h (List.getElem?_eq_getElem hi)⟩
theorem Tqs.snoc (m : Tqs H k vs zs) {v : V} {z : Q2} (t : TQ H v k z) : Tqs H k (vs ++ [v]) (zs ++ [z]) := by
  refine ⟨by rw [List.length_append, List.length_append, m.len]; rfl, fun i w y h1 h2 => ?_⟩
  by_cases hi : i < vs.length
  · rw [List.getElem?_append_left hi] at h1
    rw [List.getElem?_append_left (by rw [← m.len]; exact hi)] at h2
    exact m.all i w y h1 h2
  · have l1 := (List.getElem?_eq_some_iff.mp h1).1
    rw [List.length_append, List.length_singleton] at l1
    have e : i = vs.length := by omega
    rw [e, List.getElem?_append_right (Nat.le_refl _), Nat.sub_self] at h1
    rw [e, m.len, List.getElem?_append_right (Nat.le_refl _), Nat.sub_self] at h2
    cases h1; cases h2
    exact t
theorem Tqs.one {v : V} {z : Q2} (t : TQ H v k z) : Tqs H k [v] [z] := (⟨rfl, fun i w y h1 => by simp at h1⟩ : Tqs H k [] []).snoc t
theorem Tqs.cons (m : Tqs H k vs zs) {v : V} {z : Q2} (t : TQ H v k z) : Tqs H k (v :: vs) (z :: zs) := by
  refine ⟨by rw [List.length_cons, List.length_cons, m.len], fun i w y h1 h2 => ?_⟩
  cases i with
  | zero => cases h1; cases h2; exact t
  | succ i => exact m.all i w y (by simpa using h1) (by simpa using h2)
theorem Tqs.nil : Tqs H k [] [] := ⟨rfl, fun i w y h1 => by simp at h1⟩
theorem Mks.mono {C : Addr} {ps : List V} (m : Mks C H k ps zs) (l : k ≤ j) : Mks C H j ps zs := ⟨m.len, fun i v z h1 h2 => by
  obtain ⟨p, e, q⟩ := m.all i v z h1 h2
  exact ⟨p, e, q.mono l⟩⟩
theorem QO.mono {C : Addr} {v : V} (l : k ≤ j) : ∀ {e : Option Q2}, QO C H k v e → QO C H j v e
  | none, h => h
  | some _, ⟨p, h1, h2⟩ => ⟨p, h1, h2.mono l⟩
end
theorem rise_snocQ {zs : List Q2} {x : Q2} (h : RiseQ zs) (hx : ∀ n a, zs[n]? = some a → n + 1 = zs.length → ltq a x = true) : RiseQ (zs ++ [x]) := by
  intro i a b ha hb
  have l1 := (List.getElem?_eq_some_iff.mp hb).1
  rw [List.length_append, List.length_singleton] at l1
  rw [List.getElem?_append_left (by omega)] at ha
  by_cases hi : i + 1 < zs.length
  · rw [List.getElem?_append_left hi] at hb
    exact h i a b ha hb
  · have e : i + 1 = zs.length := by omega
    rw [e, List.getElem?_append_right (Nat.le_refl _), Nat.sub_self] at hb
    have eb : x = b := by simpa using hb
    rw [← eb]
    exact hx i a ha e
theorem ltq_more {x y : Q2} (hx : 0 < x.2) (hy : 0 < y.2) (h : 0 < y.1) : ltq x (qadd x y) = true := by
  unfold ltq qadd
  refine decide_eq_true ?_
  show x.1 * (x.2 * y.2) < (x.1 * y.2 + y.1 * x.2) * x.2
  have e : (x.1 * y.2 + y.1 * x.2) * x.2 = x.1 * (x.2 * y.2) + y.1 * (x.2 * x.2) := by grind
  have := Int.mul_pos h (Int.mul_pos hx hx)
  omega
theorem ltq_moreR {x y z : Q2} (hx : 0 < x.2) (hy : 0 < y.2) (h : 0 < y.1) (r : Re z (qadd x y)) : ltq x z = true := by
  rw [ltq_congr (Re.refl hx) r]
  exact ltq_more hx hy h
theorem Re.pos1 {z w : Q2} (r : Re z w) (h : 0 < w.1) : 0 < z.1 := by
  obtain ⟨h1, h2, e⟩ := r
  have p : 0 < w.1 * z.2 := Int.mul_pos h h1
  rw [← e] at p
  exact Int.pos_of_mul_pos_left p h2 |> fun q => q
theorem leq_not {a b : Q2} : leq a b = !ltq b a := by
  unfold leq ltq eqq
  rw [← Bool.decide_or, ← decide_not]
  exact decide_eq_decide.mpr ⟨fun h => by omega, fun h => by omega⟩
theorem leq_congr {a b c d : Q2} (h : Re a c) (g : Re b d) : leq a b = leq c d := by rw [leq_not, leq_not, ltq_congr g h]
theorem span_leq (a b : Q2) : spanB (some a) (some b) = (ltq a b || eqq a b) := by
  show (!ltq b a) = leq a b
  rw [leq_not]
/-! ### what the defs of pairs promise -/
def sp_plain : Sp := fun vs H Q _ => ∃ (a b : Int) (k : Nat), vs = [.int a, .int b] ∧ 0 < b ∧ Sz k a ∧ Sz k b ∧ 0 < k ∧ k ≤ 8000 ∧ ∀ (v : V) (z : Q2) (H' : Hp), Same H H' → TQ H' v k z → Re z (a, b) → Q v H'
def sp_sum : Sp := fun vs H Q _ => ∃ (v w : V) (k j : Nat) (x y : Q2), vs = [v, w] ∧ TQ H v k x ∧ TQ H w j y ∧ 0 < k ∧ 0 < j ∧ k + j < 8000 ∧ ∀ (v' : V) (z : Q2) (H' : Hp), Same H H' → TQ H' v' (k + j + 1) z → Re z (qadd x y) → Q v' H'
def sp_less : Sp := fun vs H Q _ => ∃ (v w : V) (k j : Nat) (x y : Q2), vs = [v, w] ∧ TQ H v k x ∧ TQ H w j y ∧ 0 < k ∧ 0 < j ∧ k + j < 9000 ∧ Q (.bl (ltq x y)) H
def sp_meass (K : PySem.W.Frag) (CM : Addr) : Sp := fun vs H Q _ => ∃ (p : Addr) (k : Nat) (us : List V) (zs : List Q2), vs = [.ref p] ∧ (SqL K H p us ∨ SqT K H p us) ∧ Tqs H k us zs ∧ 0 < k ∧ k ≤ 4000 ∧ zs.length ≤ 24 ∧
  ∀ (T : Addr) (ps : List V) (H' : Hp), Same H H' → H' T = some (.tup ps) → Mks CM H' k ps zs → Q (.ref T) H'
def sp_lpart : Sp := fun vs H Q _ => ∃ (h : Addr) (n : Nat), vs = [.ref h] ∧ HandAt H h n ∧ n < 90000 ∧ ∀ (v : V) (z : Q2) (H' : Hp), HandAt H' h (n + 2) → Kp h H H' → TQ H' v 20 z → 0 < z.1 → Q v H'
def sp_marks : Sp := fun vs H Q _ => ∃ (h : Addr) (n m : Nat), vs = [.ref h, .int m] ∧ HandAt H h n ∧ n < 10000 ∧ 0 < m ∧ m ≤ 24 ∧
  ∀ (l : Addr) (us : List V) (zs : List Q2) (H' : Hp), HandAt H' h (n + 60) → Kp h H H' → l ≠ h → H' l = some (.lst us) → Tqs H' (12 + 21 * m) us zs → 0 < zs.length → zs.length ≤ m → RiseQ zs → Q (.ref l) H'
def sp_anyl (K : PySem.W.Frag) (CM CL : Addr) : Sp := fun vs H Q _ => ∃ (h l : Addr) (n k : Nat) (us : List V) (zs : List Q2), vs = [.ref h, .ref l] ∧ HandAt H h n ∧ n < 10000 ∧ l ≠ h ∧ H l = some (.lst us) ∧ Tqs H k us zs ∧ 0 < k ∧ k ≤ 1000 ∧ 0 < zs.length ∧ zs.length ≤ 24 ∧ RiseQ zs ∧
  ∀ (p : Addr) (r : Str) (lo hi : Option Q2) (H' : Hp), HandAt H' h (n + 3) → Kp h H H' → LadAt K CM CL H' p (k + 4) zs r lo hi → Q (.ref p) H'
/-- None, or a Measure, or another one where it is None -/
def sp_mor (CM : Addr) : Sp := fun vs H Q _ => ∃ (v : V) (k : Nat) (e : Option Q2), vs = [v, .int 0] ∧ QO CM H k v e ∧ 0 < k ∧ k ≤ 8000 ∧ ∀ (p : Addr) (H' : Hp), Same H H' → QAt CM H' p k (e.getD (0, 1)) → Q (.ref p) H'
def sp_span (CM : Addr) : Sp := fun vs H Q _ => ∃ (l h : V) (k : Nat) (lo hi : Option Q2), vs = [l, h] ∧ QO CM H k l lo ∧ QO CM H k h hi ∧ k ≤ 9000 ∧ Q (.bl (spanB lo hi)) H
/-- the numbers of the marks that fit -/
def fitQ (zs : List Q2) (x s t : Q2) : Nat → Bool := fun i => match zs[i]? with
  | some a => leq (qsub x t) a && leq a (qadd x s)
  | none => false
def sp_fits (K : PySem.W.Frag) (CM CL : Addr) : Sp := fun vs H Q _ => ∃ (p q s : Addr) (t : V) (k j : Nat) (zs : List Q2) (r : Str) (lo hi : Option Q2) (x y : Q2) (e : Option Q2), vs = [.ref p, .ref q, .ref s, t] ∧ LadAt K CM CL H p k zs r lo hi ∧ QAt CM H q j x ∧ QAt CM H s j y ∧ QO CM H j t e ∧ 0 < k ∧ 0 < j ∧ k ≤ 4000 ∧ j ≤ 4000 ∧
  ∀ (T : Addr) (H' : Hp), Same H H' → H' T = some (.tup ((idx zs.length (fitQ zs x y (e.getD (0, 1)))).map V.int)) → Q (.ref T) H'
theorem rise_ltq {zs : List Q2} (h : RiseQ zs) (hp : ∀ z ∈ zs, 0 < z.2) : ∀ {j i : Nat} {a b : Q2}, i < j → zs[i]? = some a → zs[j]? = some b → ltq a b = true
  | 0, _, _, _, hi, _, _ => by omega
  | j + 1, i, a, b, hi, ha, hb => by
    obtain ⟨c, hc⟩ := ge2 (zs := zs) (n := j) (by have := (List.getElem?_eq_some_iff.mp hb).1; omega)
    have h1 := h j c b hc hb
    by_cases e : i = j
    · subst e
      rw [ha] at hc
      cases hc
      exact h1
    · exact ltq_trans (hp c (List.mem_of_getElem? hc)) (hp a (List.mem_of_getElem? ha)) (hp b (List.mem_of_getElem? hb)) (rise_ltq h hp (show i < j by omega) ha hc) h1
theorem ltq_asymm {a b : Q2} (h : ltq a b = true) : ltq b a = false := by
  have := of_decide_eq_true h
  exact decide_eq_false (by omega)
theorem ltq_irrefl (a : Q2) : ltq a a = false := decide_eq_false (by omega)
theorem Tqs.posL {H : Hp} {k : Nat} {vs : List V} {zs : List Q2} (m : Tqs H k vs zs) : ∀ z ∈ zs, 0 < z.2 := fun z hz => by
  obtain ⟨i, hi⟩ := List.mem_iff_getElem?.mp hz
  obtain ⟨v, _, t⟩ := m.at hi
  exact t.pos
theorem rise_ends {zs : List Q2} (h : RiseQ zs) (hp : ∀ z ∈ zs, 0 < z.2) {a b : Q2} {n : Nat} (h0 : zs[0]? = some a) (h1 : zs[n]? = some b) : ltq b a = false := by
  cases n with
  | zero =>
    rw [h0] at h1
    cases h1
    exact ltq_irrefl a
  | succ n => exact ltq_asymm (rise_ltq h hp (Nat.succ_pos n) h0 h1)
theorem ltq_notlt {a b c : Q2} (ha : 0 < a.2) (hb : 0 < b.2) (hc : 0 < c.2) (h1 : ltq a c = false) (h2 : ltq a b = true) : ltq b c = false := by
  cases e : ltq b c with
  | false => rfl
  | true =>
    rw [ltq_trans hb ha hc h2 e] at h1
    cases h1
/-- None, or a pair -/
def TOq (H : Hp) (k : Nat) (v : V) : Option Q2 → Prop
  | none => v = .non
  | some z => TQ H v k z
theorem TOq.same {H H' : Hp} {k : Nat} {v : V} : ∀ {e : Option Q2}, TOq H k v e → Same H H' → TOq H' k v e
  | none, h, _ => h
  | some _, h, s => TQ.same h s
theorem TOq.kp {H H' : Hp} {k n : Nat} {h : Addr} {v : V} : ∀ {e : Option Q2}, TOq H k v e → HandAt H h n → Kp h H H' → TOq H' k v e
  | none, h, _, _ => h
  | some _, h, hh, s => TQ.kp h hh s
theorem QO.nl {C : Addr} {H H' : Hp} {k : Nat} {v : V} (s : Nl H H') : ∀ {e : Option Q2}, QO C H k v e → QO C H' k v e
  | none, h => h
  | some _, ⟨p, h1, h2⟩ => ⟨p, h1, h2.nl s⟩
theorem geV {n : Nat} {xs : List V} (h : n < xs.length) : ∃ a, xs[n]? = some a := ⟨_, List.getElem?_eq_getElem h⟩
theorem sqt_kp {K : PySem.W.Frag} {H H' : Hp} {h a : Addr} {n : Nat} {xs : List V} (s : SqT K H a xs) (hh : HandAt H h n) (k : Kp h H H') : SqT K H' a xs := by
  rcases s with (s | ⟨o, s⟩) | s
  · exact .inl (.inl (k.get hh s rfl))
  · exact .inl (.inr ⟨o, k.get hh s rfl⟩)
  · exact .inr s
theorem LadAt.kp {K : PySem.W.Frag} {CM CL p h : Addr} {H H' : Hp} {k n : Nat} {zs : List Q2} {r : Str} {lo hi : Option Q2} (a : LadAt K CM CL H p k zs r lo hi) (hh : HandAt H h n) (s : Kp h H H') : LadAt K CM CL H' p k zs r lo hi := by
  obtain ⟨⟨dx, T, ps, l, u, h1, h2, h3, h4, h5⟩, a1, a2, a3, a4, a5⟩ := a
  exact ⟨⟨dx, T, ps, l, u, s.get hh h1 rfl, sqt_kp h2 hh s, h3.kp hh s, h4.kp hh s, h5.kp hh s⟩, a1, a2, a3, a4, a5⟩
end My
namespace My
open PySem PySem.Spec PyProof.Rows L2
/-! ### comprehensions that draw -/
theorem Kp.nlh {h : Addr} {H H' : Hp} {n : Nat} (k : Kp h H H') (hh : HandAt H h n) : Nl H H' := fun c o e no => k c o e (hh.apart e no)
theorem lck {J : It} {n : Nat} {G : Hp → Prop} {Y : Nat → Hp → V → Hp → Prop} {g : TG} {tt : TT} {te : TE} {vs : List Nat} {σ : L2.St} {H1 : Hp} {D : Addr} {Qd : Hp → Prop} {h : Addr} {c m : Nat} (w : Walk J n G Y) (hG : ∀ H, G H) (R : Nat → Hp → V → Prop) (hR : ∀ i H H' y, R i H y → Nl H H' → R i H' y) (hz : n < sizeLine) (hh : HandAt H1 h m) (hD : H1 D = none)
    (hs : ∀ (i : Nat) (x : V) (H H' : Hp) (N : VK) (M : Hp → Prop), i < n → Kp h H1 H → HandAt H h (m + c * i) → Y i H x H' → (∀ y H4, Kp h H H4 → HandAt H4 h (m + c * (i + 1)) → R i H4 y → N y H4) →
      g x (wipe σ vs) H' fun σ2 H2 => wipe σ2 vs = wipe σ vs ∧ tt σ2 H2 fun b H3 => if b = true then te σ2 H3 N else M H3)
    (hd : ∀ H ys, Kp h H1 H → HandAt H h (m + c * n) → H D = some (.lst ys) → ys.length = n → (∀ i y, ys[i]? = some y → R i H y) → Qd H) :
    ∃ W : Nat → Nat → Hp → Prop, (∃ m, W 0 m (upd H1 D (.lst []))) ∧ ∀ i m H, W i m H →
      (J.stop i H ∧ Qd H) ∨ (J.go i H ∧ ∃ Nx : Hp → Prop, (∀ H', Nx H' → ∃ m', m' < m ∧ W (i + 1) m' H') ∧ ∀ x H', J.yld i H x H' → g x (wipe σ vs) H' fun σ2 H2 => wipe σ2 vs = wipe σ vs ∧ tt σ2 H2 fun b H3 =>
        if b = true then te σ2 H3 fun y H4 => ∃ acc, H4 D = some (.lst acc) ∧ acc.length < sizeLine ∧ Nx (upd H4 D (.lst (acc ++ [y]))) else Nx H3) := by
  have nDh : D ≠ h := hh.ne hD
  refine lc_it w (fun i H => Kp h H1 H ∧ HandAt H h (m + c * i) ∧ ∃ ys, H D = some (.lst ys) ∧ ys.length = i ∧ ∀ j y, ys[j]? = some y → R j H y) ⟨(Kp.refl _ _).up hD, hh.up hD, [], upd_same, rfl, fun j y hy => by simp at hy⟩ (fun i H _ p => hG _) (fun i x H H' hi p y => ?_) (fun H p => ?_)
  · obtain ⟨s1, hhi, ys, h1, h2, h3⟩ := p
    refine hs i x H H' _ _ hi s1 hhi y (fun v H4 s4 hh4 r4 => ⟨ys, s4 _ _ h1 nDh, by omega, ?_, hh4.put nDh, ys ++ [v], upd_same, by rw [List.length_append, h2]; rfl, ?_⟩)
    · exact (s1.trans s4).putN hD
    · intro j z hj
      have n4 : Nl H4 (upd H4 D (.lst (ys ++ [v]))) := Nl.put (s4 _ _ h1 nDh)
      by_cases hlt : j < ys.length
      · rw [List.getElem?_append_left hlt] at hj
        exact hR _ _ _ _ (hR _ _ _ _ (h3 j z hj) (s4.nlh hhi)) n4
      · have hj2 : j = ys.length := by
          have := (List.getElem?_eq_some_iff.mp hj).1
          rw [List.length_append, List.length_singleton] at this
          omega
        subst hj2
        rw [List.getElem?_append_right (Nat.le_refl _), Nat.sub_self] at hj
        cases hj
        rw [h2]
        exact hR _ _ _ _ r4 n4
  · obtain ⟨s1, hhi, ys, h1, h2, h3⟩ := p
    exact hd H ys s1 hhi h1 h2 h3
/-! ### things that are the same, one within another -/
def AtomV (x : V) : Prop := (∃ z : Int, x = .int z) ∨ (∃ s : Str, x = .str s) ∨ x = .non ∨ ∃ b : Bool, x = .bl b
def SameV (K : PySem.W.Frag) (H : Hp) : Nat → V → V → Prop
  | 0, x, y => x = y ∧ AtomV x
  | n + 1, x, y => (x = y ∧ AtomV x) ∨ ∃ p q xs ys, x = .ref p ∧ y = .ref q ∧ SqT K H p xs ∧ SqT K H q ys ∧ xs.length = ys.length ∧ xs.length ≤ 900 ∧ ∀ (i : Nat) (a b : V), xs[i]? = some a → ys[i]? = some b → SameV K H n a b
theorem SameV.same {K : PySem.W.Frag} {H H' : Hp} (s : Same H H') : ∀ {n : Nat} {x y : V}, SameV K H n x y → SameV K H' n x y
  | 0, _, _, h => h
  | n + 1, _, _, .inl h => .inl h
  | n + 1, _, _, .inr ⟨p, q, xs, ys, h1, h2, h3, h4, h5, h6, h7⟩ => .inr ⟨p, q, xs, ys, h1, h2, s.sqt h3, s.sqt h4, h5, h6, fun i a b ha hb => SameV.same s (h7 i a b ha hb)⟩
theorem SameV.atom {K : PySem.W.Frag} {H : Hp} {x : V} (a : AtomV x) : ∀ n, SameV K H n x x
  | 0 => ⟨rfl, a⟩
  | _ + 1 => .inl ⟨rfl, a⟩
theorem SameV.strs {K : PySem.W.Frag} {H : Hp} {p q : Addr} {ss : List Str} (n : Nat) (hp : SqT K H p (ss.map V.str)) (hq : SqT K H q (ss.map V.str)) (l : ss.length ≤ 900) : SameV K H (n + 1) (.ref p) (.ref q) :=
  .inr ⟨p, q, _, _, rfl, rfl, hp, hq, rfl, by rw [List.length_map]; exact l, fun i a b ha hb => by
    rw [ha] at hb
    cases hb
    obtain ⟨s, _, rfl⟩ := List.mem_map.mp (List.mem_of_getElem? ha)
    exact SameV.atom (.inr (.inl ⟨s, rfl⟩)) n⟩
theorem SameV.ints {K : PySem.W.Frag} {H : Hp} {p q : Addr} {ss : List Int} (n : Nat) (hp : SqT K H p (ss.map V.int)) (hq : SqT K H q (ss.map V.int)) (l : ss.length ≤ 900) : SameV K H (n + 1) (.ref p) (.ref q) :=
  .inr ⟨p, q, _, _, rfl, rfl, hp, hq, rfl, by rw [List.length_map]; exact l, fun i a b ha hb => by
    rw [ha] at hb
    cases hb
    obtain ⟨s, _, rfl⟩ := List.mem_map.mp (List.mem_of_getElem? ha)
    exact SameV.atom (.inl ⟨s, rfl⟩) n⟩
def sp_sameN (K : PySem.W.Frag) (n : Nat) : Sp := fun vs H Q _ => ∃ x y : V, vs = [x, y] ∧ SameV K H n x y ∧ ∀ H', Same H H' → Q (.bl true) H'
/-! ### a Grid -/
def gf (a b c : V) : List (Str × V) := [("lengths", a), ("breadths", b), ("grade", c)]
theorem gf_put (a b c : V) : putF "grade" c (putF "breadths" b (putF "lengths" a [])) = gf a b c := by
  have e1 : putF ("breadths" : Str) b (putF ("lengths" : Str) a []) = ([("lengths", a), ("breadths", b)] : List (Str × V)) := by
    show (if ("lengths" : Str) = "breadths" then [(("lengths" : Str), b)] else (("lengths" : Str), a) :: putF "breadths" b []) = _
    rw [if_neg (by decide +kernel)] <;> rfl
  have e2 : putF ("grade" : Str) c [("lengths", a), ("breadths", b)] = gf a b c := by
    show (if ("lengths" : Str) = "grade" then _ else (("lengths" : Str), a) :: (if ("breadths" : Str) = "grade" then _ else (("breadths" : Str), b) :: putF "grade" c [])) = _
    rw [if_neg (by decide +kernel), if_neg (by decide +kernel)] <;> rfl
  rw [e1, e2]
section
variable (a b c : V)
theorem gf_lengths : (gf a b c).lookup ("lengths" : Str) = some a := by
  rw [← gf_put, lookup_putF, if_neg (by decide +kernel), lookup_putF, if_neg (by decide +kernel), lookup_putF, if_pos rfl]
theorem gf_breadths : (gf a b c).lookup ("breadths" : Str) = some b := by
  rw [← gf_put, lookup_putF, if_neg (by decide +kernel), lookup_putF, if_pos rfl]
theorem gf_grade : (gf a b c).lookup ("grade" : Str) = some c := by
  rw [← gf_put, lookup_putF, if_pos rfl]
theorem gf_no {m : Str} (h1 : ¬ m = "lengths") (h2 : ¬ m = "breadths") (h3 : ¬ m = "grade") : (gf a b c).lookup m = none := by
  rw [← gf_put, lookup_putF, if_neg h3, lookup_putF, if_neg h2, lookup_putF, if_neg h1] <;> rfl
end
/-- a ladder, whatever its rule and ends -/
def LadE (K : PySem.W.Frag) (CM CL : Addr) (H : Hp) (p : Addr) (k : Nat) (zs : List Q2) : Prop := ∃ r lo hi, LadAt K CM CL H p k zs r lo hi
structure GrdAt (K : PySem.W.Frag) (CM CL CG : Addr) (H : Hp) (p : Addr) (k : Nat) (L1 L2 : Addr) (g : Q2) : Prop where
  ob : ∃ dx q, H p = some (.ins CG dx (gf (.ref L1) (.ref L2) (.ref q))) ∧ QAt CM H q k g
theorem GrdAt.same {K : PySem.W.Frag} {CM CL CG : Addr} {H H' : Hp} {p : Addr} {k : Nat} {L1 L2 : Addr} {g : Q2} (a : GrdAt K CM CL CG H p k L1 L2 g) (s : Same H H') : GrdAt K CM CL CG H' p k L1 L2 g := by
  obtain ⟨dx, q, h1, h2⟩ := a.ob
  exact ⟨dx, q, s _ _ h1, h2.same s⟩
theorem GrdAt.kp {K : PySem.W.Frag} {CM CL CG : Addr} {H H' : Hp} {p h : Addr} {k n : Nat} {L1 L2 : Addr} {g : Q2} (a : GrdAt K CM CL CG H p k L1 L2 g) (hh : HandAt H h n) (s : Kp h H H') : GrdAt K CM CL CG H' p k L1 L2 g := by
  obtain ⟨dx, q, h1, h2⟩ := a.ob
  exact ⟨dx, q, s.get hh h1 rfl, h2.kp hh s⟩
def sp_ginit (K : PySem.W.Frag) (CM CL CG : Addr) : Sp := fun vs H Q _ => ∃ (p dx L1 L2 : Addr) (v : V) (k j : Nat) (zs ys : List Q2) (r1 r2 : Str) (lo1 hi1 lo2 hi2 e : Option Q2), vs = [.ref p, .ref L1, .ref L2, v] ∧ H p = some (.ins CG dx []) ∧ LadAt K CM CL H L1 k zs r1 lo1 hi1 ∧ LadAt K CM CL H L2 k ys r2 lo2 hi2 ∧ QO CM H j v e ∧ 0 < j ∧ j ≤ 4000 ∧
  ∀ (q : Addr) (H' : Hp), H' p = some (.ins CG dx (gf (.ref L1) (.ref L2) (.ref q))) → QAt CM H' q j (e.getD (0, 1)) → (∀ b o, H b = some o → b ≠ p → H' b = some o) → Q .non H'
theorem grd_made {K : PySem.W.Frag} {CM CL CG L1 L2 : Addr} {H : Hp} {Qa : Addr → Hp → Prop} {E : XK} {v : V} {k j : Nat} {zs ys : List Q2} {r1 r2 : Str} {lo1 hi1 lo2 hi2 e : Option Q2} (a1 : LadAt K CM CL H L1 k zs r1 lo1 hi1) (a2 : LadAt K CM CL H L2 k ys r2 lo2 hi2) (q1 : QO CM H j v e) (j0 : 0 < j) (j1 : j ≤ 4000)
    (f : ∀ (p : Addr) (H' : Hp), H p = none → Same H H' → GrdAt K CM CL CG H' p j L1 L2 (e.getD (0, 1)) → Qa p H') :
    ∀ x dx, H x = none → H dx = none → dx ≠ x → sp_ginit K CM CL CG [.ref x, .ref L1, .ref L2, v] (upd (upd H dx (.own x)) x (.ins CG dx [])) (fun v H2 => v = .non ∧ Qa x H2) E := by
  intro x dx nx nd ne
  have s0 : Same H (upd (upd H dx (.own x)) x (.ins CG dx [])) := fun c o e => by
    rw [upd_ne (ne_of_none e nx)]
    exact up1 nd e
  refine ⟨x, dx, L1, L2, v, k, j, zs, ys, r1, r2, lo1, hi1, lo2, hi2, e, rfl, upd_same, a1.same s0, a2.same s0, q1.same s0, j0, j1, fun q H' hx hq kp => ⟨rfl, ?_⟩⟩
  exact f x H' nx (made_same nx nd kp) ⟨⟨dx, q, hx, hq⟩⟩
/-- the i-th breadth's mark, graded -/
def grdQ (b g : Q2) (i : Nat) : Q2 := qadd b (qmul g ((i : Int), 1))
def sp_longm (K : PySem.W.Frag) (CM CL CG : Addr) : Sp := fun vs H Q _ => ∃ (p t L1 L2 : Addr) (i w k j : Nat) (g a : Q2) (zs : List Q2), vs = [.ref p, .ref t] ∧ GrdAt K CM CL CG H p j L1 L2 g ∧ LadE K CM CL H L1 k zs ∧ SqT K H t [.int (i : Int), .int (w : Int)] ∧ zs[i]? = some a ∧ ∀ q, QAt CM H q k a → Q (.ref q) H
def sp_graded (K : PySem.W.Frag) (CM CL CG : Addr) : Sp := fun vs H Q _ => ∃ (p L1 L2 : Addr) (i j : Nat) (g : Q2), vs = [.ref p, .int (i : Int)] ∧ GrdAt K CM CL CG H p j L1 L2 g ∧ i ≤ 24 ∧ 0 < j ∧ j ≤ 4000 ∧ ∀ (q : Addr) (H' : Hp), Same H H' → QAt CM H' q (j + 6 + 1) (qmul g ((i : Int), 1)) → Q (.ref q) H'
def sp_broadm (K : PySem.W.Frag) (CM CL CG : Addr) : Sp := fun vs H Q _ => ∃ (p t L1 L2 : Addr) (i w k j : Nat) (g b : Q2) (ys : List Q2), vs = [.ref p, .ref t] ∧ GrdAt K CM CL CG H p j L1 L2 g ∧ LadE K CM CL H L2 k ys ∧ SqT K H t [.int (i : Int), .int (w : Int)] ∧ ys[w]? = some b ∧ i ≤ 24 ∧ 0 < j ∧ j ≤ 1000 ∧ 0 < k ∧ k ≤ 1000 ∧ ∀ (q : Addr) (H' : Hp), Same H H' → QAt CM H' q (k + (j + 6 + 1) + 1) (grdQ b g i) → Q (.ref q) H'
/-- the rules that a pair breaks -/
def brkW (a b x1 x2 s : Q2) : List Str :=
  [(("broad" : Str), ltq (qadd x2 s) b), ("long", ltq (qadd x1 s) a), ("narrow", ltq b x2), ("short", ltq a x1)].filterMap fun z => if z.2 then some z.1 else none
theorem brkW_congr {a b x1 x2 s b' x1' x2' s1 s2 : Q2} (hb : Re b' b) (h1 : Re s1 (qadd x1 s)) (h2 : Re s2 (qadd x2 s)) (pa : 0 < a.2) (p1 : 0 < x1.2) (p2 : 0 < x2.2) :
    ([(("broad" : Str), ltq s2 b'), ("long", ltq s1 a), ("narrow", ltq b' x2), ("short", ltq a x1)].filterMap fun z => if z.2 then some z.1 else none) = brkW a b x1 x2 s := by
  unfold brkW
  rw [ltq_congr h2 hb, ltq_congr h1 (Re.refl pa), ltq_congr hb (Re.refl p2)]
theorem brkW_len (a b x1 x2 s : Q2) : (brkW a b x1 x2 s).length ≤ 4 := by
  unfold brkW
  exact Nat.le_trans (List.length_filterMap_le _ _) (by simp)
theorem grdQ_eq (b g : Q2) (i : Nat) : grdQ b g i = qadd b ((i : Int) * g.1, g.2) := by
  unfold grdQ qmul
  show qadd b (g.1 * (i : Int), g.2 * 1) = _
  rw [Int.mul_one, Int.mul_comm]
def sp_broken (K : PySem.W.Frag) (CM CL CG : Addr) : Sp := fun vs H Q _ => ∃ (p t f s L1 L2 : Addr) (f1 f2 : Addr) (i w k j m : Nat) (g a b x1 x2 y : Q2) (zs ys : List Q2), vs = [.ref p, .ref t, .ref f, .ref s] ∧ GrdAt K CM CL CG H p j L1 L2 g ∧ LadE K CM CL H L1 k zs ∧ LadE K CM CL H L2 k ys ∧ SqT K H t [.int (i : Int), .int (w : Int)] ∧ zs[i]? = some a ∧ ys[w]? = some b ∧ SqT K H f [.ref f1, .ref f2] ∧ QAt CM H f1 m x1 ∧ QAt CM H f2 m x2 ∧ QAt CM H s m y ∧
  i ≤ 24 ∧ 0 < j ∧ j ≤ 1000 ∧ 0 < k ∧ k ≤ 1000 ∧ 0 < m ∧ m ≤ 1000 ∧ ∀ (T : Addr) (H' : Hp), Same H H' → H' T = some (.tup ((brkW a (grdQ b g i) x1 x2 y).map V.str)) → Q (.ref T) H'
/-! ### the laws' sides of a grid -/
structure SidesAt (H : Hp) (h p : Addr) (k : Nat) (zs ys : List Q2) (g : Q2) : Prop where
  ob : ∃ l1 l2 v us ws, H p = some (.lst [.ref l1, .ref l2, v]) ∧ H l1 = some (.lst us) ∧ H l2 = some (.lst ws) ∧ Tqs H k us zs ∧ Tqs H k ws ys ∧ TQ H v 20 g ∧ p ≠ h ∧ l1 ≠ h ∧ l2 ≠ h
  l0 : 0 < zs.length
  l1 : zs.length ≤ 8
  m0 : 0 < ys.length
  m1 : ys.length ≤ 8
theorem SidesAt.same {H H' : Hp} {h p : Addr} {k : Nat} {zs ys : List Q2} {g : Q2} (a : SidesAt H h p k zs ys g) (s : Same H H') : SidesAt H' h p k zs ys g := by
  obtain ⟨⟨l1, l2, v, us, ws, a1, a2, a3, a4, a5, a6, a7⟩, b1, b2, b3, b4⟩ := a
  exact ⟨⟨l1, l2, v, us, ws, s _ _ a1, s _ _ a2, s _ _ a3, a4.same s, a5.same s, a6.same s, a7⟩, b1, b2, b3, b4⟩
theorem SidesAt.kp {H H' : Hp} {h p : Addr} {k n : Nat} {zs ys : List Q2} {g : Q2} (a : SidesAt H h p k zs ys g) (hh : HandAt H h n) (s : Kp h H H') : SidesAt H' h p k zs ys g := by
  obtain ⟨⟨l1, l2, v, us, ws, a1, a2, a3, a4, a5, a6, a7, a8, a9⟩, b1, b2, b3, b4⟩ := a
  exact ⟨⟨l1, l2, v, us, ws, s _ _ a1 a7, s _ _ a2 a8, s _ _ a3 a9, a4.kp hh s, a5.kp hh s, a6.kp hh s, a7, a8, a9⟩, b1, b2, b3, b4⟩
def sp_gr : Sp := fun vs H Q _ => ∃ (h : Addr) (n : Nat), vs = [.ref h] ∧ HandAt H h n ∧ n < 90000 ∧ ∀ (v : V) (z : Q2) (H' : Hp), HandAt H' h (n + 3) → Kp h H H' → TQ H' v 20 z → Q v H'
def sp_lbroad : Sp := fun vs H Q _ => ∃ (h p : Addr) (i w k : Nat) (zs ys : List Q2) (g b : Q2), vs = [.ref p, .int (i : Int), .int (w : Int)] ∧ SidesAt H h p k zs ys g ∧ ys[w]? = some b ∧ i ≤ 24 ∧ 0 < k ∧ k ≤ 1000 ∧ ∀ (v : V) (z : Q2) (H' : Hp), Same H H' → TQ H' v (k + 26) z → Re z (grdQ b g i) → Q v H'
def sp_lrules (K : PySem.W.Frag) : Sp := fun vs H Q _ => ∃ (h p t f : Addr) (v1 v2 s : V) (i w k m : Nat) (zs ys : List Q2) (g a b x1 x2 y : Q2), vs = [.ref p, .ref t, .ref f, s] ∧ SidesAt H h p k zs ys g ∧ SqT K H t [.int (i : Int), .int (w : Int)] ∧ zs[i]? = some a ∧ ys[w]? = some b ∧ i ≤ 24 ∧ SqT K H f [v1, v2] ∧ TQ H v1 m x1 ∧ TQ H v2 m x2 ∧ TQ H s m y ∧ 0 < k ∧ k ≤ 1000 ∧ 0 < m ∧ m ≤ 1000 ∧
  ∀ (T : Addr) (H' : Hp), Same H H' → H' T = some (.tup ((brkW a (grdQ b g i) x1 x2 y).map V.str)) → Q (.ref T) H'
def sp_footof (K : PySem.W.Frag) : Sp := fun vs H Q _ => ∃ (h p t : Addr) (s : V) (i w k n : Nat) (zs ys : List Q2) (g a b y : Q2), vs = [.ref h, .ref p, .ref t, s] ∧ HandAt H h n ∧ n < 10000 ∧ SidesAt H h p k zs ys g ∧ SqT K H t [.int (i : Int), .int (w : Int)] ∧ zs[i]? = some a ∧ ys[w]? = some b ∧ i ≤ 24 ∧ TQ H s 20 y ∧ 0 < k ∧ k ≤ 1000 ∧
  ∀ (T : Addr) (v1 v2 : V) (x1 x2 : Q2) (H' : Hp), HandAt H' h (n + 4) → Kp h H H' → H' T = some (.tup [v1, v2]) → TQ H' v1 (k + 80) x1 → TQ H' v2 (k + 80) x2 → Q (.ref T) H'
theorem ne_fields {H : Hp} {q p C D dq dp : Addr} {t u : Int} (hq : H q = some (.ins C dq (mf t u))) (hp : H p = some (.ins D dp [])) : q ≠ p := by
  intro e
  subst e
  rw [hq] at hp
  cases hp
theorem ne_fields2 {H : Hp} {q p C D dq dp : Addr} {t u : Int} {a b : V} (hq : H q = some (.ins C dq (mf t u))) (hp : H p = some (.ins D dp (putF "breadths" b (putF "lengths" a [])))) : q ≠ p := by
  intro e
  subst e
  rw [hq] at hp
  have e2 : mf t u = putF "breadths" b (putF "lengths" a []) := by cases hp
  have h1 := mf_top t u
  rw [e2, lookup_putF, if_neg (by decide +kernel), lookup_putF, if_neg (by decide +kernel)] at h1
  cases h1
/-- four words, each told or not -/
def wordsO (b1 b2 b3 b4 : Bool) : List (Option V) := [if b1 then some (.str "broad") else none, if b2 then some (.str "long") else none, if b3 then some (.str "narrow") else none, if b4 then some (.str "short") else none]
theorem words_len (b1 b2 b3 b4 : Bool) : (wordsO b1 b2 b3 b4).length = 4 := rfl
theorem words_fm {a b x1 x2 s : Q2} : (wordsO (ltq (qadd x2 s) b) (ltq (qadd x1 s) a) (ltq b x2) (ltq a x1)).filterMap _root_.id = (brkW a b x1 x2 s).map V.str := by
  unfold wordsO brkW
  cases ltq (qadd x2 s) b <;> cases ltq (qadd x1 s) a <;> cases ltq b x2 <;> cases ltq a x1 <;> rfl
theorem words4 {K : PySem.W.Frag} {H : Hp} {t1 t2 t3 t4 : Addr} {b1 b2 b3 b4 : Bool} (h1 : H t1 = some (.tup [.str "broad", .bl b1])) (h2 : H t2 = some (.tup [.str "long", .bl b2])) (h3 : H t3 = some (.tup [.str "narrow", .bl b3])) (h4 : H t4 = some (.tup [.str "short", .bl b4])) :
    ∀ (n : Nat) (v : V) (o : Option V), [V.ref t1, V.ref t2, V.ref t3, V.ref t4][n]? = some v → (wordsO b1 b2 b3 b4)[n]? = some o → ∃ t wd b, v = .ref t ∧ H t = some (.tup [.str wd, .bl b]) ∧ o = if b then some (.str wd) else none := by
  intro n v o hv ho
  match n, hv, ho with
  | 0, hv, ho => cases hv; cases ho; exact ⟨_, _, _, rfl, h1, rfl⟩
  | 1, hv, ho => cases hv; cases ho; exact ⟨_, _, _, rfl, h2, rfl⟩
  | 2, hv, ho => cases hv; cases ho; exact ⟨_, _, _, rfl, h3, rfl⟩
  | 3, hv, ho => cases hv; cases ho; exact ⟨_, _, _, rfl, h4, rfl⟩
  | n + 4, hv, ho => simp at hv
theorem words_fm' (b1 b2 b3 b4 : Bool) : (wordsO b1 b2 b3 b4).filterMap _root_.id = ([(("broad" : Str), b1), ("long", b2), ("narrow", b3), ("short", b4)].filterMap fun z => if z.2 then some z.1 else none).map V.str := by
  unfold wordsO
  cases b1 <;> cases b2 <;> cases b3 <;> cases b4 <;> rfl
theorem sqt_nl {K : PySem.W.Frag} {H H' : Hp} {a : Addr} {xs : List V} (s : SqT K H a xs) (k : Nl H H') : SqT K H' a xs := by
  rcases s with (s | ⟨o, s⟩) | s
  · exact .inl (.inl (k _ _ s rfl))
  · exact .inl (.inr ⟨o, k _ _ s rfl⟩)
  · exact .inr s
end My
namespace My
open PySem PySem.Spec PyProof.Rows L2
/-! ### sizes by fractions -/
/-- f holds of the first ones alone -/
def DownQ (f : Q2 → Bool) (zs : List Q2) : Prop := ∀ (i j : Nat) (a b : Q2), i < j → zs[i]? = some a → zs[j]? = some b → f b = true → f a = true
theorem DownQ.tail {f : Q2 → Bool} {x : Q2} {zs : List Q2} (h : DownQ f (x :: zs)) : DownQ f zs := fun i j a b hij ha hb hf => h (i + 1) (j + 1) a b (by omega) (by simpa using ha) (by simpa using hb) hf
theorem cntQ (f : Q2 → Bool) : ∀ {zs : List Q2}, DownQ f zs → ∀ (k : Nat) (a : Q2), zs[k]? = some a → (f a = true ↔ k < zs.countP f)
  | [], _, k, a, h => by simp at h
  | x :: zs, hd, k, a, h => by
    rw [List.countP_cons]
    cases e : f x with
    | true =>
      rw [if_pos rfl]
      cases k with
      | zero =>
        have : x = a := by simpa using h
        subst this
        simp [e]
      | succ k =>
        have := cntQ f hd.tail k a (by simpa using h)
        rw [this]
        omega
    | false =>
      rw [if_neg (by simp)]
      have z0 : zs.countP f = 0 := by
        rw [List.countP_eq_zero]
        intro y hy q
        obtain ⟨n, hn⟩ := List.mem_iff_getElem?.mp hy
        have := hd 0 (n + 1) x y (by omega) rfl (by simpa using hn) q
        rw [e] at this
        cases this
      rw [z0]
      have fa : f a = false := by
        cases k with
        | zero =>
          have : x = a := by simpa using h
          rw [← this]; exact e
        | succ k =>
          cases q : f a with
          | false => rfl
          | true =>
            have := hd 0 (k + 1) x a (by omega) rfl h q
            rw [e] at this
            cases this
      rw [fa]
      simp
theorem down_lt {zs : List Q2} {x : Q2} (h : RiseQ zs) (hp : ∀ z ∈ zs, 0 < z.2) (hx : 0 < x.2) : DownQ (fun a => ltq a x) zs := fun i j a b hij ha hb hf =>
  ltq_trans (hp b (List.mem_of_getElem? hb)) (hp a (List.mem_of_getElem? ha)) hx (rise_ltq h hp hij ha hb) hf
theorem leq_trans_lt {a b c : Q2} (ha : 0 < a.2) (hb : 0 < b.2) (hc : 0 < c.2) (h : ltq a b = true) (g : leq b c = true) : leq a c = true := by
  rw [leq_not] at g ⊢
  have g' : ltq c b = false := by simpa using g
  cases e : ltq c a with
  | false => rfl
  | true =>
    rw [ltq_trans ha hc hb e h] at g'
    cases g'
theorem down_le {zs : List Q2} {x : Q2} (h : RiseQ zs) (hp : ∀ z ∈ zs, 0 < z.2) (hx : 0 < x.2) : DownQ (fun a => leq a x) zs := fun i j a b hij ha hb hf =>
  leq_trans_lt (hp a (List.mem_of_getElem? ha)) (hp b (List.mem_of_getElem? hb)) hx (rise_ltq h hp hij ha hb) hf
/-- the count is the place of the first of which f does not hold -/
theorem cntQ_is {f : Q2 → Bool} {zs : List Q2} (hd : DownQ f zs) {k : Nat} (hk : k ≤ zs.length) (h1 : ∀ j a, j < k → zs[j]? = some a → f a = true) (h2 : ∀ a, zs[k]? = some a → f a = false) : zs.countP f = k := by
  have le : zs.countP f ≤ zs.length := List.countP_le_length
  rcases Nat.lt_trichotomy (zs.countP f) k with h | h | h
  · obtain ⟨a, ha⟩ := ge2 (zs := zs) (n := zs.countP f) (by omega)
    have := (cntQ f hd _ a ha).mp (h1 _ a h ha)
    omega
  · exact h
  · obtain ⟨a, ha⟩ := ge2 (zs := zs) (n := k) (by omega)
    have := (cntQ f hd _ a ha).mpr h
    rw [h2 a ha] at this
    cases this
section
variable {zs : List Q2} {r : Str} {lo hi : Option Q2} {x : Q2}
theorem sizeQ_up (hin : inO lo hi x = true) : sizeQ zs "up" lo hi x = if zs.countP (fun a => ltq a x) < zs.length then some (zs.countP fun a => ltq a x) else none := by
  have e : sizeR zs "up" x = (zs.countP (fun a => ltq a x) : Nat) := by
    unfold sizeR
    rw [if_pos rfl]
  unfold sizeQ
  rw [if_pos hin, e]
  by_cases h : zs.countP (fun a => ltq a x) < zs.length
  · rw [if_pos ⟨by omega, by omega⟩, if_pos h]
    rfl
  · rw [if_neg (fun z => h (by omega)), if_neg h]
theorem sizeQ_dn (hin : inO lo hi x = true) : sizeQ zs "down" lo hi x = if 0 < zs.countP (fun a => leq a x) then some (zs.countP (fun a => leq a x) - 1) else none := by
  have le : zs.countP (fun a => leq a x) ≤ zs.length := List.countP_le_length
  have nd : ¬ (("down" : Str) = "up") := by decide +kernel
  have e : sizeR zs "down" x = (zs.countP (fun a => leq a x) : Nat) - 1 := by
    unfold sizeR
    rw [if_neg nd, if_pos rfl]
  unfold sizeQ
  rw [if_pos hin, e]
  by_cases h : 0 < zs.countP (fun a => leq a x)
  · rw [if_pos ⟨by omega, by omega⟩, if_pos h]
    congr 1
    omega
  · rw [if_neg (fun z => h (by omega)), if_neg h]
theorem sizeQ_nr (hin : inO lo hi x = true) (h1 : ¬ r = "up") (h2 : ¬ r = "down") (l0 : 0 < zs.length) : sizeQ zs r lo hi x = some ((midq zs).countP fun a => leq a x) := by
  have le : (midq zs).countP (fun a => leq a x) ≤ (midq zs).length := List.countP_le_length
  rw [midq_len] at le
  have e : sizeR zs r x = ((midq zs).countP (fun a => leq a x) : Nat) := by
    unfold sizeR
    rw [if_neg h1, if_neg h2]
  unfold sizeQ
  rw [if_pos hin, e, if_pos ⟨by omega, by omega⟩]
  rfl
end
end My
namespace My
open PySem PySem.Spec PyProof.Rows L2
/-! ### what stood ahead, wanted at a later heap: the step first -/
section
variable {K : PySem.W.Frag} {C CM CL CG p q h a L1 L2 : Addr} {H H' H1 : Hp} {v : V} {k j n : Nat} {z : Q2} {vs : List V} {zs ys : List Q2} {o : HO} {e : Option Q2} {r : Str} {lo hi : Option Q2}
theorem TQ.s (s : Same H H') (t : TQ H v k z) : TQ H' v k z := t.same s
theorem TQ.kq (s : Kp h H H') (hh : HandAt H h n) (t : TQ H v k z) : TQ H' v k z := t.kp hh s
theorem TQ.nq (s : Nl H H') (t : TQ H v k z) : TQ H' v k z := t.nl s
theorem Tqs.s (s : Same H H') (t : Tqs H k vs zs) : Tqs H' k vs zs := t.same s
theorem Tqs.kq (s : Kp h H H') (hh : HandAt H h n) (t : Tqs H k vs zs) : Tqs H' k vs zs := t.kp hh s
theorem QAt.s (s : Same H H') (t : QAt C H p k z) : QAt C H' p k z := t.same s
theorem QAt.kq (s : Kp h H H') (hh : HandAt H h n) (t : QAt C H p k z) : QAt C H' p k z := t.kp hh s
theorem Mks.s (s : Same H H') (t : Mks C H k vs zs) : Mks C H' k vs zs := t.same s
theorem Mks.kq (s : Kp h H H') (hh : HandAt H h n) (t : Mks C H k vs zs) : Mks C H' k vs zs := t.kp hh s
theorem QO.s (s : Same H H') (t : QO C H k v e) : QO C H' k v e := t.same s
theorem QO.kq (s : Kp h H H') (hh : HandAt H h n) (t : QO C H k v e) : QO C H' k v e := t.kp hh s
theorem TOq.s (s : Same H H') (t : TOq H k v e) : TOq H' k v e := t.same s
theorem TOq.kq (s : Kp h H H') (hh : HandAt H h n) (t : TOq H k v e) : TOq H' k v e := t.kp hh s
theorem TOq.mono (l : k ≤ j) : ∀ {e : Option Q2}, TOq H k v e → TOq H j v e
  | none, h => h
  | some _, h => TQ.mono h l
theorem LadAt.s (s : Same H H') (t : LadAt K CM CL H p k zs r lo hi) : LadAt K CM CL H' p k zs r lo hi := t.same s
theorem LadAt.kq (s : Kp h H H') (hh : HandAt H h n) (t : LadAt K CM CL H p k zs r lo hi) : LadAt K CM CL H' p k zs r lo hi := t.kp hh s
theorem LadAt.mono (t : LadAt K CM CL H p k zs r lo hi) (l : k ≤ j) : LadAt K CM CL H p j zs r lo hi := by
  obtain ⟨⟨dx, T, ps, u, w, h1, h2, h3, h4, h5⟩, a1, a2, a3, a4, a5⟩ := t
  exact ⟨⟨dx, T, ps, u, w, h1, h2, h3.mono l, h4.mono l, h5.mono l⟩, a1, a2, a3, a4, a5⟩
theorem GrdAt.s (s : Same H H') (t : GrdAt K CM CL CG H p k L1 L2 z) : GrdAt K CM CL CG H' p k L1 L2 z := t.same s
theorem GrdAt.kq (s : Kp h H H') (hh : HandAt H h n) (t : GrdAt K CM CL CG H p k L1 L2 z) : GrdAt K CM CL CG H' p k L1 L2 z := t.kp hh s
theorem SidesAt.s (s : Same H H') (t : SidesAt H h p k zs ys z) : SidesAt H' h p k zs ys z := t.same s
theorem SidesAt.kq (s : Kp h H H') (hh : HandAt H h n) (t : SidesAt H h p k zs ys z) : SidesAt H' h p k zs ys z := t.kp hh s
theorem HandAt.s (s : Same H H') (t : HandAt H h n) : HandAt H' h n := t.same s
theorem sqt_s (s : Same H H') (t : SqT K H a vs) : SqT K H' a vs := s.sqt t
theorem sqt_k (s : Kp h H H') (hh : HandAt H h n) (t : SqT K H a vs) : SqT K H' a vs := sqt_kp t hh s
theorem sql_s (s : Same H H') (t : SqL K H a vs) : SqL K H' a vs := s.seq t
theorem sql_k (s : Kp h H H') (ne : a ≠ h) (t : SqL K H a vs) : SqL K H' a vs := s.seq ne t
theorem hp_u {u : HO} {b : Addr} (np : H b = none) (t : H p = some o) : upd H b u p = some o := My.up1 np t
theorem hp_s (s : Same H H') (t : H p = some o) : H' p = some o := s _ _ t
theorem hp_k (s : Kp h H H') (hh : HandAt H h n) (no : notHand o = true) (t : H p = some o) : H' p = some o := s.get hh t no
theorem hp_l (s : Kp h H H') (ne : p ≠ h) (t : H p = some o) : H' p = some o := s _ _ t ne
theorem TQ.u {u : HO} {b : Addr} (np : H b = none) (t : TQ H v k z) : TQ (upd H b u) v k z := t.same (same1 np)
theorem Tqs.u {u : HO} {b : Addr} (np : H b = none) (t : Tqs H k vs zs) : Tqs (upd H b u) k vs zs := t.same (same1 np)
theorem QAt.u {u : HO} {b : Addr} (np : H b = none) (t : QAt C H p k z) : QAt C (upd H b u) p k z := t.same (same1 np)
theorem Mks.u {u : HO} {b : Addr} (np : H b = none) (t : Mks C H k vs zs) : Mks C (upd H b u) k vs zs := t.same (same1 np)
theorem QO.u {u : HO} {b : Addr} (np : H b = none) (t : QO C H k v e) : QO C (upd H b u) k v e := t.same (same1 np)
theorem TOq.u {u : HO} {b : Addr} (np : H b = none) (t : TOq H k v e) : TOq (upd H b u) k v e := t.same (same1 np)
theorem LadAt.u {u : HO} {b : Addr} (np : H b = none) (t : LadAt K CM CL H p k zs r lo hi) : LadAt K CM CL (upd H b u) p k zs r lo hi := t.same (same1 np)
theorem GrdAt.u {u : HO} {b : Addr} (np : H b = none) (t : GrdAt K CM CL CG H p k L1 L2 z) : GrdAt K CM CL CG (upd H b u) p k L1 L2 z := t.same (same1 np)
theorem SidesAt.u {u : HO} {b : Addr} (np : H b = none) (t : SidesAt H h p k zs ys z) : SidesAt (upd H b u) h p k zs ys z := t.same (same1 np)
theorem HandAt.u {u : HO} {b : Addr} (np : H b = none) (t : HandAt H h n) : HandAt (upd H b u) h n := t.same (same1 np)
theorem sqt_u {u : HO} {b : Addr} (np : H b = none) (t : SqT K H a vs) : SqT K (upd H b u) a vs := (same1 np).sqt t
theorem sql_u {u : HO} {b : Addr} (np : H b = none) (t : SqL K H a vs) : SqL K (upd H b u) a vs := (same1 np).seq t
theorem QO.monoR (t : QO C H k v e) (l : k ≤ j) : QO C H j v e := QO.mono l t
theorem TOq.monoR (t : TOq H k v e) (l : k ≤ j) : TOq H j v e := TOq.mono l t
theorem hand_ne (np : H p = none) (a : HandAt H h n) : p ≠ h := a.ne np
theorem same_k (k : Kp h H1 H') (nh : H h = none) (s : Same H H1) : Same H H' := s.ofKp nh k
end
theorem TQ.lit {H : Hp} {p : Addr} {a b : Int} (h : H p = some (.tup [.int a, .int b])) (hb : 0 < b) (s1 : Sz 31 a) (s2 : Sz 31 b) : TQ H (.ref p) 31 (a, b) := ⟨p, rfl, h, hb, s1, s2⟩
theorem eqv_nil : PyData.eqv (.list (([] : List Int).map PyData.int)) (.list []) = true := by
  simp [PyData.eqv, PyData.eqvAll]
theorem eqv_cons (z : Int) (zs : List Int) : PyData.eqv (.list ((z :: zs).map PyData.int)) (.list []) = false := by
  simp [PyData.eqv, PyData.eqvAll]
theorem dpL {K : PySem.W.Frag} {H : Hp} {p : Addr} {zs : List Int} (h : H p = some (.lst (zs.map V.int))) : Dp K H (.ref p) (.list (zs.map PyData.int)) := .lst (SqL.of h) (dpI zs)
theorem layI : ∀ zs : List Int, PyData.canLayAll0 (zs.map PyData.int) = true
  | [] => rfl
  | z :: zs => by
    show (true && PyData.canLayAll0 (zs.map PyData.int)) = true
    rw [layI zs]; rfl
theorem shL (zs : List Int) : SeqAt.shaped (.list (zs.map PyData.int)) = true := by
  have h := ints_depth zs
  have e1 : (PyData.list (zs.map PyData.int)).depth ≤ 64 := by
    show PyData.depthAll (zs.map PyData.int) + 1 ≤ 64
    omega
  have e2 : (PyData.list (zs.map PyData.int)).canLay0 = true := layI zs
  unfold SeqAt.shaped
  rw [e2, decide_eq_true e1]
  rfl
theorem dpN {K : PySem.W.Frag} {H : Hp} {p : Addr} (h : H p = some (.lst [])) : Dp K H (.ref p) (.list []) := .lst (SqL.of h) .nil
/-- each of these values is a fraction -/
def AllTQ (H : Hp) (k : Nat) (vs : List V) : Prop := ∀ x ∈ vs, ∃ z, TQ H x k z
theorem AllTQ.nil {H : Hp} {k : Nat} : AllTQ H k [] := fun x hx => by simp at hx
theorem AllTQ.cons {H : Hp} {k : Nat} {v : V} {z : Q2} {vs : List V} (t : TQ H v k z) (m : AllTQ H k vs) : AllTQ H k (v :: vs) := fun x hx => by
  rcases List.mem_cons.mp hx with e | e
  · rw [e]; exact ⟨z, t⟩
  · exact m x e
theorem AllTQ.app {H : Hp} {k : Nat} {vs ws : List V} (m : AllTQ H k vs) (m' : AllTQ H k ws) : AllTQ H k (vs ++ ws) := fun x hx => by
  rcases List.mem_append.mp hx with e | e
  · exact m x e
  · exact m' x e
theorem of_tq {K : PySem.W.Frag} {H : Hp} {Q : VK} {E : XK} {h l : Addr} {n k : Nat} {xs : List V} (hh : HandAt H h n) (hn : n < 100000) (hl : SqL K H l xs) (ne : l ≠ h) (l0 : 0 < xs.length) (l1 : xs.length ≤ 1000) (all : AllTQ H k xs)
    (f : ∀ (v : V) (z : Q2) (H' : Hp), HandAt H' h (n + 1) → Kp h H H' → TQ H' v k z → Q v H') : sp_of K [.ref h, .ref l] H Q E :=
  ⟨h, l, n, xs, rfl, hh, hn, hl, ne, l0, l1, fun i x H' hx hh' k' => by
    obtain ⟨z, t⟩ := all x (List.mem_of_getElem? hx)
    exact f x z H' hh' k' (t.kp hh k')⟩
/-! ### a rule, a least and a most, as the laws draw them in fractions -/
structure ChartAt (H : Hp) (T : Addr) (k : Nat) (r : Str) (lo hi : Option Q2) : Prop where
  ob : ∃ u w, H T = some (.tup [.str r, u, w]) ∧ TOq H k u lo ∧ TOq H k w hi
  rule : IsRule r
  span : spanB lo hi = true
section
variable {H H' : Hp} {T h : Addr} {k n : Nat} {r : Str} {lo hi : Option Q2}
theorem ChartAt.same (c : ChartAt H T k r lo hi) (s : Same H H') : ChartAt H' T k r lo hi := by
  obtain ⟨⟨u, w, h1, h2, h3⟩, h4, h5⟩ := c
  exact ⟨⟨u, w, s _ _ h1, h2.same s, h3.same s⟩, h4, h5⟩
theorem ChartAt.kp (c : ChartAt H T k r lo hi) (hh : HandAt H h n) (s : Kp h H H') : ChartAt H' T k r lo hi := by
  obtain ⟨⟨u, w, h1, h2, h3⟩, h4, h5⟩ := c
  exact ⟨⟨u, w, s.get hh h1 rfl, h2.kp hh s, h3.kp hh s⟩, h4, h5⟩
theorem ChartAt.u {u : HO} {b : Addr} (np : H b = none) (c : ChartAt H T k r lo hi) : ChartAt (upd H b u) T k r lo hi := c.same (same1 np)
theorem ChartAt.s (s : Same H H') (c : ChartAt H T k r lo hi) : ChartAt H' T k r lo hi := c.same s
theorem ChartAt.kq (s : Kp h H H') (hh : HandAt H h n) (c : ChartAt H T k r lo hi) : ChartAt H' T k r lo hi := c.kp hh s
end
def PosE (o : Option Q2) : Prop := ∀ a, o = some a → 0 < a.2
theorem TOq.posE {H : Hp} {k : Nat} {v : V} {e : Option Q2} (t : TOq H k v e) : PosE e := fun a ea => by
  subst ea
  exact TQ.pos t
theorem midq_pos : ∀ {zs : List Q2}, (∀ z ∈ zs, 0 < z.2) → ∀ z ∈ midq zs, 0 < z.2
  | [], _, z, hz => by simp [midq] at hz
  | [_], _, z, hz => by simp [midq] at hz
  | a :: b :: r, hp, z, hz => by
    have hz' : z ∈ qhalf a b :: midq (b :: r) := hz
    rcases List.mem_cons.mp hz' with e | e
    · rw [e, qhalf_eq]
      have := hp a (by simp)
      have := hp b (by simp)
      have := Int.mul_pos (hp a (by simp)) (hp b (by simp))
      show 0 < a.2 * b.2 * 2
      omega
    · exact midq_pos (fun y hy => hp y (by simp [hy])) z e
theorem inO_congr {lo hi : Option Q2} {x x' : Q2} (hl : PosE lo) (hh : PosE hi) (h : Re x x') : inO lo hi x = inO lo hi x' := by
  have e1 : loOk lo x = loOk lo x' := by
    cases lo with
    | none => rfl
    | some a =>
      show (!ltq x a) = (!ltq x' a)
      rw [ltq_congr h (Re.refl (hl a rfl))]
  have e2 : hiOk hi x = hiOk hi x' := by
    cases hi with
    | none => rfl
    | some a =>
      show (!ltq a x) = (!ltq a x')
      rw [ltq_congr (Re.refl (hh a rfl)) h]
  unfold inO
  rw [e1, e2]
theorem sizeQ_congr {zs : List Q2} {r : Str} {lo hi : Option Q2} {x x' : Q2} (hp : ∀ z ∈ zs, 0 < z.2) (hl : PosE lo) (hh : PosE hi) (h : Re x x') : sizeQ zs r lo hi x = sizeQ zs r lo hi x' := by
  have e1 := inO_congr hl hh h
  have e2 : sizeR zs r x = sizeR zs r x' := by
    have c1 : zs.countP (fun a => ltq a x) = zs.countP (fun a => ltq a x') := List.countP_congr fun a ha => by rw [ltq_congr (Re.refl (hp a ha)) h]
    have c2 : zs.countP (fun a => leq a x) = zs.countP (fun a => leq a x') := List.countP_congr fun a ha => by rw [leq_congr (Re.refl (hp a ha)) h]
    have c3 : (midq zs).countP (fun a => leq a x) = (midq zs).countP (fun a => leq a x') := List.countP_congr fun a ha => by rw [leq_congr (Re.refl (midq_pos hp a ha)) h]
    unfold sizeR
    rw [c1, c2, c3]
  unfold sizeQ
  rw [e1, e2]
theorem sizeQ_lt {zs : List Q2} {r : Str} {lo hi : Option Q2} {x : Q2} {i : Nat} (h : sizeQ zs r lo hi x = some i) : i < zs.length := by
  unfold sizeQ at h
  split at h
  · split at h
    · rename_i c
      have e := Option.some.inj h
      omega
    · cases h
  · cases h
def sp_chart : Sp := fun vs H Q _ => ∃ (h l : Addr) (n k : Nat) (us : List V) (zs : List Q2), vs = [.ref h, .ref l] ∧ HandAt H h n ∧ n < 10000 ∧ l ≠ h ∧ H l = some (.lst us) ∧ Tqs H k us zs ∧ 0 < k ∧ k ≤ 1000 ∧ 0 < zs.length ∧ zs.length ≤ 24 ∧
  ∀ (T : Addr) (r : Str) (lo hi : Option Q2) (H' : Hp), HandAt H' h (n + 3) → Kp h H H' → ChartAt H' T (k + 40) r lo hi → Q (.ref T) H'
def sp_lladder (K : PySem.W.Frag) (CM CL : Addr) : Sp := fun vs H Q _ => ∃ (l T : Addr) (k : Nat) (us : List V) (zs : List Q2) (r : Str) (lo hi : Option Q2), vs = [.ref l, .ref T] ∧ H l = some (.lst us) ∧ Tqs H k us zs ∧ ChartAt H T (k + 40) r lo hi ∧ 0 < k ∧ k ≤ 1000 ∧ 0 < zs.length ∧ zs.length ≤ 24 ∧ RiseQ zs ∧
  ∀ (p : Addr) (H' : Hp), Same H H' → LadAt K CM CL H' p (k + 40) zs r lo hi → Q (.ref p) H'
def sp_lsizeQ : Sp := fun vs H Q _ => ∃ (l T : Addr) (v : V) (k j m : Nat) (us : List V) (zs : List Q2) (r : Str) (lo hi : Option Q2) (x : Q2), vs = [.ref l, .ref T, v] ∧ H l = some (.lst us) ∧ Tqs H k us zs ∧ ChartAt H T j r lo hi ∧ TQ H v m x ∧ 0 < k ∧ k ≤ 1000 ∧ 0 < j ∧ j ≤ 1000 ∧ 0 < m ∧ m ≤ 1000 ∧ 0 < zs.length ∧ zs.length ≤ 24 ∧ RiseQ zs ∧
  ∀ H', Same H H' → Q (optI (sizeQ zs r lo hi x)) H'
def sp_nearQ : Sp := fun vs H Q _ => ∃ (h l : Addr) (n k : Nat) (us : List V) (zs : List Q2), vs = [.ref h, .ref l] ∧ HandAt H h n ∧ n < 10000 ∧ l ≠ h ∧ H l = some (.lst us) ∧ Tqs H k us zs ∧ 20 ≤ k ∧ k ≤ 400 ∧ 0 < zs.length ∧ zs.length ≤ 24 ∧
  ∀ (v : V) (z : Q2) (H' : Hp), HandAt H' h (n + 4) → Kp h H H' → TQ H' v (2 * k + 40) z → Q v H'
/-- a pair of sizes, or None -/
def OwnV (H : Hp) (v : V) : Option (Nat × Nat) → Prop
  | none => v = .non
  | some x => ∃ T, v = .ref T ∧ H T = some (.tup [.int (x.1 : Int), .int (x.2 : Int)])
theorem OwnV.s {H H' : Hp} {v : V} (s : Same H H') : ∀ {o : Option (Nat × Nat)}, OwnV H v o → OwnV H' v o
  | none, h => h
  | some _, ⟨T, h1, h2⟩ => ⟨T, h1, s _ _ h2⟩
theorem OwnV.alike {K : PySem.W.Frag} {H : Hp} {v w : V} : ∀ {o : Option (Nat × Nat)}, OwnV H v o → OwnV H w o → SameV K H 1 v w
  | none, h, g => by
    cases h; cases g
    exact SameV.atom (.inr (.inr (.inl rfl))) 1
  | some x, ⟨T, h1, h2⟩, ⟨T', g1, g2⟩ => by
    subst h1 g1
    exact SameV.ints (ss := [(x.1 : Int), (x.2 : Int)]) 0 (SqT.of h2) (SqT.of g2) (Nat.le_of_ble_eq_true rfl)
def ownQ (zs : List Q2) (r1 : Str) (lo1 hi1 : Option Q2) (ys : List Q2) (r2 : Str) (lo2 hi2 : Option Q2) (g x1 x2 : Q2) : Option (Nat × Nat) :=
  match sizeQ zs r1 lo1 hi1 x1 with
  | none => none
  | some i => match sizeQ ys r2 lo2 hi2 (qsub x2 (qmul g ((i : Int), 1))) with
    | none => none
    | some w => some (i, w)
def sp_own (K : PySem.W.Frag) (CM CL CG : Addr) : Sp := fun vs H Q _ => ∃ (p f L1 L2 f1 f2 : Addr) (k j m : Nat) (zs ys : List Q2) (r1 r2 : Str) (lo1 hi1 lo2 hi2 : Option Q2) (g x1 x2 : Q2), vs = [.ref p, .ref f] ∧ GrdAt K CM CL CG H p j L1 L2 g ∧ LadAt K CM CL H L1 k zs r1 lo1 hi1 ∧ LadAt K CM CL H L2 k ys r2 lo2 hi2 ∧ SqT K H f [.ref f1, .ref f2] ∧ QAt CM H f1 m x1 ∧ QAt CM H f2 m x2 ∧
  0 < j ∧ j ≤ 100 ∧ 0 < k ∧ k ≤ 300 ∧ 0 < m ∧ m ≤ 500 ∧ ∀ (v : V) (H' : Hp), Same H H' → OwnV H' v (ownQ zs r1 lo1 hi1 ys r2 lo2 hi2 g x1 x2) → Q v H'
def sp_lown (K : PySem.W.Frag) : Sp := fun vs H Q _ => ∃ (h p c c1 c2 f : Addr) (v1 v2 : V) (k j m : Nat) (zs ys : List Q2) (r1 r2 : Str) (lo1 hi1 lo2 hi2 : Option Q2) (g x1 x2 : Q2), vs = [.ref p, .ref c, .ref f] ∧ SidesAt H h p k zs ys g ∧ H c = some (.lst [.ref c1, .ref c2]) ∧ ChartAt H c1 j r1 lo1 hi1 ∧ ChartAt H c2 j r2 lo2 hi2 ∧ SqT K H f [v1, v2] ∧ TQ H v1 m x1 ∧ TQ H v2 m x2 ∧ RiseQ zs ∧ RiseQ ys ∧
  0 < j ∧ j ≤ 900 ∧ 0 < k ∧ k ≤ 900 ∧ 0 < m ∧ m ≤ 500 ∧ ∀ (v : V) (H' : Hp), Same H H' → OwnV H' v (ownQ zs r1 lo1 hi1 ys r2 lo2 hi2 g x1 x2) → Q v H'
theorem own_eq (x g : Q2) (i : Nat) : qadd x (0 - (i : Int) * g.1, g.2) = qsub x (qmul g ((i : Int), 1)) := by
  unfold qadd qsub qmul
  refine Prod.ext ?_ ?_
  · show x.1 * g.2 + (0 - (i : Int) * g.1) * x.2 = x.1 * (g.2 * 1) - (g.1 * (i : Int)) * x.2
    grind
  · show x.2 * g.2 = x.2 * (g.2 * 1)
    grind
theorem midq_rises {zs : List Q2} (h : RiseQ zs) (hp : ∀ z ∈ zs, 0 < z.2) : RiseQ (midq zs) := by
  intro i a b ha hb
  have l := (List.getElem?_eq_some_iff.mp hb).1
  rw [midq_len] at l
  obtain ⟨x, hx⟩ := ge2 (zs := zs) (n := i) (by omega)
  obtain ⟨y, hy⟩ := ge2 (zs := zs) (n := i + 1) (by omega)
  obtain ⟨z, hz⟩ := ge2 (zs := zs) (n := i + 1 + 1) (by omega)
  have ea := midq_get zs i x y hx hy
  have eb := midq_get zs (i + 1) y z hy hz
  have pa := midq_pos hp a (List.mem_of_getElem? ha)
  have pb := midq_pos hp b (List.mem_of_getElem? hb)
  rw [ea] at ha
  cases ha
  rw [eb] at hb
  cases hb
  have px := hp x (List.mem_of_getElem? hx)
  have py := hp y (List.mem_of_getElem? hy)
  have pz := hp z (List.mem_of_getElem? hz)
  have h1 : ltq (qhalf x y) y = true := by rw [(half_lo px py).2.1]; exact h i x y hx hy
  have h2 : ltq y (qhalf y z) = true := by rw [(half_lo py pz).1]; exact h (i + 1) y z hy hz
  exact ltq_trans py pa pb h1 h2
theorem down_mid {zs : List Q2} {x : Q2} (h : RiseQ zs) (hp : ∀ z ∈ zs, 0 < z.2) (hx : 0 < x.2) : DownQ (fun a => leq a x) (midq zs) := down_le (midq_rises h hp) (midq_pos hp) hx
theorem half_re {a b z : Q2} (r : Re z (qadd a b)) : Re (z.1, 2 * z.2) (qhalf a b) := by
  obtain ⟨h1, h2, h3⟩ := r
  rw [qhalf_eq]
  refine ⟨by show 0 < 2 * z.2; omega, ?_, ?_⟩
  · have h2 : 0 < a.2 * b.2 := h2
    show 0 < a.2 * b.2 * 2
    omega
  · have h3 : z.1 * (a.2 * b.2) = (a.1 * b.2 + b.1 * a.2) * z.2 := h3
    show z.1 * (a.2 * b.2 * 2) = (a.1 * b.2 + b.1 * a.2) * (2 * z.2)
    grind
/-! ### the numbers of the marks, first and last -/
def upB (zs : List Q2) (x : Q2) : Nat → Bool := fun i => match zs[i]? with | some a => !ltq a x | none => false
def dnB (zs : List Q2) (x : Q2) : Nat → Bool := fun i => match zs[i]? with | some a => !ltq x a | none => false
theorem upB_at {zs : List Q2} {x a : Q2} {i : Nat} (h : zs[i]? = some a) : upB zs x i = !ltq a x := by unfold upB; rw [h]
theorem dnB_at {zs : List Q2} {x a : Q2} {i : Nat} (h : zs[i]? = some a) : dnB zs x i = !ltq x a := by unfold dnB; rw [h]
theorem idx_up {zs : List Q2} {x : Q2} (h : RiseQ zs) (hp : ∀ z ∈ zs, 0 < z.2) (hx : 0 < x.2) : idx zs.length (upB zs x) = [] ∧ ¬ zs.countP (fun a => ltq a x) < zs.length ∨ ∃ r, idx zs.length (upB zs x) = ((zs.countP fun a => ltq a x : Nat) : Int) :: r ∧ zs.countP (fun a => ltq a x) < zs.length := by
  have le : zs.countP (fun a => ltq a x) ≤ zs.length := List.countP_le_length
  have key := cntQ _ (down_lt h hp hx)
  generalize zs.countP (fun a => ltq a x) = c at *
  have er : idx zs.length (upB zs x) = idx zs.length (fun i => decide (c ≤ i)) := by
    unfold idx
    congr 1
    refine List.filter_congr fun i hi => ?_
    have hi : i < zs.length := List.mem_range.mp hi
    rw [upB_at (List.getElem?_eq_getElem hi)]
    have := key i _ (List.getElem?_eq_getElem hi)
    cases e : ltq zs[i] x with
    | true =>
      have : i < c := this.mp e
      rw [decide_eq_false (by omega)]; rfl
    | false =>
      have : ¬ i < c := fun z => by rw [this.mpr z] at e; cases e
      rw [decide_eq_true (by omega)]; rfl
  rw [er]
  unfold idx
  by_cases hc : c < zs.length
  · refine .inr ⟨((List.range' (c + 1) (zs.length - (c + 1))).map fun k : Nat => (k : Int)), ?_, hc⟩
    have e1 : List.range zs.length = List.range' 0 c ++ List.range' c (zs.length - c) := by
      rw [List.range_eq_range']
      have := List.range'_append_1 (s := 0) (m := c) (n := zs.length - c)
      rw [Nat.zero_add] at this
      rw [this]
      congr 1
      omega
    rw [e1, List.filter_append]
    have z1 : (List.range' 0 c).filter (fun i => decide (c ≤ i)) = [] := by
      rw [List.filter_eq_nil_iff]
      intro i hi
      have := List.mem_range'_1.mp hi
      simp
      omega
    have z2 : (List.range' c (zs.length - c)).filter (fun i => decide (c ≤ i)) = List.range' c (zs.length - c) := by
      rw [List.filter_eq_self]
      intro i hi
      have := List.mem_range'_1.mp hi
      simp
      omega
    rw [z1, z2, List.nil_append]
    have e2 : zs.length - c = (zs.length - (c + 1)) + 1 := by omega
    rw [e2, List.range'_succ]
    rfl
  · refine .inl ⟨?_, hc⟩
    rw [List.map_eq_nil_iff, List.filter_eq_nil_iff]
    intro i hi
    have := List.mem_range.mp hi
    simp
    omega
theorem idx_dn {zs : List Q2} {x : Q2} (h : RiseQ zs) (hp : ∀ z ∈ zs, 0 < z.2) (hx : 0 < x.2) : idx zs.length (dnB zs x) = idx zs.length (fun i => decide (i < zs.countP fun a => leq a x)) := by
  have key := cntQ _ (down_le h hp hx)
  generalize zs.countP (fun a => leq a x) = c at *
  unfold idx
  congr 1
  refine List.filter_congr fun i hi => ?_
  have hi : i < zs.length := List.mem_range.mp hi
  rw [dnB_at (List.getElem?_eq_getElem hi)]
  have := key i _ (List.getElem?_eq_getElem hi)
  have e0 : leq zs[i] x = !ltq x zs[i] := leq_not
  rw [← e0]
  cases e : leq zs[i] x with
  | true =>
    have : i < c := this.mp e
    rw [decide_eq_true this]
  | false =>
    have : ¬ i < c := fun z => by rw [this.mpr z] at e; cases e
    rw [decide_eq_false this]
theorem idx_below {n c : Nat} (h : c ≤ n) : idx n (fun i => decide (i < c)) = (List.range c).map fun k : Nat => (k : Int) := by
  unfold idx
  congr 1
  have e1 : List.range n = List.range' 0 c ++ List.range' c (n - c) := by
    rw [List.range_eq_range']
    have := List.range'_append_1 (s := 0) (m := c) (n := n - c)
    rw [Nat.zero_add] at this
    rw [this]
    congr 1
    omega
  rw [e1, List.filter_append]
  have z1 : (List.range' 0 c).filter (fun i => decide (i < c)) = List.range' 0 c := by
    rw [List.filter_eq_self]
    intro i hi
    have := List.mem_range'_1.mp hi
    simp
    omega
  have z2 : (List.range' c (n - c)).filter (fun i => decide (i < c)) = [] := by
    rw [List.filter_eq_nil_iff]
    intro i hi
    have := List.mem_range'_1.mp hi
    simp
    omega
  rw [z1, z2, List.append_nil, List.range_eq_range']
end My
namespace My
open PySem PySem.Spec PyProof.Rows L2
/-! ### lists of numbers -/
theorem eqv_ints : ∀ zs : List Int, PyData.eqvAll (zs.map PyData.int) (zs.map PyData.int) = true
  | [] => by simp [PyData.eqvAll]
  | z :: zs => by
    have := eqv_ints zs
    simp [PyData.eqvAll, PyData.eqv, this]
theorem eqv_same (zs : List Int) : PyData.eqv (.list (zs.map PyData.int)) (.list (zs.map PyData.int)) = true := by
  simp [PyData.eqv, eqv_ints]
/-- the place of the one number of which c holds -/
theorem idx_one {n k : Nat} {c : Nat → Bool} (hk : k < n) (h : ∀ i, i < n → (c i = true ↔ i = k)) : idx n c = [(k : Int)] := by
  have e : idx n c = idx n (fun i => decide (i = k)) := by
    unfold idx
    congr 1
    refine List.filter_congr fun i hi => ?_
    have hi : i < n := List.mem_range.mp hi
    rw [Bool.eq_iff_iff, h i hi]
    simp
  rw [e]
  unfold idx
  have e1 : List.range n = List.range' 0 k ++ List.range' k (n - k) := by
    rw [List.range_eq_range']
    have := List.range'_append_1 (s := 0) (m := k) (n := n - k)
    rw [Nat.zero_add] at this
    rw [this]
    congr 1
    omega
  rw [e1, List.filter_append]
  have z1 : (List.range' 0 k).filter (fun i => decide (i = k)) = [] := by
    rw [List.filter_eq_nil_iff]
    intro i hi
    have := List.mem_range'_1.mp hi
    simp
    omega
  have e2 : n - k = (n - (k + 1)) + 1 := by omega
  rw [z1, List.nil_append, e2, List.range'_succ, List.filter_cons]
  have z2 : (List.range' (k + 1) (n - (k + 1))).filter (fun i => decide (i = k)) = [] := by
    rw [List.filter_eq_nil_iff]
    intro i hi
    have := List.mem_range'_1.mp hi
    simp
    omega
  rw [z2]
  simp
theorem idx_none {n : Nat} {c : Nat → Bool} (h : ∀ i, i < n → c i = false) : idx n c = [] := by
  unfold idx
  rw [List.map_eq_nil_iff, List.filter_eq_nil_iff]
  intro i hi
  rw [h i (List.mem_range.mp hi)]
  simp
/-- numbers that follow one another -/
theorem idx_run {n : Nat} {c : Nat → Bool} (conv : ∀ a b d, a < b → b < d → d < n → c a = true → c d = true → c b = true) : idx n c = [] ∨ ∃ a m : Nat, a + m + 1 ≤ n ∧ idx n c = (List.range' a (m + 1)).map (fun k : Nat => (k : Int)) ∧ ∀ i, i < n → (c i = true ↔ a ≤ i ∧ i ≤ a + m) := by
  by_cases h : ∃ i, i < n ∧ c i = true
  · obtain ⟨i0, hi0, ci0⟩ := h
    have hex1 : ∃ a, a < n ∧ c a = true ∧ ∀ j, j < a → c j = false := by
      have : ∀ k, k ≤ i0 → (∃ a, a < n ∧ c a = true ∧ ∀ j, j < a → c j = false) ∨ ∀ j, j < k → c j = false := by
        intro k
        induction k with
        | zero => intro _; exact .inr fun j hj => by omega
        | succ k ih =>
          intro hk
          rcases ih (by omega) with h | h
          · exact .inl h
          · cases e : c k with
            | true => exact .inl ⟨k, by omega, e, h⟩
            | false =>
              refine .inr fun j hj => ?_
              by_cases q : j = k
              · subst q; exact e
              · exact h j (by omega)
      rcases this i0 (Nat.le_refl _) with h | h
      · exact h
      · exact ⟨i0, hi0, ci0, h⟩
    obtain ⟨a, ha, ca, la⟩ := hex1
    have hex2 : ∀ k, ∃ m, a + m < n ∧ c (a + m) = true ∧ ∀ j, a + m < j → j < n → k + j ≥ n + 0 → c j = false := by
      intro k
      induction k with
      | zero => exact ⟨0, by omega, ca, fun j h1 h2 h3 => by omega⟩
      | succ k ih =>
        obtain ⟨m, h1, h2, h3⟩ := ih
        by_cases q : a + m < n - (k + 1) ∧ k + 1 ≤ n
        · cases e : c (n - (k + 1)) with
          | true =>
            by_cases z : ∃ j, n - (k + 1) < j ∧ j < n ∧ c j = true
            · obtain ⟨j, z1, z2, z3⟩ := z
              have := h3 j (by omega) z2 (by omega)
              rw [this] at z3; cases z3
            · refine ⟨n - (k + 1) - a, by omega, by rw [show a + (n - (k + 1) - a) = n - (k + 1) by omega]; exact e, fun j z1 z2 _ => ?_⟩
              cases e2 : c j with
              | false => rfl
              | true => exact absurd ⟨j, by omega, z2, e2⟩ z
          | false =>
            refine ⟨m, h1, h2, fun j z1 z2 z3 => ?_⟩
            by_cases z : j = n - (k + 1)
            · rw [z]; exact e
            · exact h3 j z1 z2 (by omega)
        · exact ⟨m, h1, h2, fun j z1 z2 z3 => h3 j z1 z2 (by omega)⟩
    obtain ⟨m, h1, h2, h3⟩ := hex2 n
    have key : ∀ i, i < n → (c i = true ↔ a ≤ i ∧ i ≤ a + m) := fun i hi => by
      constructor
      · intro ci
        constructor
        · apply Nat.le_of_not_lt
          intro q
          rw [la i q] at ci; cases ci
        · apply Nat.le_of_not_lt
          intro q
          rw [h3 i q hi (by omega)] at ci; cases ci
      · rintro ⟨q1, q2⟩
        by_cases z1 : i = a
        · rw [z1]; exact ca
        · by_cases z2 : i = a + m
          · rw [z2]; exact h2
          · exact conv a i (a + m) (by omega) (by omega) h1 ca h2
    refine .inr ⟨a, m, by omega, ?_, key⟩
    unfold idx
    congr 1
    have e1 : List.range n = List.range' 0 a ++ (List.range' a (m + 1) ++ List.range' (a + (m + 1)) (n - (a + (m + 1)))) := by
      rw [List.range'_append_1, List.range_eq_range']
      have := List.range'_append_1 (s := 0) (m := a) (n := m + 1 + (n - (a + (m + 1))))
      rw [Nat.zero_add] at this
      rw [this]
      congr 1
      omega
    rw [e1, List.filter_append, List.filter_append]
    have z1 : (List.range' 0 a).filter c = [] := by
      rw [List.filter_eq_nil_iff]
      intro i hi
      have := List.mem_range'_1.mp hi
      rw [la i (by omega)]
      simp
    have z2 : (List.range' a (m + 1)).filter c = List.range' a (m + 1) := by
      rw [List.filter_eq_self]
      intro i hi
      have := List.mem_range'_1.mp hi
      exact (key i (by omega)).mpr ⟨by omega, by omega⟩
    have z3 : (List.range' (a + (m + 1)) (n - (a + (m + 1)))).filter c = [] := by
      rw [List.filter_eq_nil_iff]
      intro i hi
      have := List.mem_range'_1.mp hi
      rw [h3 i (by omega) (by omega) (by omega)]
      simp
    rw [z1, z2, z3, List.nil_append, List.append_nil]
  · refine .inl (idx_none fun i hi => ?_)
    cases e : c i with
    | false => rfl
    | true => exact absurd ⟨i, hi, e⟩ h
theorem all_bl {b : Bool} : ∀ {ys : List V}, (∀ y ∈ ys, y = .bl b) → ys = (List.replicate ys.length b).map V.bl
  | [], _ => rfl
  | y :: ys, h => by
    rw [h y (by simp), List.length_cons, List.replicate_succ, List.map_cons, ← all_bl (ys := ys) fun z hz => h z (by simp [hz])]
theorem rep_any (n : Nat) : (List.replicate n false).any _root_.id = false := by
  induction n with
  | zero => rfl
  | succ n ih => rw [List.replicate_succ]; simpa using ih
/-! ### the sizes that fit some feet -/
structure FitsL (H : Hp) (D : Addr) (ls : List (List Int)) : Prop where
  ob : ∃ ts : List V, H D = some (.lst ts) ∧ ts.length = ls.length ∧ ∀ (i : Nat) (v : V) (l : List Int), ts[i]? = some v → ls[i]? = some l → ∃ T, v = .ref T ∧ H T = some (.tup (l.map V.int))
theorem FitsL.same {H H' : Hp} {D : Addr} {ls : List (List Int)} (a : FitsL H D ls) (s : Same H H') : FitsL H' D ls := by
  obtain ⟨ts, h1, h2, h3⟩ := a.ob
  refine ⟨ts, s _ _ h1, h2, fun i v l e1 e2 => ?_⟩
  obtain ⟨T, e, h⟩ := h3 i v l e1 e2
  exact ⟨T, e, s _ _ h⟩
theorem FitsL.at {H : Hp} {D : Addr} {ls : List (List Int)} {ts : List V} (h2 : ts.length = ls.length) (h3 : ∀ (i : Nat) (v : V) (l : List Int), ts[i]? = some v → ls[i]? = some l → ∃ T, v = .ref T ∧ H T = some (.tup (l.map V.int))) {i : Nat} {l : List Int} (h : ls[i]? = some l) : ∃ T, ts[i]? = some (.ref T) ∧ H T = some (.tup (l.map V.int)) := by
  have hi : i < ts.length := by rw [h2]; exact (List.getElem?_eq_some_iff.mp h).1
  obtain ⟨T, e, k⟩ := h3 i _ l (List.getElem?_eq_getElem hi) h
  exact ⟨T, by rw [List.getElem?_eq_getElem hi, e], k⟩
def fitL (zs xs : List Q2) (s t : Q2) : List (List Int) := xs.map fun x => idx zs.length (fitQ zs x s t)
/-- the first one of which there is none -/
def BareAt (ls : List (List Int)) : Option Nat → Prop
  | none => ∀ l ∈ ls, l ≠ []
  | some n => ls[n]? = some [] ∧ ∀ j l, j < n → ls[j]? = some l → l ≠ []
theorem BareAt.uniq {ls : List (List Int)} : ∀ {o o' : Option Nat}, BareAt ls o → BareAt ls o' → o = o'
  | none, none, _, _ => rfl
  | none, some n, h, g => absurd rfl (h _ (List.mem_of_getElem? g.1))
  | some n, none, h, g => absurd rfl (g _ (List.mem_of_getElem? h.1))
  | some n, some m, h, g => by
    rcases Nat.lt_trichotomy n m with q | q | q
    · exact absurd rfl (g.2 n _ q h.1)
    · rw [q]
    · exact absurd rfl (h.2 m _ q g.1)
def firstI (ls : List (List Int)) (a : Int) : Int := ((ls.getD a.toNat []).head?).getD 0
def lastI (ls : List (List Int)) (a : Int) : Int := ((ls.getD a.toNat []).getLast?).getD 0
/-- runs: none is bare, each begins no later than it ends -/
def RunsI (ls : List (List Int)) : Prop := ∀ i : Nat, i < ls.length → ls.getD i [] ≠ [] ∧ firstI ls i ≤ lastI ls i
/-- as few sizes as can be, and as many feet apart -/
structure Few (ls : List (List Int)) (ss as : List Int) : Prop where
  len : ss.length = as.length
  rise : RiseI ss
  arise : RiseI as
  mem : ∀ a ∈ as, ∃ i : Nat, a = (i : Int) ∧ i < ls.length
  own : ∀ s ∈ ss, ∃ i : Nat, i < ls.length ∧ s = lastI ls i
  hit : ∀ i : Nat, i < ls.length → ∃ s ∈ ss, firstI ls i ≤ s ∧ s ≤ lastI ls i
  apart : ∀ a ∈ as, ∀ b ∈ as, a ≠ b → lastI ls a < firstI ls b ∨ lastI ls b < firstI ls a
structure GInv (ls : List (List Int)) (done : List (Int × Int)) (ss as : List Int) : Prop where
  len : ss.length = as.length
  hits : ∀ q ∈ done, ∃ s ∈ ss, firstI ls q.2 ≤ s ∧ s ≤ q.1
  own : ∀ (j : Nat) (s a : Int), ss[j]? = some s → as[j]? = some a → (s, a) ∈ done
  ap : ∀ (j j' : Nat) (s a : Int), j < j' → ss[j]? = some s → as[j']? = some a → s < firstI ls a
theorem GInv.nil {ls : List (List Int)} : GInv ls [] [] [] := ⟨rfl, fun q h => by simp at h, fun j s a h => by simp at h, fun j j' s a _ h => by simp at h⟩
/-- the pairs of last sizes and numbers -/
structure PairsOf (ls : List (List Int)) (ps : List (Int × Int)) : Prop where
  perm : ps.Perm ((List.range ls.length).map fun i : Nat => (lastI ls i, (i : Int)))
  srt : ∀ (i j : Nat) (p q : Int × Int), i < j → ps[i]? = some p → ps[j]? = some q → p.1 ≤ q.1
theorem PairsOf.mem {ls : List (List Int)} {ps : List (Int × Int)} (h : PairsOf ls ps) {q : Int × Int} : q ∈ ps ↔ ∃ i : Nat, i < ls.length ∧ q = (lastI ls i, (i : Int)) := by
  rw [h.perm.mem_iff, List.mem_map]
  constructor
  · rintro ⟨i, hi, e⟩; exact ⟨i, List.mem_range.mp hi, e.symm⟩
  · rintro ⟨i, hi, e⟩; exact ⟨i, List.mem_range.mpr hi, e.symm⟩
theorem GInv.rise {ls : List (List Int)} {ps : List (Int × Int)} {k : Nat} {ss as : List Int} (P : PairsOf ls ps) (R : RunsI ls) (g : GInv ls (ps.take k) ss as) : ∀ (j j' : Nat) (s s' : Int), j < j' → ss[j]? = some s → ss[j']? = some s' → s < s' := fun j j' s s' hj h h' => by
  have l := (List.getElem?_eq_some_iff.mp h').1
  obtain ⟨a', ha'⟩ := geI (zs := as) (n := j') (by rw [← g.len]; exact l)
  have h1 := g.ap j j' s a' hj h ha'
  have h2 := g.own j' s' a' h' ha'
  obtain ⟨i, hi, e⟩ := P.mem.mp (List.mem_of_mem_take h2)
  obtain ⟨rfl, rfl⟩ := Prod.mk.inj e
  have := (R i hi).2
  omega
theorem GInv.skip {ls : List (List Int)} {ps : List (Int × Int)} {k : Nat} {ss as : List Int} {b n s : Int} (P : PairsOf ls ps) (R : RunsI ls) (hk : ps[k]? = some (b, n)) (g : GInv ls (ps.take k) ss as) (hl : ss.getLast? = some s) (h : firstI ls n ≤ s) : GInv ls (ps.take (k + 1)) ss as := by
  have e : ps.take (k + 1) = ps.take k ++ [(b, n)] := by rw [List.take_add_one, hk]; rfl
  refine ⟨g.len, fun q hq => ?_, fun j s' a h1 h2 => ?_, g.ap⟩
  · rw [e] at hq
    rcases List.mem_append.mp hq with hq | hq
    · exact g.hits q hq
    · have : q = (b, n) := by simpa using hq
      subst this
      refine ⟨s, List.mem_of_getLast? hl, h, ?_⟩
      have l0 : 0 < ss.length := by cases ss with | nil => simp at hl | cons => simp
      have hs : ss[ss.length - 1]? = some s := by rw [← List.getLast?_eq_getElem?]; exact hl
      obtain ⟨a, ha⟩ := geI (zs := as) (n := ss.length - 1) (by rw [← g.len]; omega)
      have hm := g.own _ s a hs ha
      obtain ⟨i, hi⟩ := List.mem_iff_getElem?.mp hm
      have li := (List.getElem?_eq_some_iff.mp hi).1
      rw [List.length_take] at li
      rw [List.getElem?_take_of_lt (by omega)] at hi
      exact P.srt i k (s, a) (b, n) (by omega) hi hk
  · rw [e]
    exact List.mem_append.mpr (.inl (g.own j s' a h1 h2))
theorem GInv.take {ls : List (List Int)} {ps : List (Int × Int)} {k : Nat} {ss as : List Int} {b n : Int} (P : PairsOf ls ps) (R : RunsI ls) (hk : ps[k]? = some (b, n)) (g : GInv ls (ps.take k) ss as) (h : ∀ s, ss.getLast? = some s → s < firstI ls n) : GInv ls (ps.take (k + 1)) (ss ++ [b]) (as ++ [n]) := by
  have e : ps.take (k + 1) = ps.take k ++ [(b, n)] := by rw [List.take_add_one, hk]; rfl
  obtain ⟨i, hi, ei⟩ := P.mem.mp (List.mem_of_getElem? hk)
  obtain ⟨rfl, rfl⟩ := Prod.mk.inj ei
  refine ⟨by rw [List.length_append, List.length_append, g.len]; rfl, fun q hq => ?_, fun j s' a h1 h2 => ?_, fun j j' s' a hj h1 h2 => ?_⟩
  · rw [e] at hq
    rcases List.mem_append.mp hq with hq | hq
    · obtain ⟨s, hs, q1⟩ := g.hits q hq
      exact ⟨s, List.mem_append.mpr (.inl hs), q1⟩
    · have : q = (lastI ls (i : Int), (i : Int)) := by simpa using hq
      subst this
      exact ⟨lastI ls i, by simp, (R i hi).2, Int.le_refl _⟩
  · rw [e]
    by_cases hlt : j < ss.length
    · rw [List.getElem?_append_left hlt] at h1
      rw [List.getElem?_append_left (by rw [← g.len]; exact hlt)] at h2
      exact List.mem_append.mpr (.inl (g.own j s' a h1 h2))
    · have l1 := (List.getElem?_eq_some_iff.mp h1).1
      rw [List.length_append, List.length_singleton] at l1
      have ej : j = ss.length := by omega
      rw [ej, List.getElem?_append_right (Nat.le_refl _), Nat.sub_self] at h1
      rw [ej, g.len, List.getElem?_append_right (Nat.le_refl _), Nat.sub_self] at h2
      have h1 : lastI ls i = s' := by simpa using h1
      have h2 : (i : Int) = a := by simpa using h2
      rw [← h1, ← h2]
      simp
  · have l2 := (List.getElem?_eq_some_iff.mp h2).1
    rw [List.length_append, List.length_singleton, ← g.len] at l2
    have h1' : ss[j]? = some s' := by
      rw [List.getElem?_append_left (by omega)] at h1; exact h1
    by_cases hlt : j' < ss.length
    · rw [List.getElem?_append_left (by rw [← g.len]; exact hlt)] at h2
      exact g.ap j j' s' a hj h1' h2
    · have ej : j' = ss.length := by omega
      rw [ej, g.len, List.getElem?_append_right (Nat.le_refl _), Nat.sub_self] at h2
      have h2 : (i : Int) = a := by simpa using h2
      rw [← h2]
      have hs : ss[ss.length - 1]? = ss.getLast? := List.getLast?_eq_getElem?.symm
      obtain ⟨s, hs2⟩ := geI (zs := ss) (n := ss.length - 1) (by omega)
      have hlast := h s (by rw [← hs]; exact hs2)
      by_cases q : j = ss.length - 1
      · rw [q, hs2] at h1'
        cases h1'
        exact hlast
      · have := g.rise P R j (ss.length - 1) s' s (by omega) h1' hs2
        omega
theorem few_of {ls : List (List Int)} {ps : List (Int × Int)} {ss as as' : List Int} (P : PairsOf ls ps) (R : RunsI ls) (g : GInv ls ps ss as) (hp : as'.Perm as) (hs : as'.Pairwise (· ≤ ·)) : Few ls ss as' := by
  have g' : GInv ls (ps.take ps.length) ss as := by rw [List.take_length]; exact g
  have ri := g'.rise P R
  have key : ∀ a ∈ as, ∃ (j : Nat) (s : Int), ss[j]? = some s ∧ as[j]? = some a ∧ ∃ i : Nat, i < ls.length ∧ a = (i : Int) ∧ s = lastI ls a := fun a ha => by
    obtain ⟨j, hj⟩ := List.mem_iff_getElem?.mp ha
    have lj := (List.getElem?_eq_some_iff.mp hj).1
    obtain ⟨s, hs⟩ := geI (zs := ss) (n := j) (by rw [g.len]; exact lj)
    obtain ⟨i, hi, e⟩ := P.mem.mp (g.own j s a hs hj)
    obtain ⟨rfl, rfl⟩ := Prod.mk.inj e
    exact ⟨j, _, hs, hj, i, hi, rfl, rfl⟩
  have nd : as.Nodup := by
    refine List.pairwise_iff_getElem.mpr fun i j hi0 hj hij q => ?_
    obtain ⟨a, ha⟩ := geI (zs := as) (n := i) (by omega)
    have hb : as[j]? = some a := by rw [List.getElem?_eq_getElem hj, ← q, ← List.getElem?_eq_getElem hi0]; exact ha
    obtain ⟨s, hs1⟩ := geI (zs := ss) (n := i) (by rw [g.len]; omega)
    obtain ⟨s', hs2⟩ := geI (zs := ss) (n := j) (by rw [g.len]; omega)
    have h1 := g.ap i j s a hij hs1 hb
    obtain ⟨i2, hi2, e⟩ := P.mem.mp (g.own i s a hs1 ha)
    obtain ⟨rfl, rfl⟩ := Prod.mk.inj e
    have := (R i2 hi2).2
    omega
  have nd' : as'.Nodup := hp.nodup_iff.mpr nd
  refine ⟨g.len.trans hp.length_eq.symm, fun i a b h1 h2 => ri i (i + 1) a b (by omega) h1 h2, fun i a b h1 h2 => ?_, fun a ha => ?_, fun s hs' => ?_, fun i hi => ?_, fun a ha b hb ne => ?_⟩
  · have l2 := (List.getElem?_eq_some_iff.mp h2).1
    have e1 := (List.getElem?_eq_some_iff.mp h1).2
    have e2 := (List.getElem?_eq_some_iff.mp h2).2
    have le := List.pairwise_iff_getElem.mp hs i (i + 1) (by omega) l2 (by omega)
    have ne : as'[i] ≠ as'[i + 1] := List.pairwise_iff_getElem.mp nd' i (i + 1) (by omega) l2 (by omega)
    rw [e1, e2] at le ne
    omega
  · obtain ⟨j, s, _, _, i, hi, e, _⟩ := key a (hp.mem_iff.mp ha)
    exact ⟨i, e, hi⟩
  · obtain ⟨j, hj⟩ := List.mem_iff_getElem?.mp hs'
    have lj := (List.getElem?_eq_some_iff.mp hj).1
    obtain ⟨a, ha⟩ := geI (zs := as) (n := j) (by rw [← g.len]; exact lj)
    obtain ⟨i, hi, e⟩ := P.mem.mp (g.own j s a hj ha)
    obtain ⟨rfl, rfl⟩ := Prod.mk.inj e
    exact ⟨i, hi, rfl⟩
  · exact g.hits (lastI ls i, (i : Int)) (P.mem.mpr ⟨i, hi, rfl⟩)
  · obtain ⟨j, s, h1, h2, i, hi, e, es⟩ := key a (hp.mem_iff.mp ha)
    obtain ⟨j', s', h1', h2', i', hi', e', es'⟩ := key b (hp.mem_iff.mp hb)
    rcases Nat.lt_trichotomy j j' with q | q | q
    · exact .inl (by rw [← es]; exact g.ap j j' s b q h1 h2')
    · subst q
      rw [h2] at h2'
      exact absurd (Option.some.inj h2') ne
    · exact .inr (by rw [← es']; exact g.ap j' j s' a q h1' h2)
theorem idx_sorted {n : Nat} {c : Nat → Bool} : (idx n c).Pairwise (· < ·) := by
  unfold idx
  rw [List.pairwise_map]
  refine List.Pairwise.imp ?_ (List.Pairwise.filter c List.pairwise_lt_range)
  intro a b h
  omega
theorem head_last : ∀ {l : List Int}, l.Pairwise (· < ·) → ∀ {f b : Int}, l.head? = some f → l.getLast? = some b → f ≤ b
  | [], _, f, b, h, _ => by simp at h
  | x :: l, hp, f, b, h, g => by
    have e : x = f := by simpa using h
    subst e
    have hb := List.mem_of_getLast? g
    rcases List.mem_cons.mp hb with q | q
    · omega
    · have := (List.pairwise_cons.mp hp).1 b q
      omega
theorem runs_fitL {zs xs : List Q2} {s t : Q2} {i : Nat} {l : List Int} (h : (fitL zs xs s t)[i]? = some l) (ne : l ≠ []) : firstI (fitL zs xs s t) (i : Int) ≤ lastI (fitL zs xs s t) (i : Int) := by
  have e : (fitL zs xs s t).getD i [] = l := by rw [List.getD_eq_getElem?_getD, h]; rfl
  have hl : l.Pairwise (· < ·) := by
    unfold fitL at h
    rw [List.getElem?_map] at h
    cases q : xs[i]? with
    | none => rw [q] at h; cases h
    | some x => rw [q] at h; cases h; exact idx_sorted
  unfold firstI lastI
  rw [Int.toNat_natCast, e]
  cases e1 : l.head? with
  | none => exact absurd (List.head?_eq_none_iff.mp e1) ne
  | some f =>
    cases e2 : l.getLast? with
    | none => exact absurd (List.getLast?_eq_none_iff.mp e2) ne
    | some b => exact head_last hl e1 e2
/-! ### tuples of the heap: sums and slices -/
section
variable {X : Cx}
def rCatH : R2 := fun x y H Q => ∃ (a b : Addr) (xs ys : List V), x = .ref a ∧ y = .ref b ∧ H a = some (.tup xs) ∧ H b = some (.tup ys) ∧ xs.length + ys.length ≤ sizeLine ∧ ∀ (p : Addr) (H' : Hp), Same H H' → H' p = some (.tup (xs ++ ys)) → Q (.ref p) H'
theorem catH : OpR X (binaryOp .Add) rCatH := by
  intro pins s σ H x y v u Q I rx ry h
  obtain ⟨a, b, xs, ys, e1, e2, ha, hb, hz, q⟩ := h
  refine op_catA pins s σ H x y v u Q I rx ry ⟨a, b, xs, ys, e1, e2, SqT.of ha, SqT.of hb, hz, fun e => q b H (Same.refl _) ?_, fun _ e => q a H (Same.refl _) ?_, fun _ _ p np => q p _ (same1 np) upd_same⟩
  · rw [e]; exact hb
  · rw [e, List.append_nil]; exact ha
def rSlH : V → Option Int → Option Int → Hp → VK → Prop := fun x lo hi H Q => ∃ (a : Addr) (xs : List V), x = .ref a ∧ H a = some (.tup xs) ∧ ∀ (p : Addr) (H' : Hp), Same H H' → H' p = some (.tup (cutV xs lo hi)) → Q (.ref p) H'
theorem slH : SlR X rSlH := by
  intro pins s σ H x v vl vu lo hi sl Q I rx hs pl pu h
  obtain ⟨a, xs, e1, hx, q⟩ := h
  refine sl_tupA pins s σ H x v vl vu lo hi sl Q I rx hs pl pu ⟨a, xs, e1, SqT.of hx, fun e => q a H (Same.refl _) ?_, fun _ p np => q p _ (same1 np) upd_same⟩
  have e2 : cutV xs lo hi = xs := by
    unfold cutV
    rw [e.1, e.2, List.drop_zero, Nat.sub_zero, List.take_length]
  rw [e2]
  exact hx
end
/-! ### fractions as rational numbers -/
def toR (z : Q2) : Rat := (z.1 : Rat) / (z.2 : Rat)
theorem posR {n : Int} (h : 0 < n) : (0 : Rat) < (n : Rat) := by
  have := Rat.intCast_lt_intCast.mpr h
  simpa using this
section
variable {a b z w x y : Q2}
theorem div_ltR {a b c d : Int} (hb : 0 < b) (hd : 0 < d) : ((a : Rat) / b < (c : Rat) / d) ↔ (a : Rat) * d < c * b := by
  have hb := posR hb
  have hd := posR hd
  constructor
  · intro h
    have e1 : (a : Rat) * d = (a / b) * (b * d) := by grind
    have e2 : (c : Rat) * b = (c / d) * (b * d) := by grind
    rw [e1, e2]
    exact Rat.mul_lt_mul_of_pos_right h (Rat.mul_pos hb hd)
  · intro h
    by_cases g : (c : Rat) / d ≤ (a : Rat) / b
    · have := Rat.mul_le_mul_of_nonneg_right g (Rat.le_of_lt (Rat.mul_pos hb hd))
      have e1 : (a : Rat) * d = (a / b) * (b * d) := by grind
      have e2 : (c : Rat) * b = (c / d) * (b * d) := by grind
      grind
    · grind
theorem ltq_R (ha : 0 < a.2) (hb : 0 < b.2) : ltq a b = true ↔ toR a < toR b := by
  unfold toR
  rw [div_ltR ha hb]
  unfold ltq
  rw [decide_eq_true_iff, ← Rat.intCast_mul, ← Rat.intCast_mul, Rat.intCast_lt_intCast]
theorem leq_R (ha : 0 < a.2) (hb : 0 < b.2) : leq a b = true ↔ toR a ≤ toR b := by
  rw [leq_not]
  cases e : ltq b a with
  | true =>
    have := (ltq_R hb ha).mp e
    constructor
    · intro h; simp at h
    · intro h; grind
  | false =>
    have : ¬ toR b < toR a := fun q => by rw [(ltq_R hb ha).mpr q] at e; cases e
    constructor
    · intro _; grind
    · intro _; rfl
theorem ltq_F (ha : 0 < a.2) (hb : 0 < b.2) : ltq a b = false ↔ toR b ≤ toR a := by
  rw [← leq_R hb ha, leq_not]
  cases ltq a b <;> simp
theorem re_R (h : Re z w) : toR z = toR w := by
  obtain ⟨h1, h2, h3⟩ := h
  unfold toR
  have p1 := posR h1
  have p2 := posR h2
  have e : (z.1 : Rat) * (w.2 : Rat) = (w.1 : Rat) * (z.2 : Rat) := by rw [← Rat.intCast_mul, ← Rat.intCast_mul, h3]
  grind
theorem re_of_R (h1 : 0 < z.2) (h2 : 0 < w.2) (h : toR z = toR w) : Re z w := by
  refine ⟨h1, h2, ?_⟩
  unfold toR at h
  have p1 := posR h1
  have p2 := posR h2
  have e : (z.1 : Rat) * (w.2 : Rat) = (w.1 : Rat) * (z.2 : Rat) := by grind
  rw [← Rat.intCast_mul, ← Rat.intCast_mul] at e
  exact Rat.intCast_inj.mp e
theorem add_R (ha : 0 < a.2) (hb : 0 < b.2) : toR (qadd a b) = toR a + toR b := by
  unfold toR qadd
  have p1 := posR ha
  have p2 := posR hb
  simp only [Rat.intCast_add, Rat.intCast_mul]
  grind
theorem sub_R (ha : 0 < a.2) (hb : 0 < b.2) : toR (qsub a b) = toR a - toR b := by
  unfold toR qsub
  have p1 := posR ha
  have p2 := posR hb
  simp only [Rat.intCast_sub, Rat.intCast_mul]
  grind
theorem neg_R (ha : 0 < a.2) : toR (0 - a.1, a.2) = - toR a := by
  unfold toR
  have p1 := posR ha
  simp only [Rat.intCast_sub]
  grind
theorem half_R (ha : 0 < a.2) (hb : 0 < b.2) : toR (qhalf a b) = (toR a + toR b) / 2 := by
  rw [qhalf_eq]
  unfold toR
  have p1 := posR ha
  have p2 := posR hb
  simp only [Rat.intCast_add, Rat.intCast_mul]
  grind
theorem nn_R (ha : 0 < a.2) : 0 ≤ a.1 ↔ 0 ≤ toR a := by
  have p : 0 < ((0, 1) : Q2).2 := by decide
  have h := leq_R (a := (0, 1)) (b := a) p ha
  have e : toR (0, 1) = 0 := by unfold toR; grind
  rw [e] at h
  rw [← h, leq_not]
  unfold ltq
  simp
theorem pos_R (ha : 0 < a.2) : 0 < a.1 ↔ 0 < toR a := by
  have p : 0 < ((0, 1) : Q2).2 := by decide
  have h := ltq_R (a := (0, 1)) (b := a) p ha
  have e : toR (0, 1) = 0 := by unfold toR; grind
  rw [e] at h
  rw [← h]
  unfold ltq
  simp
theorem qadd_pos (ha : 0 < a.2) (hb : 0 < b.2) : 0 < (qadd a b).2 := Int.mul_pos ha hb
theorem qsub_pos (ha : 0 < a.2) (hb : 0 < b.2) : 0 < (qsub a b).2 := Int.mul_pos ha hb
end
theorem Re.nn {z w : Q2} (r : Re z w) (h : 0 ≤ w.1) : 0 ≤ z.1 := by
  rw [nn_R r.1, re_R r]
  exact (nn_R r.2.1).mp h
theorem fitQ_R {zs : List Q2} {a z x y : Q2} {i : Nat} (h : zs[i]? = some a) (pa : 0 < a.2) (pz : 0 < z.2) (px : 0 < x.2) (py : 0 < y.2) : fitQ zs z x y i = true ↔ toR z - toR y ≤ toR a ∧ toR a ≤ toR z + toR x := by
  unfold fitQ
  rw [h]
  show (leq (qsub z y) a && leq a (qadd z x)) = true ↔ _
  rw [Bool.and_eq_true, leq_R (qsub_pos pz py) pa, leq_R pa (qadd_pos pz px), sub_R pz py, add_R pz px]
theorem fitQ_N {zs : List Q2} {a z x y : Q2} {i : Nat} (h : zs[i]? = some a) (pa : 0 < a.2) (pz : 0 < z.2) (px : 0 < x.2) (py : 0 < y.2) (n : ¬ (toR z - toR y ≤ toR a ∧ toR a ≤ toR z + toR x)) : fitQ zs z x y i = false := by
  cases e : fitQ zs z x y i with
  | false => rfl
  | true => exact absurd ((fitQ_R h pa pz px py).mp e) n
section
variable {zs : List Q2} {a z x y e w : Q2} {i : Nat}
theorem edge1 (h : zs[i]? = some a) (pa : 0 < a.2) (px : 0 < x.2) (py : 0 < y.2) (nx : 0 ≤ x.1) (ny : 0 ≤ y.1) (r : Re z (qadd a (0 - x.1, x.2))) : fitQ zs z x y i = true := by
  rw [fitQ_R h pa r.1 px py, re_R r, add_R (b := (0 - x.1, x.2)) pa px, neg_R px]
  have := (nn_R px).mp nx
  have := (nn_R py).mp ny
  grind
theorem edge2 (h : zs[i]? = some a) (pa : 0 < a.2) (px : 0 < x.2) (py : 0 < y.2) (nx : 0 ≤ x.1) (ny : 0 ≤ y.1) (r : Re z (qadd a y)) : fitQ zs z x y i = true := by
  rw [fitQ_R h pa r.1 px py, re_R r, add_R pa py]
  have := (nn_R px).mp nx
  have := (nn_R py).mp ny
  grind
theorem edge3 (h : zs[i]? = some a) (pa : 0 < a.2) (px : 0 < x.2) (py : 0 < y.2) (pe : 0 < e.2) (ne : 0 < e.1) (r : Re w (qadd a (0 - x.1, x.2))) (r2 : Re z (qadd w (0 - e.1, e.2))) : fitQ zs z x y i = false := by
  refine fitQ_N h pa r2.1 px py ?_
  rw [re_R r2, add_R (b := (0 - e.1, e.2)) r.1 pe, neg_R pe, re_R r, add_R (b := (0 - x.1, x.2)) pa px, neg_R px]
  have := (pos_R pe).mp ne
  grind
theorem edge4 (h : zs[i]? = some a) (pa : 0 < a.2) (px : 0 < x.2) (py : 0 < y.2) (pe : 0 < e.2) (ne : 0 < e.1) (r : Re w (qadd a y)) (r2 : Re z (qadd w e)) : fitQ zs z x y i = false := by
  refine fitQ_N h pa r2.1 px py ?_
  rw [re_R r2, add_R r.1 pe, re_R r, add_R pa py]
  have := (pos_R pe).mp ne
  grind
end
/-! ### lists of tuples of numbers as data -/
theorem rm65 {k : Nat} {A : Around} (r : Room k A) : A.units + 65 < cLine := by have := r.un; omega
section
variable {X : Cx} {K : PySem.W.Frag}
theorem inDK (hu : X.A.units + 65 < cLine) (hK : X.K = K := by rfl) : OpR X (compareOp .In) (rInD K) := by subst hK; exact op_inD hu
theorem notInDK (hu : X.A.units + 65 < cLine) (hK : X.K = K := by rfl) : OpR X (compareOp .NotIn) (rNotInD K) := by subst hK; exact op_notInD hu
theorem indexDK (hu : X.A.units + 65 < cLine) (hK : X.K = K := by rfl) : MtR X "list.index" (rIndexD K) := by subst hK; exact mt_indexD hu
end
theorem eqvAll_ints : ∀ a b : List Int, PyData.eqvAll (a.map PyData.int) (b.map PyData.int) = decide (a = b)
  | [], [] => by simp [PyData.eqvAll]
  | [], _ :: _ => by simp [PyData.eqvAll]
  | _ :: _, [] => by simp [PyData.eqvAll]
  | x :: a, y :: b => by
    have e : (x == y) = decide (x = y) := by rw [Bool.eq_iff_iff]; simp
    simp [PyData.eqvAll, PyData.eqv, eqvAll_ints a b, e]
theorem eqv_intsD (a b : List Int) : PyData.eqv (intsD a) (intsD b) = decide (a = b) := by
  unfold intsD
  simp [PyData.eqv, eqvAll_ints]
theorem dpAll_of {α : Type} {K : PySem.W.Frag} {H : Hp} (f : α → PyData) : ∀ {ts : List V} {ls : List α}, ts.length = ls.length → (∀ (i : Nat) (v : V) (l : α), ts[i]? = some v → ls[i]? = some l → Dp K H v (f l)) → DpAll K H ts (ls.map f)
  | [], [], _, _ => .nil
  | [], _ :: _, h, _ => by simp at h
  | _ :: _, [], h, _ => by simp at h
  | t :: ts, l :: ls, h, g => .cons (g 0 t l rfl rfl) (dpAll_of f (by simpa using h) fun i v l' h1 h2 => g (i + 1) v l' (by simpa using h1) (by simpa using h2))
theorem rows_lay {α : Type} (f : α → List Int) : ∀ ls : List α, PyData.canLayAll0 (ls.map fun l => intsD (f l)) = true
  | [] => rfl
  | l :: ls => by
    show ((intsD (f l)).canLay0 && PyData.canLayAll0 (ls.map fun l => intsD (f l))) = true
    rw [rows_lay f ls, Bool.and_true]
    exact layI (f l)
theorem rows_depth {α : Type} (f : α → List Int) : ∀ ls : List α, PyData.depthAll (ls.map fun l => intsD (f l)) ≤ 3
  | [] => by simp [PyData.depthAll]
  | l :: ls => by
    have h := rows_depth f ls
    have h1 := ints_depth (f l)
    have e : PyData.depthAll ((l :: ls).map fun l => intsD (f l)) = max (intsD (f l)).depth (PyData.depthAll (ls.map fun l => intsD (f l))) := by simp [PyData.depthAll]
    have e2 : (intsD (f l)).depth = PyData.depthAll ((f l).map PyData.int) + 1 := rfl
    omega
theorem shRows {α : Type} (f : α → List Int) (ls : List α) : SeqAt.shaped (.list (ls.map fun l => intsD (f l))) = true := by
  have h := rows_depth f ls
  have e1 : (PyData.list (ls.map fun l => intsD (f l))).depth ≤ 64 := by
    show PyData.depthAll (ls.map fun l => intsD (f l)) + 1 ≤ 64
    omega
  have e2 : (PyData.list (ls.map fun l => intsD (f l))).canLay0 = true := rows_lay f ls
  unfold SeqAt.shaped
  rw [e2, decide_eq_true e1]
  rfl
theorem shInts (zs : List Int) : SeqAt.shaped (intsD zs) = true := by
  have h := ints_depth zs
  have e1 : (intsD zs).depth ≤ 64 := by
    show PyData.depthAll (zs.map PyData.int) + 1 ≤ 64
    omega
  have e2 : (intsD zs).canLay0 = true := layI zs
  unfold SeqAt.shaped
  rw [e2, decide_eq_true e1]
  rfl
theorem FitsL.dp {K : PySem.W.Frag} {H : Hp} {D : Addr} {ls : List (List Int)} (a : FitsL H D ls) : Dp K H (.ref D) (.list (ls.map fun l => intsD l)) := by
  obtain ⟨ts, h1, h2, h3⟩ := a.ob
  refine .lst (SqL.of h1) (dpAll_of (fun l => intsD l) h2 fun i v l e1 e2 => ?_)
  obtain ⟨T, rfl, h⟩ := h3 i v l e1 e2
  exact dpT h
theorem tqs_dp {K : PySem.W.Frag} {H : Hp} {l : Addr} {k : Nat} {us : List V} {zs : List Q2} (h : H l = some (.lst us)) (t : Tqs H k us zs) : Dp K H (.ref l) (.list (zs.map fun z => intsD [z.1, z.2])) := by
  refine .lst (SqL.of h) (dpAll_of (fun z : Q2 => intsD [z.1, z.2]) t.len fun i v z e1 e2 => ?_)
  obtain ⟨p, rfl, hp, _⟩ := t.all i v z e1 e2
  exact dpT (zs := [z.1, z.2]) hp
theorem any_bare (ls : List (List Int)) : ((ls.map fun l => intsD l).any fun z => PyData.eqv z (intsD [])) = true ↔ ∃ l ∈ ls, l = [] := by
  rw [List.any_eq_true]
  constructor
  · rintro ⟨z, hz, e⟩
    obtain ⟨l, hl, rfl⟩ := List.mem_map.mp hz
    rw [eqv_intsD] at e
    exact ⟨l, hl, of_decide_eq_true e⟩
  · rintro ⟨l, hl, e⟩
    exact ⟨intsD l, List.mem_map.mpr ⟨l, hl, rfl⟩, by rw [eqv_intsD]; exact decide_eq_true e⟩
/-! ### a set of a tuple of numbers -/
theorem call_setT {X : Cx} {K : PySem.W.Frag} (hc : X.calm = true := by rfl) (hK : X.K = K := by rfl) : CallR X (.type "set") (fun xs H Q => ∃ (p : Addr) (ns : List Int), xs = [.ref p] ∧ SqT K H p (ns.map V.int) ∧ ns.length ≤ 60 ∧ ∀ (q : Addr) (n : Nat), H q = none → n ≤ ns.length → Q (.ref q) (upd H q (SetO X.w q (fun k => decide (k ∈ ns)) n))) := by
  subst hK
  intro pins s σ H xs us Q I r h
  obtain ⟨p, ns, rfl, hq, hl, q⟩ := h
  obtain ⟨u, rfl, r1⟩ := vals1 r
  cases (show u = Value.ref p from r1)
  obtain ⟨its, rv, pt, hz⟩ := I.tuple hq
  have hi : IntsAre its.toArray.toList ns := ints_of_vals rv
  have hd := I.ok.hd hc
  refine call_set_tupI ns hd (show s.heap.IsTuple p its.toArray from pt) hi (by unfold scanBound; omega) fun h' tk c R1 hcn k => ?_
  exact ⟨.ref _, upd H s.heap.objs.size (SetO X.w s.heap.objs.size (fun j => decide (j ∈ ns)) c), I.laid (t' := tk) k (Nat.le_refl _) (setO_new R1), rfl, q _ c (I.hok.fresh (Nat.le_refl _)) hcn⟩
/-! ### looked at ahead of a step (apply fails at once where exact, refine and show take seconds) -/
theorem eq_id {α : Sort _} {a b : α} (h : a = b) : a = b := h
theorem ile_id {a b : Int} (h : a ≤ b) : a ≤ b := h
theorem ilt_id {a b : Int} (h : a < b) : a < b := h
theorem nle_id {a b : Nat} (h : a ≤ b) : a ≤ b := h
theorem nlt_id {a b : Nat} (h : a < b) : a < b := h
section
variable {K : PySem.W.Frag} {C CM CL CG p h a L1 L2 : Addr} {H H' : Hp} {v : V} {k n : Nat} {z : Q2} {vs : List V} {zs ys : List Q2} {e : Option Q2} {r : Str} {lo hi : Option Q2} {o : Option HO} {x : HO} {P Q : Prop}
theorem TQ_id (t : TQ H v k z) : TQ H v k z := t
theorem Tqs_id (t : Tqs H k vs zs) : Tqs H k vs zs := t
theorem QAt_id (t : QAt C H p k z) : QAt C H p k z := t
theorem Mks_id (t : Mks C H k vs zs) : Mks C H k vs zs := t
theorem QO_id (t : QO C H k v e) : QO C H k v e := t
theorem TOq_id (t : TOq H k v e) : TOq H k v e := t
theorem LadAt_id (t : LadAt K CM CL H p k zs r lo hi) : LadAt K CM CL H p k zs r lo hi := t
theorem GrdAt_id (t : GrdAt K CM CL CG H p k L1 L2 z) : GrdAt K CM CL CG H p k L1 L2 z := t
theorem SidesAt_id (t : SidesAt H h p k zs ys z) : SidesAt H h p k zs ys z := t
theorem ChartAt_id (t : ChartAt H p k r lo hi) : ChartAt H p k r lo hi := t
theorem HandAt_id (t : HandAt H h n) : HandAt H h n := t
theorem SqT_id (t : SqT K H a vs) : SqT K H a vs := t
theorem SqL_id (t : SqL K H a vs) : SqL K H a vs := t
theorem Kp_id (t : Kp h H H') : Kp h H H' := t
theorem Same_id (t : Same H H') : Same H H' := t
theorem AllTQ_id (t : AllTQ H k vs) : AllTQ H k vs := t
theorem ho_id (t : o = some x) : o = some x := t
theorem sq2_id (t : SqL K H a vs ∨ SqT K H a vs) : SqL K H a vs ∨ SqT K H a vs := t
theorem exT_id (t : ∃ xs, SqT K H a xs) : ∃ xs, SqT K H a xs := t
theorem exL_id (t : ∃ xs, SqL K H a xs) : ∃ xs, SqL K H a xs := t
end
/-! ### what follows a statement, kept out of sight while it is read -/
def Nxt (u : L2.St → Hp → Prop) (D : Ends) : Prop := ∀ σ H, u σ H → D.nx σ H
theorem nxt {u : L2.St → Hp → Prop} {D : Ends} {σ : L2.St} {H : Hp} (n : Nxt u D) (h : u σ H) : D.nx σ H := n σ H h
def tSeqD (t u : TS) : TS := fun D σ H => ∀ D' : Ends, D'.rt = D.rt → Nxt (u D) D' → t D' σ H
theorem seqD_i {t u : TS} {D : Ends} {σ : L2.St} {H : Hp} (h : ∀ D' : Ends, D'.rt = D.rt → Nxt (u D) D' → t D' σ H) : tSeqD t u D σ H := h
theorem pss_consD {X : Cx} {st : Stmt} {rest : List Stmt} {t u : TS} (h1 : PS X st t) (h2 : PSs X rest u) : PSs X (st :: rest) (tSeqD t u) :=
  ⟨fun pins s σ H D I h => (pss_cons h1 h2).run pins s σ H D I (h { D with nx := u D } rfl fun _ _ q => q)⟩
theorem pe_K {X : Cx} {e : Expr} {t : PySem.W.Frag → TE} {K : PySem.W.Frag} (h : PE X e (t X.K)) (hK : X.K = K := by rfl) : PE X e (t K) := by
  subst hK
  exact h
/-! ### a comprehension over a list that draws, some left out -/
theorem lckf {K : PySem.W.Frag} {a : Addr} {xs : List V} {g : TG} {tt : TT} {te : TE} {vs : List Nat} {σ : L2.St} {H1 : Hp} {D : Addr} {Qd : Hp → Prop} {h : Addr} {c m : Nat} (R : Hp → V → Prop) (hR : ∀ H H' y, R H y → Nl H H' → R H' y) (hz : xs.length < sizeLine) (hS : SqL K H1 a xs) (ne : a ≠ h) (hh : HandAt H1 h m) (hD : H1 D = none)
    (hs : ∀ (i : Nat) (x : V) (H : Hp) (N : VK) (M : Hp → Prop), xs[i]? = some x → Kp h H1 H → HandAt H h (m + c * i) → (∀ y H4, Kp h H H4 → HandAt H4 h (m + c * (i + 1)) → R H4 y → N y H4) → (∀ H4, Kp h H H4 → HandAt H4 h (m + c * (i + 1)) → M H4) →
      g x (wipe σ vs) H fun σ2 H2 => wipe σ2 vs = wipe σ vs ∧ tt σ2 H2 fun b H3 => if b = true then te σ2 H3 N else M H3)
    (hd : ∀ H ys, Kp h H1 H → HandAt H h (m + c * xs.length) → H D = some (.lst ys) → ys.length ≤ xs.length → (∀ y ∈ ys, R H y) → Qd H) :
    ∃ W : Nat → Nat → Hp → Prop, (∃ m, W 0 m (upd H1 D (.lst []))) ∧ ∀ i m H, W i m H →
      ((Itl K a).stop i H ∧ Qd H) ∨ ((Itl K a).go i H ∧ ∃ Nx : Hp → Prop, (∀ H', Nx H' → ∃ m', m' < m ∧ W (i + 1) m' H') ∧ ∀ x H', (Itl K a).yld i H x H' → g x (wipe σ vs) H' fun σ2 H2 => wipe σ2 vs = wipe σ vs ∧ tt σ2 H2 fun b H3 =>
        if b = true then te σ2 H3 fun y H4 => ∃ acc, H4 D = some (.lst acc) ∧ acc.length < sizeLine ∧ Nx (upd H4 D (.lst (acc ++ [y]))) else Nx H3) := by
  have nDh := hh.ne hD
  refine lc_list (fun i H => Kp h H1 H ∧ HandAt H h (m + c * i) ∧ ∃ ys, H D = some (.lst ys) ∧ ys.length ≤ i ∧ ∀ y ∈ ys, R H y) ⟨Kp.same (same1 hD), (hh.same (same1 hD)).mono (Nat.le_add_right _ _), [], upd_same, Nat.le_refl _, fun y hy => nomatch hy⟩ (fun i H _ p => p.1.seq ne hS) (fun i x H hx p => ?_) (fun H p => ?_)
  · have hi : i < xs.length := (List.getElem?_eq_some_iff.mp hx).1
    obtain ⟨k1, hh1, ys, h1, h2, h3⟩ := p
    refine hs i x H _ _ hx k1 hh1 (fun y H4 k4 hh4 r4 => ⟨ys, k4 _ _ h1 nDh, by omega, ?_, ?_, ys ++ [y], upd_same, ?_, ?_⟩) (fun H4 k4 hh4 => ⟨k1.trans k4, hh4, ys, k4 _ _ h1 nDh, by omega, fun y hy => hR _ _ _ (h3 y hy) (k4.nlh hh1)⟩)
    · intro c' o e n
      rw [upd_ne (ne_of_none e hD)]
      exact k4 _ _ (k1 _ _ e n) n
    · exact hh4.put nDh
    · rw [List.length_append, List.length_singleton]; omega
    · intro z hz
      have n4 : Nl H4 (upd H4 D (.lst (ys ++ [y]))) := Nl.put (k4 _ _ h1 nDh)
      rcases List.mem_append.mp hz with hz | hz
      · exact hR _ _ _ (hR _ _ _ (h3 z hz) (k4.nlh hh1)) n4
      · have : z = y := by simpa using hz
        subst this
        exact hR _ _ _ r4 n4
  · obtain ⟨k1, hh1, ys, h1, h2, h3⟩ := p
    exact hd H ys k1 hh1 h1 h2 h3
theorem AllTQ.nl {H H' : Hp} {k : Nat} {vs : List V} (m : AllTQ H k vs) (s : Nl H H') : AllTQ H' k vs := fun x hx => by
  obtain ⟨z, t⟩ := m x hx
  exact ⟨z, t.nl s⟩
theorem AllTQ.same {H H' : Hp} {k : Nat} {vs : List V} (m : AllTQ H k vs) (s : Same H H') : AllTQ H' k vs := m.nl (Nl.of s)
theorem AllTQ.mono {H : Hp} {k j : Nat} {vs : List V} (m : AllTQ H k vs) (l : k ≤ j) : AllTQ H j vs := fun x hx => by
  obtain ⟨z, t⟩ := m x hx
  exact ⟨z, t.mono l⟩
theorem AllTQ.tqs {H : Hp} {k : Nat} : ∀ {vs : List V}, AllTQ H k vs → ∃ zs, Tqs H k vs zs
  | [], _ => ⟨[], Tqs.nil⟩
  | v :: vs, m => by
    obtain ⟨z, t⟩ := m v (by simp)
    obtain ⟨zs, h⟩ := AllTQ.tqs (vs := vs) fun x hx => m x (by simp [hx])
    exact ⟨z :: zs, h.cons t⟩
theorem AllTQ.rev {H : Hp} {k : Nat} {vs : List V} (m : AllTQ H k vs) : AllTQ H k vs.reverse := fun x hx => m x (List.mem_reverse.mp hx)
theorem Kp.up2 {h D : Addr} {H H1 : Hp} {u : HO} (k : Kp h H H1) (hD : H D = none) : Kp h H (upd H1 D u) := fun c o e n => by
  rw [upd_ne (ne_of_none e hD)]
  exact k c o e n
end My
namespace My
open PySem PySem.Spec PyProof.Rows L2
/-! ### comprehensions within comprehensions: the readings of the inner ones are found ahead -/
section
variable {X : Cx}
theorem pi_listK {K : PySem.W.Frag} {tg l : Expr} {tl : TE} (hl : PE X l tl) (hK : X.K = K := by rfl) : PI X tg l (iList K tl) := by subst hK; exact pi_list hl
theorem pi_tupK {K : PySem.W.Frag} {tg l : Expr} {tl : TE} (hl : PE X l tl) (hK : X.K = K := by rfl) : PI X tg l (iTup K tl) := by subst hK; exact pi_tup hl
theorem pe_lcD {s0 : Shared} {H0 : Hp} {elt tg iter : Expr} {ifs : List Expr} {scope : Scope} {own : List (Str × Nat)} {pos : Pos} {wi : TI} {g : TG} {tt : TT} {te : TE} (hc : X.calm = true) (hN : X.N.Nodup) (hi : PI X tg iter wi) (ok : BlkOk X.N X.env.scope scope own)
    (_ : PTs (X.blk s0 H0 scope (compEnvC scope [] 0 X.env) []) ifs tt) (_ : PE (X.blk s0 H0 scope (compEnvC scope [] 0 X.env) []) elt te)
    (hg : ∀ (s : Shared) (H : Hp) (C : Addr) (cl : List (Str × Addr)) (fp : List Addr), PG (X.blk s H scope (compEnvC scope cl C X.env) fp) tg g) (ht : ∀ (s : Shared) (H : Hp) (C : Addr) (cl : List (Str × Addr)) (fp : List Addr), PTs (X.blk s H scope (compEnvC scope cl C X.env) fp) ifs tt)
    (he : ∀ (s : Shared) (H : Hp) (C : Addr) (cl : List (Str × Addr)) (fp : List Addr), PE (X.blk s H scope (compEnvC scope cl C X.env) fp) elt te) (hs : ∀ x, foldedSetIterable iter X.env x = pure x := by intro _; rfl) :
    PE X (.ListComp elt [⟨tg, iter, ifs, 0⟩] scope pos) (tLc wi g tt te (own.map (·.2))) := pe_lc hc hN hi ok hg ht he hs
theorem ps_setLcD {s0 : Shared} {H0 : Hp} {i : Nat} {y : Str} {py : Pos} {elt tg iter : Expr} {ifs : List Expr} {scope : Scope} {own : List (Str × Nat)} {pos spos : Pos} {wi : TI} {g : TG} {tt : TT} {te : TE} (hc : X.calm = true) (hN : X.N.Nodup) (hy : X.N[i]? = some y) (hyl : X.env.scope.names.lookup y = some .local)
    (hsw : swapsWith (.ListComp elt [⟨tg, iter, ifs, 0⟩] scope pos) (some (.Name y py)) spos.line X.env = pure true) (hi : PI X tg iter wi) (ok : BlkOk X.N X.env.scope scope own)
    (_ : PTs (X.blk s0 H0 scope (compEnvC scope [] 0 X.env) []) ifs tt) (_ : PE (X.blk s0 H0 scope (compEnvC scope [] 0 X.env) []) elt te)
    (hg : ∀ (s : Shared) (H : Hp) (C : Addr) (cl : List (Str × Addr)) (fp : List Addr), PG (X.blk s H scope (compEnvC scope cl C X.env) fp) tg g) (ht : ∀ (s : Shared) (H : Hp) (C : Addr) (cl : List (Str × Addr)) (fp : List Addr), PTs (X.blk s H scope (compEnvC scope cl C X.env) fp) ifs tt)
    (he : ∀ (s : Shared) (H : Hp) (C : Addr) (cl : List (Str × Addr)) (fp : List Addr), PE (X.blk s H scope (compEnvC scope cl C X.env) fp) elt te) (hs : ∀ x, foldedSetIterable iter X.env x = pure x := by intro _; rfl) :
    PS X (.Assign [.Name y py] (.ListComp elt [⟨tg, iter, ifs, 0⟩] scope pos) spos) (tAsg (tLc wi g tt te (own.map (·.2))) (gName i)) := ps_setLc hc hN hy hyl hsw hi ok hg ht he hs
end
end My
namespace K44
open PySem PySem.Spec PyProof.Rows L2 My
local macro_rules | `(tactic| walk_at "c") => `(tactic| first | (with_reducible apply eq_id; apply Eq.refl) | (with_reducible apply ile_id; omega) | (with_reducible apply ilt_id; omega) | (with_reducible apply nle_id; omega) | (with_reducible apply nlt_id; omega) | assumption | (apply Eq.refl; done) | with_reducible exact lf_marks _ _ _ _ | with_reducible exact lf_rule _ _ _ _ | with_reducible exact lf_least _ _ _ _ | with_reducible exact lf_most _ _ _ _ | with_reducible exact mf_top _ _ | with_reducible exact mf_bottom _ _ | with_reducible exact sf_low _ _ _ _ | with_reducible exact sf_high _ _ _ _ | with_reducible exact sf_low_in _ _ _ _ | with_reducible exact sf_high_in _ _ _ _ | exact SqL.of (by assumption) | exact SqT.of (by assumption) | exact Or.inl (SqL.of (by assumption)) | exact Or.inr (SqT.of (by assumption)) | exact Or.inr (by assumption) | exact Or.inl (by assumption) | omega | exact atI_nat (by assumption) | exact atI_of (n := 0) rfl (by assumption) | exact logS (by omega) | exact Or.inl (Or.inl ⟨by omega, by omega⟩) | exact Or.inl (Or.inr ⟨by omega, by omega⟩) | exact szb rfl | exact szs (by omega) | exact szl (by omega) | exact Or.inl ⟨Eq.refl _, _, SqL.of (by assumption)⟩ | exact ⟨_, SqT.of (by assumption)⟩ | exact ⟨_, SqL.of (by assumption)⟩ | exact ⟨by omega, by omega, by omega, by omega⟩)
local macro_rules | `(tactic| walk_at "e") => `(tactic| first | rfl | exact ⟨rfl, rfl⟩ | exact ⟨rfl, rfl, rfl⟩ | assumption | exact trivial)
local macro_rules | `(tactic| walk_at "w1") => `(tactic| first
  | refine q_belowT (by assumption) (by assumption) (by omega) (by omega) ?_ | refine q_belowA (by assumption) (by assumption) (by omega) (by omega) ?_ | refine q_subT (by assumption) (by assumption) (by omega) (by omega) (by omega) ?_
  | refine meth_q (by assumption) (by decide +kernel) (by decide +kernel) ?_ | refine meth_l (by assumption) (by decide +kernel) (by decide +kernel) (by decide +kernel) (by decide +kernel) ?_ | refine meth_s (by assumption) (by decide +kernel) (by decide +kernel) (by decide +kernel) (by decide +kernel) ?_
  | apply @Exists.intro V | apply @Exists.intro Int | apply @Exists.intro Addr | apply @Exists.intro Bool | apply @Exists.intro (List V) | apply @Exists.intro Str | apply @Exists.intro Nat | apply @Exists.intro (List (Str × V))
  | (apply And.intro; (focus (walk_at "c"))) | (with_reducible apply iteT) | (with_reducible apply iteF) | refine iteDT (by omega) ?_ | refine iteDF (by omega) ?_ | refine iteNS (by omega) ?_ | refine iteNT (by omega) ?_)
local macro_rules | `(tactic| walk_at "w") => `(tactic| repeat (walk_at "w1"))
local macro_rules | `(tactic| walk_at "wa1") => `(tactic| first | refine q_addT (by assumption) (by assumption) (by omega) (by omega) (by omega) ?_ | refine q_mulT (by assumption) (by assumption) (by omega) (by omega) (by omega) ?_ | walk_at "w1")
local macro_rules | `(tactic| walk_at "wa") => `(tactic| repeat (walk_at "wa1"))
local macro_rules | `(tactic| walk_at "hand") => `(tactic| first | assumption | exact HandAt.up (by walk_at "hand") (by assumption))
local macro_rules | `(tactic| walk_at "hp") => `(tactic| first | assumption | exact upd_same | exact up1 (by assumption) (by walk_at "hp") | exact Kp.get (by assumption) (by walk_at "hand") (by walk_at "hp") (by rfl) | exact L2.Same.get (by assumption) (by walk_at "hp") | exact up2 (by assumption) (by walk_at "hp") (by rfl))
local macro_rules | `(tactic| walk_at "n") => `(tactic| skip)

/-! ### what the top has written -/
structure Fds where
  is_whole : FuncData
  common_part : FuncData
  Measure_init : FuncData
  Measure_plus : FuncData
  Measure_minus : FuncData
  Measure_is_below : FuncData
  is_measure_or_none : FuncData
  measure_or : FuncData
  fits : FuncData
  fitting_of : FuncData
  first_bare : FuncData
  fewest_of : FuncData
  stock_for : FuncData
  slip_of : FuncData
  are_marks : FuncData
  is_rule : FuncData
  is_span : FuncData
  Ladder_init : FuncData
  l_hand : FuncData
  l_take : FuncData
  l_pick : FuncData
  l_plain : FuncData
  l_sum : FuncData
  l_less : FuncData
  l_measures : FuncData
  l_part : FuncData
  l_marks : FuncData
  l_any_ladder : FuncData
  l_width : FuncData
  l_fits : FuncData
  l_fitted_foot : FuncData
  l_lots : FuncData
  l_right : FuncData
  law : FuncData
structure Txt (K : PySem.W.Frag) (mg : Str → Option Value) (φ : Fds) : Prop where
  g_is_whole : mg "is_whole" = some (.ref (He.ga K "is_whole"))
  g_common_part : mg "common_part" = some (.ref (He.ga K "common_part"))
  g_is_measure_or_none : mg "is_measure_or_none" = some (.ref (He.ga K "is_measure_or_none"))
  g_measure_or : mg "measure_or" = some (.ref (He.ga K "measure_or"))
  g_fits : mg "fits" = some (.ref (He.ga K "fits"))
  g_fitting_of : mg "fitting_of" = some (.ref (He.ga K "fitting_of"))
  g_first_bare : mg "first_bare" = some (.ref (He.ga K "first_bare"))
  g_fewest_of : mg "fewest_of" = some (.ref (He.ga K "fewest_of"))
  g_stock_for : mg "stock_for" = some (.ref (He.ga K "stock_for"))
  g_slip_of : mg "slip_of" = some (.ref (He.ga K "slip_of"))
  g_are_marks : mg "are_marks" = some (.ref (He.ga K "are_marks"))
  g_is_rule : mg "is_rule" = some (.ref (He.ga K "is_rule"))
  g_is_span : mg "is_span" = some (.ref (He.ga K "is_span"))
  g_l_hand : mg "_law_hand" = some (.ref (He.ga K "_law_hand"))
  g_l_take : mg "_law_take" = some (.ref (He.ga K "_law_take"))
  g_l_pick : mg "_law_pick" = some (.ref (He.ga K "_law_pick"))
  g_l_plain : mg "_law_plain" = some (.ref (He.ga K "_law_plain"))
  g_l_sum : mg "_law_sum" = some (.ref (He.ga K "_law_sum"))
  g_l_less : mg "_law_less" = some (.ref (He.ga K "_law_less"))
  g_l_measures : mg "_law_measures" = some (.ref (He.ga K "_law_measures"))
  g_l_part : mg "_law_part" = some (.ref (He.ga K "_law_part"))
  g_l_marks : mg "_law_marks" = some (.ref (He.ga K "_law_marks"))
  g_l_any_ladder : mg "_law_any_ladder" = some (.ref (He.ga K "_law_any_ladder"))
  g_l_width : mg "_law_width" = some (.ref (He.ga K "_law_width"))
  g_l_fits : mg "_law_fits" = some (.ref (He.ga K "_law_fits"))
  g_l_fitted_foot : mg "_law_fitted_foot" = some (.ref (He.ga K "_law_fitted_foot"))
  g_l_lots : mg "_law_lots" = some (.ref (He.ga K "_law_lots"))
  g_l_right : mg "_law_right" = some (.ref (He.ga K "_law_right"))
  g_law : mg "law" = some (.ref (He.ga K "law"))
  g_Measure : mg "Measure" = some (.ref (He.ga K "Measure"))
  g_Ladder : mg "Ladder" = some (.ref (He.ga K "Ladder"))
  g_RULES : mg "RULES" = some (.ref (He.ga K "RULES"))
  v_MOST_MARKS : ∃ t, mg "MOST_MARKS" = some (.int 24 t)
  z_abs : mg "abs" = none
  z_all : mg "all" = none
  z_any : mg "any" = none
  z_bool : mg "bool" = none
  z_enumerate : mg "enumerate" = none
  z_int : mg "int" = none
  z_isinstance : mg "isinstance" = none
  z_len : mg "len" = none
  z_list : mg "list" = none
  z_max : mg "max" = none
  z_min : mg "min" = none
  z_range : mg "range" = none
  z_set : mg "set" = none
  z_sorted : mg "sorted" = none
  z_str : mg "str" = none
  z_tuple : mg "tuple" = none
  cl_Measure : Cls K (He.ga K "Measure")
  na_Measure_top : NoAttr K (He.ga K "Measure") "top"
  na_Measure_bottom : NoAttr K (He.ga K "Measure") "bottom"
  me_Measure_plus : Meth K (He.ga K "Measure") "plus" (He.ma K (He.ga K "Measure") "plus")
  me_Measure_minus : Meth K (He.ga K "Measure") "minus" (He.ma K (He.ga K "Measure") "minus")
  me_Measure_is_below : Meth K (He.ga K "Measure") "is_below" (He.ma K (He.ga K "Measure") "is_below")
  mk_Measure : Mk K (He.ga K "Measure") (He.ma K (He.ga K "Measure") "__init__")
  cl_Ladder : Cls K (He.ga K "Ladder")
  na_Ladder_marks : NoAttr K (He.ga K "Ladder") "marks"
  na_Ladder_rule : NoAttr K (He.ga K "Ladder") "rule"
  na_Ladder_least : NoAttr K (He.ga K "Ladder") "least"
  na_Ladder_most : NoAttr K (He.ga K "Ladder") "most"
  mk_Ladder : Mk K (He.ga K "Ladder") (He.ma K (He.ga K "Ladder") "__init__")
  ii_Measure : IsC K (He.ga K "Measure")
  tp_RULES : ∀ H, SqT K H (He.ga K "RULES") ((["up", "down", "near"] : List Str).map V.str)
  k_Measure_Measure : PySem.W.kitOne K (.ref (He.ga K "Measure")) (.ref (He.ga K "Measure")) = some true
  f_is_whole : FunD K "is_whole" "is_whole" (defArgs s_is_whole) (defBody s_is_whole) (defScope s_is_whole) [] [] (He.fAd K ("is_whole", none)) φ.is_whole
  f_common_part : FunD K "common_part" "common_part" (defArgs s_common_part) (defBody s_common_part) (defScope s_common_part) [] [] (He.fAd K ("common_part", none)) φ.common_part
  f_Measure_init : FunD K "__init__" "Measure.__init__" (defArgs s_Measure_init) (defBody s_Measure_init) (defScope s_Measure_init) [V.int 1] [] (He.fAd K ("Measure", some "__init__")) φ.Measure_init
  f_Measure_plus : FunD K "plus" "Measure.plus" (defArgs s_Measure_plus) (defBody s_Measure_plus) (defScope s_Measure_plus) [] [] (He.fAd K ("Measure", some "plus")) φ.Measure_plus
  f_Measure_minus : FunD K "minus" "Measure.minus" (defArgs s_Measure_minus) (defBody s_Measure_minus) (defScope s_Measure_minus) [] [] (He.fAd K ("Measure", some "minus")) φ.Measure_minus
  f_Measure_is_below : FunD K "is_below" "Measure.is_below" (defArgs s_Measure_is_below) (defBody s_Measure_is_below) (defScope s_Measure_is_below) [V.bl false] [] (He.fAd K ("Measure", some "is_below")) φ.Measure_is_below
  f_is_measure_or_none : FunD K "is_measure_or_none" "is_measure_or_none" (defArgs s_is_measure_or_none) (defBody s_is_measure_or_none) (defScope s_is_measure_or_none) [] [] (He.fAd K ("is_measure_or_none", none)) φ.is_measure_or_none
  f_measure_or : FunD K "measure_or" "measure_or" (defArgs s_measure_or) (defBody s_measure_or) (defScope s_measure_or) [] [] (He.fAd K ("measure_or", none)) φ.measure_or
  f_fits : FunD K "fits" "fits" (defArgs s_fits) (defBody s_fits) (defScope s_fits) [V.non] [] (He.fAd K ("fits", none)) φ.fits
  f_fitting_of : FunD K "fitting_of" "fitting_of" (defArgs s_fitting_of) (defBody s_fitting_of) (defScope s_fitting_of) [] [] (He.fAd K ("fitting_of", none)) φ.fitting_of
  f_first_bare : FunD K "first_bare" "first_bare" (defArgs s_first_bare) (defBody s_first_bare) (defScope s_first_bare) [] [] (He.fAd K ("first_bare", none)) φ.first_bare
  f_fewest_of : FunD K "fewest_of" "fewest_of" (defArgs s_fewest_of) (defBody s_fewest_of) (defScope s_fewest_of) [] [] (He.fAd K ("fewest_of", none)) φ.fewest_of
  f_stock_for : FunD K "stock_for" "stock_for" (defArgs s_stock_for) (defBody s_stock_for) (defScope s_stock_for) [V.non] [] (He.fAd K ("stock_for", none)) φ.stock_for
  f_slip_of : FunD K "slip_of" "slip_of" (defArgs s_slip_of) (defBody s_slip_of) (defScope s_slip_of) [] [] (He.fAd K ("slip_of", none)) φ.slip_of
  f_are_marks : FunD K "are_marks" "are_marks" (defArgs s_are_marks) (defBody s_are_marks) (defScope s_are_marks) [] [] (He.fAd K ("are_marks", none)) φ.are_marks
  f_is_rule : FunD K "is_rule" "is_rule" (defArgs s_is_rule) (defBody s_is_rule) (defScope s_is_rule) [] [] (He.fAd K ("is_rule", none)) φ.is_rule
  f_is_span : FunD K "is_span" "is_span" (defArgs s_is_span) (defBody s_is_span) (defScope s_is_span) [] [] (He.fAd K ("is_span", none)) φ.is_span
  f_Ladder_init : FunD K "__init__" "Ladder.__init__" (defArgs s_Ladder_init) (defBody s_Ladder_init) (defScope s_Ladder_init) [V.str "up", V.non, V.non] [] (He.fAd K ("Ladder", some "__init__")) φ.Ladder_init
  f_l_hand : FunD K "_law_hand" "_law_hand" (defArgs s_l_hand) (defBody s_l_hand) (defScope s_l_hand) [] [] (He.fAd K ("_law_hand", none)) φ.l_hand
  f_l_take : FunD K "_law_take" "_law_take" (defArgs s_l_take) (defBody s_l_take) (defScope s_l_take) [] [] (He.fAd K ("_law_take", none)) φ.l_take
  f_l_pick : FunD K "_law_pick" "_law_pick" (defArgs s_l_pick) (defBody s_l_pick) (defScope s_l_pick) [] [] (He.fAd K ("_law_pick", none)) φ.l_pick
  f_l_plain : FunD K "_law_plain" "_law_plain" (defArgs s_l_plain) (defBody s_l_plain) (defScope s_l_plain) [] [] (He.fAd K ("_law_plain", none)) φ.l_plain
  f_l_sum : FunD K "_law_sum" "_law_sum" (defArgs s_l_sum) (defBody s_l_sum) (defScope s_l_sum) [] [] (He.fAd K ("_law_sum", none)) φ.l_sum
  f_l_less : FunD K "_law_less" "_law_less" (defArgs s_l_less) (defBody s_l_less) (defScope s_l_less) [] [] (He.fAd K ("_law_less", none)) φ.l_less
  f_l_measures : FunD K "_law_measures" "_law_measures" (defArgs s_l_measures) (defBody s_l_measures) (defScope s_l_measures) [] [] (He.fAd K ("_law_measures", none)) φ.l_measures
  f_l_part : FunD K "_law_part" "_law_part" (defArgs s_l_part) (defBody s_l_part) (defScope s_l_part) [] [] (He.fAd K ("_law_part", none)) φ.l_part
  f_l_marks : FunD K "_law_marks" "_law_marks" (defArgs s_l_marks) (defBody s_l_marks) (defScope s_l_marks) [] [] (He.fAd K ("_law_marks", none)) φ.l_marks
  f_l_any_ladder : FunD K "_law_any_ladder" "_law_any_ladder" (defArgs s_l_any_ladder) (defBody s_l_any_ladder) (defScope s_l_any_ladder) [] [] (He.fAd K ("_law_any_ladder", none)) φ.l_any_ladder
  f_l_width : FunD K "_law_width" "_law_width" (defArgs s_l_width) (defBody s_l_width) (defScope s_l_width) [] [] (He.fAd K ("_law_width", none)) φ.l_width
  f_l_fits : FunD K "_law_fits" "_law_fits" (defArgs s_l_fits) (defBody s_l_fits) (defScope s_l_fits) [] [] (He.fAd K ("_law_fits", none)) φ.l_fits
  f_l_fitted_foot : FunD K "_law_fitted_foot" "_law_fitted_foot" (defArgs s_l_fitted_foot) (defBody s_l_fitted_foot) (defScope s_l_fitted_foot) [] [] (He.fAd K ("_law_fitted_foot", none)) φ.l_fitted_foot
  f_l_lots : FunD K "_law_lots" "_law_lots" (defArgs s_l_lots) (defBody s_l_lots) (defScope s_l_lots) [] [] (He.fAd K ("_law_lots", none)) φ.l_lots
  f_l_right : FunD K "_law_right" "_law_right" (defArgs s_l_right) (defBody s_l_right) (defScope s_l_right) [] [] (He.fAd K ("_law_right", none)) φ.l_right
  f_law : FunD K "law" "law" (defArgs s_law) (defBody s_law) (defScope s_law) [] [] (He.fAd K ("law", none)) φ.law
def sp_widthP : Sp := fun vs H Q _ => ∃ (h l : Addr) (n k : Nat) (us : List V) (zs : List Q2), vs = [.ref h, .ref l] ∧ HandAt H h n ∧ n < 10000 ∧ l ≠ h ∧ H l = some (.lst us) ∧ Tqs H k us zs ∧ 20 ≤ k ∧ k ≤ 1000 ∧ 0 < zs.length ∧ zs.length ≤ 24 ∧ RiseQ zs ∧
  ∀ (v : V) (z : Q2) (H' : Hp), HandAt H' h (n + 3) → Kp h H H' → TQ H' v (2 * k + 4) z → 0 ≤ z.1 → Q v H'
def sp_foot : Sp := fun vs H Q _ => ∃ (h l : Addr) (a b : V) (n k : Nat) (us : List V) (zs : List Q2) (x y : Q2), vs = [.ref h, .ref l, a, b] ∧ HandAt H h n ∧ n < 10000 ∧ l ≠ h ∧ H l = some (.lst us) ∧ Tqs H k us zs ∧ 20 ≤ k ∧ k ≤ 1000 ∧ 0 < zs.length ∧ zs.length ≤ 24 ∧ TQ H a (2 * k + 4) x ∧ TQ H b (2 * k + 4) y ∧
  ∀ (v : V) (z : Q2) (H' : Hp), HandAt H' h (n + 6) → Kp h H H' → TQ H' v (3 * k + 40) z → Q v H'
/-- pairs of a foot and whether the mark i fits it -/
def EdgeAt (H : Hp) (D : Addr) (k : Nat) (zs : List Q2) (x y : Q2) (i : Nat) : Prop := ∃ ts : List V, H D = some (.lst ts) ∧ ts.length = 4 ∧ ∀ v ∈ ts, ∃ (T : Addr) (w : V) (z : Q2) (b : Bool), v = .ref T ∧ H T = some (.tup [w, .bl b]) ∧ TQ H w k z ∧ fitQ zs z x y i = b
theorem EdgeAt.same {H H' : Hp} {D : Addr} {k : Nat} {zs : List Q2} {x y : Q2} {i : Nat} (a : EdgeAt H D k zs x y i) (s : Same H H') : EdgeAt H' D k zs x y i := by
  obtain ⟨ts, h1, h2, h3⟩ := a
  refine ⟨ts, s _ _ h1, h2, fun v hv => ?_⟩
  obtain ⟨T, w, z, b, e1, e2, e3, e4⟩ := h3 v hv
  exact ⟨T, w, z, b, e1, s _ _ e2, e3.same s, e4⟩
def sp_edge : Sp := fun vs H Q _ => ∃ (h l : Addr) (a b : V) (n k : Nat) (us : List V) (zs : List Q2) (x y : Q2), vs = [.ref h, .ref l, a, b] ∧ HandAt H h n ∧ n < 10000 ∧ l ≠ h ∧ H l = some (.lst us) ∧ Tqs H k us zs ∧ 20 ≤ k ∧ k ≤ 1000 ∧ 0 < zs.length ∧ zs.length ≤ 24 ∧ RiseQ zs ∧ TQ H a (2 * k + 4) x ∧ TQ H b (2 * k + 4) y ∧ 0 ≤ x.1 ∧ 0 ≤ y.1 ∧
  ∀ (T D : Addr) (i : Nat) (H' : Hp), HandAt H' h (n + 2) → Kp h H H' → D ≠ h → H' T = some (.tup [.int (i : Int), .ref D]) → EdgeAt H' D (3 * k + 60) zs x y i → i < zs.length → Q (.ref T) H'
def sp_fitsr (K : PySem.W.Frag) (CM CL : Addr) : Sp := fun vs H Q _ => ∃ (p D : Addr) (i : Nat) (a b : V) (k j : Nat) (zs : List Q2) (r : Str) (lo hi : Option Q2) (x y : Q2), vs = [.ref p, .int (i : Int), .ref D, a, b] ∧ LadAt K CM CL H p k zs r lo hi ∧ EdgeAt H D j zs x y i ∧ i < zs.length ∧ TQ H a j x ∧ TQ H b j y ∧ 0 < k ∧ k ≤ 4000 ∧ 0 < j ∧ j ≤ 4000 ∧ ∀ H', Same H H' → Q (.bl true) H'
def sp_neverr (K : PySem.W.Frag) (CM CL : Addr) : Sp := fun vs H Q _ => ∃ (p l S : Addr) (a b : V) (k j m : Nat) (us fs : List V) (zs xs : List Q2) (r : Str) (lo hi : Option Q2) (x y : Q2), vs = [.ref p, .ref l, .ref S, a, b] ∧ LadAt K CM CL H p k zs r lo hi ∧ H l = some (.lst us) ∧ Tqs H m us zs ∧ H S = some (.lst fs) ∧ Tqs H j fs xs ∧ xs.length ≤ 20 ∧ TQ H a j x ∧ TQ H b j y ∧ 0 < k ∧ k ≤ 1000 ∧ 0 < j ∧ j ≤ 3500 ∧ 0 < m ∧ m ≤ 1000 ∧ ∀ H', Same H H' → Q (.bl true) H'
theorem inV_idx {n k : Nat} {c : Nat → Bool} (hk : k < n) : inV (.int (k : Int)) ((idx n c).map V.int) = c k := by
  rw [Bool.eq_iff_iff]
  have e : inV (.int (k : Int)) ((idx n c).map V.int) = true ↔ (k : Int) ∈ idx n c := by
    unfold inV
    rw [List.any_eq_true]
    constructor
    · rintro ⟨v, hv, q⟩
      obtain ⟨z, hz, rfl⟩ := List.mem_map.mp hv
      have : z = (k : Int) := by
        have q : eqV (.int z) (.int (k : Int)) = true := q
        simpa [eqV] using q
      rw [← this]; exact hz
    · intro h
      exact ⟨.int (k : Int), List.mem_map.mpr ⟨_, h, rfl⟩, by simp [eqV]⟩
  rw [e, idx_mem]
  constructor
  · rintro ⟨j, _, cj, ej⟩
    have : k = j := by omega
    rw [this]; exact cj
  · intro h
    exact ⟨k, hk, h, rfl⟩

def sp_lfits : Sp := fun vs H Q _ => ∃ (l : Addr) (va vb vc : V) (k j : Nat) (us : List V) (zs : List Q2) (x s t : Q2), vs = [.ref l, va, vb, vc] ∧ H l = some (.lst us) ∧ Tqs H k us zs ∧ TQ H va j x ∧ TQ H vb j s ∧ TQ H vc j t ∧ 0 < k ∧ 0 < j ∧ k ≤ 1000 ∧ j ≤ 3500 ∧ zs.length ≤ 24 ∧
  ∀ (T : Addr) (H' : Hp), Same H H' → H' T = some (.tup ((idx zs.length (fitQ zs x s t)).map V.int)) → Q (.ref T) H'
def sp_same0 : Sp := fun vs H Q _ => ∃ a b : Int, vs = [.int a, .int b] ∧ Q (.bl (decide (a = b))) H
def sp_same1 (K : PySem.W.Frag) : Sp := fun vs H Q _ => ∃ (p q : Addr) (as : List Int), vs = [.ref p, .ref q] ∧ SqT K H p (as.map V.int) ∧ SqT K H q (as.map V.int) ∧ as.length ≤ 900 ∧ ∀ H', Same H H' → Q (.bl true) H'
def sp_right42 (K : PySem.W.Frag) (CM CL : Addr) : Sp := fun vs H Q _ => ∃ (c l : Addr) (va vb vc : V) (k j : Nat) (cs us : List V) (zs : List Q2) (x s t : Q2), vs = [.ref c, .ref l, va, vb, vc] ∧ H c = some (.lst cs) ∧ (∀ y ∈ cs, ∃ p r lo hi, y = .ref p ∧ LadAt K CM CL H p (k + 4) zs r lo hi) ∧ cs.length ≤ 10 ∧ H l = some (.lst us) ∧ Tqs H k us zs ∧ TQ H va j x ∧ TQ H vb j s ∧ TQ H vc j t ∧ 0 < k ∧ 0 < j ∧ k ≤ 1000 ∧ j ≤ 3500 ∧ zs.length ≤ 24 ∧
  ∀ H', Same H H' → Q (.bl true) H'
theorem qadd_neg (x t : Q2) : qadd x (0 - t.1, t.2) = qsub x t := by
  unfold qadd qsub
  show (x.1 * t.2 + (0 - t.1) * x.2, x.2 * t.2) = _
  rw [Int.zero_sub, Int.neg_mul, ← Int.sub_eq_add_neg]

def sp_fitting (K : PySem.W.Frag) (CM CL : Addr) : Sp := fun vs H Q _ => ∃ (p F s : Addr) (t : V) (k j : Nat) (fs : List V) (zs : List Q2) (r : Str) (lo hi : Option Q2) (xs : List Q2) (y : Q2) (e : Option Q2), vs = [.ref p, .ref F, .ref s, t] ∧ LadAt K CM CL H p k zs r lo hi ∧ SqT K H F fs ∧ Mks CM H j fs xs ∧ QAt CM H s j y ∧ QO CM H j t e ∧ 0 < k ∧ k ≤ 4000 ∧ 0 < j ∧ j ≤ 4000 ∧ xs.length ≤ 100 ∧
  ∀ (D : Addr) (H' : Hp), Same H H' → FitsL H' D (fitL zs xs y (e.getD (0, 1))) → Q (.ref D) H'
def sp_bare : Sp := fun vs H Q _ => ∃ (D : Addr) (ls : List (List Int)), vs = [.ref D] ∧ FitsL H D ls ∧ ls.length ≤ 100 ∧ (∀ l ∈ ls, l.length ≤ 24) ∧ ∀ o H', Same H H' → BareAt ls o → Q (optI o) H'
def sp_few : Sp := fun vs H Q _ => ∃ (D : Addr) (ls : List (List Int)), vs = [.ref D] ∧ FitsL H D ls ∧ ls.length ≤ 60 ∧ (∀ l ∈ ls, l.length ≤ 24) ∧ RunsI ls ∧
  ∀ (T S A : Addr) (ss as : List Int) (H' : Hp), Same H H' → H' T = some (.tup [.ref S, .ref A]) → H' S = some (.tup (ss.map V.int)) → H' A = some (.tup (as.map V.int)) → Few ls ss as → Q (.ref T) H'
/-- what stock_for tells -/
def StockV (H : Hp) (T : Addr) (ls : List (List Int)) : Prop :=
  (∃ n : Nat, BareAt ls (some n) ∧ H T = some (.tup [.str "never", .int (n : Int)])) ∨ (BareAt ls none ∧ ∃ (S A : Addr) (ss as : List Int), H T = some (.tup [.str "stock", .ref S, .ref A]) ∧ H S = some (.tup (ss.map V.int)) ∧ H A = some (.tup (as.map V.int)) ∧ Few ls ss as)
theorem StockV.same {H H' : Hp} {T : Addr} {ls : List (List Int)} (a : StockV H T ls) (s : Same H H') : StockV H' T ls := by
  rcases a with ⟨n, h1, h2⟩ | ⟨h0, S, A, ss, as, h1, h2, h3, h4⟩
  · exact .inl ⟨n, h1, s _ _ h2⟩
  · exact .inr ⟨h0, S, A, ss, as, s _ _ h1, s _ _ h2, s _ _ h3, h4⟩
def sp_stockfor (K : PySem.W.Frag) (CM CL : Addr) : Sp := fun vs H Q _ => ∃ (p F s : Addr) (t : V) (k j : Nat) (fs : List V) (zs : List Q2) (r : Str) (lo hi : Option Q2) (xs : List Q2) (y : Q2) (e : Option Q2), vs = [.ref p, .ref F, .ref s, t] ∧ LadAt K CM CL H p k zs r lo hi ∧ SqT K H F fs ∧ Mks CM H j fs xs ∧ QAt CM H s j y ∧ QO CM H j t e ∧ 0 < k ∧ k ≤ 4000 ∧ 0 < j ∧ j ≤ 4000 ∧ xs.length ≤ 60 ∧
  ∀ (T : Addr) (H' : Hp), Same H H' → StockV H' T (fitL zs xs y (e.getD (0, 1))) → Q (.ref T) H'
/-- the pair that stands there -/
def kPr (H : Hp) : V → Int × Int
  | .ref t => match H t with
    | some (.tup [.int a, .int b]) => (a, b)
    | _ => (0, 0)
  | _ => (0, 0)
theorem kPr_eq {H : Hp} {t : Addr} {a b : Int} (h : H t = some (.tup [.int a, .int b])) : kPr H (.ref t) = (a, b) := by
  simp only [kPr, h]
theorem fitL_len {zs xs : List Q2} {s t : Q2} : ∀ l ∈ fitL zs xs s t, l.length ≤ zs.length := fun l hl => by
  unfold fitL at hl
  obtain ⟨x, _, rfl⟩ := List.mem_map.mp hl
  exact idx_len
theorem getD_get {α : Type} {ls : List (List α)} {i : Nat} {l : List α} (h : ls[i]? = some l) : ls.getD i [] = l := by
  rw [List.getD_eq_getElem?_getD, h]; rfl
theorem first_at {ls : List (List Int)} {i : Nat} {x : Int} {l : List Int} (h : ls[i]? = some (x :: l)) : firstI ls (i : Int) = x := by
  unfold firstI
  rw [Int.toNat_natCast, getD_get h]; rfl
theorem last_at {ls : List (List Int)} {i : Nat} {l : List Int} {x : Int} (h : ls[i]? = some l) (g : l.getLast? = some x) : lastI ls (i : Int) = x := by
  unfold lastI
  rw [Int.toNat_natCast, getD_get h, g]; rfl

theorem fit_far {zs : List Q2} {a z x y f : Q2} {i : Nat} (h : zs[i]? = some a) (pa : 0 < a.2) (px : 0 < x.2) (py : 0 < y.2) (pf : 0 < f.2) (l : - toR x ≤ toR f) (u : toR f ≤ toR y) (r : Re z (qadd a f)) : fitQ zs z x y i = true := by
  rw [fitQ_R h pa r.1 px py, re_R r, add_R pa pf]
  grind
theorem half_far {x : Q2} (px : 0 < x.2) : toR (x.1, 2 * x.2) = toR x / 2 := by
  unfold toR
  have p1 := posR px
  simp only [Rat.intCast_mul]
  grind
theorem zero_far : toR (0, 1) = 0 := by unfold toR; grind
def sp_ffoot : Sp := fun vs H Q _ => ∃ (h l : Addr) (a b : V) (n k : Nat) (us : List V) (zs : List Q2) (x y : Q2), vs = [.ref h, .ref l, a, b] ∧ HandAt H h n ∧ n < 10000 ∧ l ≠ h ∧ H l = some (.lst us) ∧ Tqs H k us zs ∧ 20 ≤ k ∧ k ≤ 1000 ∧ 0 < zs.length ∧ zs.length ≤ 24 ∧ TQ H a (2 * k + 4) x ∧ TQ H b (2 * k + 4) y ∧ 0 ≤ x.1 ∧ 0 ≤ y.1 ∧
  ∀ (v : V) (z : Q2) (i : Nat) (H' : Hp), HandAt H' h (n + 2) → Kp h H H' → TQ H' v (3 * k + 10) z → i < zs.length → fitQ zs z x y i = true → Q v H'

def lotsL : Nat → List (List Int)
  | 0 => [[]]
  | n + 1 => lotsL n ++ (lotsL n).map (· ++ [(n : Int)])
theorem lots_len : ∀ n, (lotsL n).length = 2 ^ n
  | 0 => rfl
  | n + 1 => by
    show (lotsL n ++ (lotsL n).map (· ++ [(n : Int)])).length = 2 ^ (n + 1)
    rw [List.length_append, List.length_map, lots_len n, Nat.pow_succ]
    omega
theorem lots_mem : ∀ n, ∀ l ∈ lotsL n, l.length ≤ n
  | 0, l, h => by
    have : l = [] := by simpa [lotsL] using h
    rw [this]; exact Nat.le_refl _
  | n + 1, l, h => by
    have h : l ∈ lotsL n ++ (lotsL n).map (· ++ [(n : Int)]) := h
    rcases List.mem_append.mp h with h | h
    · have := lots_mem n l h
      omega
    · obtain ⟨l', h', rfl⟩ := List.mem_map.mp h
      have := lots_mem n l' h'
      rw [List.length_append, List.length_singleton]
      omega
theorem FitsL.app {H : Hp} {D : Addr} {ls ms : List (List Int)} {ts ws : List V} (h : H D = some (.lst (ts ++ ws))) (l1 : ts.length = ls.length) (l2 : ws.length = ms.length) (a : ∀ (i : Nat) (v : V) (l : List Int), ts[i]? = some v → ls[i]? = some l → ∃ T, v = .ref T ∧ H T = some (.tup (l.map V.int))) (b : ∀ (i : Nat) (v : V) (l : List Int), ws[i]? = some v → ms[i]? = some l → ∃ T, v = .ref T ∧ H T = some (.tup (l.map V.int))) : FitsL H D (ls ++ ms) := by
  refine ⟨ts ++ ws, h, by rw [List.length_append, List.length_append, l1, l2], fun i v l e1 e2 => ?_⟩
  by_cases q : i < ts.length
  · rw [List.getElem?_append_left q] at e1
    rw [List.getElem?_append_left (by omega)] at e2
    exact a i v l e1 e2
  · rw [List.getElem?_append_right (by omega)] at e1
    rw [List.getElem?_append_right (by omega), ← l1] at e2
    exact b _ v l e1 e2
def sp_lots : Sp := fun vs H Q _ => ∃ n : Nat, vs = [.int (n : Int)] ∧ n ≤ 6 ∧ ∀ (L : Addr) (H' : Hp), Same H H' → FitsL H' L (lotsL n) → Q (.ref L) H'

theorem apart_le {ls : List (List Int)} : ∀ {as lot : List Int}, as.Pairwise (fun a b => lastI ls a < firstI ls b ∨ lastI ls b < firstI ls a) → (∀ a ∈ as, ∃ s ∈ lot, firstI ls a ≤ s ∧ s ≤ lastI ls a) → as.length ≤ lot.length
  | [], _, _, _ => Nat.zero_le _
  | a :: as, lot, hp, hh => by
    obtain ⟨s, hs, h1, h2⟩ := hh a (by simp)
    obtain ⟨ha, hp'⟩ := List.pairwise_cons.mp hp
    have ih := apart_le (ls := ls) (as := as) (lot := lot.erase s) hp' fun b hb => by
      obtain ⟨s', hs', g1, g2⟩ := hh b (by simp [hb])
      refine ⟨s', ?_, g1, g2⟩
      have ne : s' ≠ s := fun q => by
        subst q
        rcases ha b hb with z | z <;> omega
      exact (List.mem_erase_of_ne ne).mpr hs'
    rw [List.length_erase_of_mem hs] at ih
    have : 0 < lot.length := List.length_pos_of_mem hs
    rw [List.length_cons]
    omega
/-- no lot that hits all runs is of fewer sizes -/
theorem Few.le {ls : List (List Int)} {ss as lot : List Int} (f : Few ls ss as) (h : ∀ i : Nat, i < ls.length → ∃ s ∈ lot, firstI ls i ≤ s ∧ s ≤ lastI ls i) : ss.length ≤ lot.length := by
  rw [f.len]
  refine apart_le (ls := ls) (List.pairwise_iff_getElem.mpr fun i j hi hj hij => ?_) fun a ha => ?_
  · refine f.apart _ (List.getElem_mem hi) _ (List.getElem_mem hj) fun q => ?_
    have := f.arise.lt hij (List.getElem?_eq_getElem hi) (List.getElem?_eq_getElem hj)
    omega
  · obtain ⟨i, rfl, hi⟩ := f.mem a ha
    exact h i hi
theorem rise_last {ss : List Int} (h : RiseI ss) {m : Int} (hm : ss.getLast? = some m) : ∀ (j : Nat) (s : Int), ss[j]? = some s → s ≤ m := fun j s hs => by
  have l := (List.getElem?_eq_some_iff.mp hs).1
  have hl : ss[ss.length - 1]? = some m := by rw [← List.getLast?_eq_getElem?]; exact hm
  by_cases q : j = ss.length - 1
  · rw [q, hl] at hs
    cases hs
    exact Int.le_refl _
  · exact Int.le_of_lt (h.lt (show j < ss.length - 1 by omega) hs hl)
/-- rising sizes are one of all lots -/
theorem lots_has : ∀ (n : Nat) (ss : List Int), RiseI ss → (∀ s ∈ ss, 0 ≤ s ∧ s < (n : Int)) → ss ∈ lotsL n
  | 0, ss, _, hb => by
    cases ss with
    | nil => simp [lotsL]
    | cons s ss => have := hb s (by simp); omega
  | n + 1, ss, hr, hb => by
    show ss ∈ lotsL n ++ (lotsL n).map (· ++ [(n : Int)])
    cases e : ss.getLast? with
    | none =>
      have : ss = [] := List.getLast?_eq_none_iff.mp e
      subst this
      exact List.mem_append.mpr (.inl (lots_has n [] (fun i a b h => by simp at h) fun s h => by simp at h))
    | some m =>
      have hm := hb m (List.mem_of_getLast? e)
      have le := rise_last hr e
      by_cases q : m = (n : Int)
      · subst q
        obtain ⟨pre, epre⟩ : ∃ pre, ss = pre ++ [(n : Int)] := by
          have := List.getLast?_eq_some_iff.mp e
          exact this
        subst epre
        refine List.mem_append.mpr (.inr (List.mem_map.mpr ⟨pre, lots_has n pre (fun i a b h1 h2 => ?_) (fun s hs => ?_), rfl⟩))
        · have l2 := (List.getElem?_eq_some_iff.mp h2).1
          exact hr i a b (by rw [List.getElem?_append_left (by omega)]; exact h1) (by rw [List.getElem?_append_left l2]; exact h2)
        · obtain ⟨j, hj⟩ := List.mem_iff_getElem?.mp hs
          have lj := (List.getElem?_eq_some_iff.mp hj).1
          have h1 : (pre ++ [(n : Int)])[j]? = some s := by rw [List.getElem?_append_left lj]; exact hj
          have h2 : (pre ++ [(n : Int)])[pre.length]? = some (n : Int) := by simp
          have := hr.lt lj h1 h2
          exact ⟨(hb s (by simp [hs])).1, this⟩
      · refine List.mem_append.mpr (.inl (lots_has n ss hr fun s hs => ?_))
        obtain ⟨j, hj⟩ := List.mem_iff_getElem?.mp hs
        have := le j s hj
        have := hb s hs
        omega

theorem flat_ints (l : List Int) : (l.map V.int).all flatV = true := by
  rw [List.all_eq_true]
  intro v hv
  obtain ⟨z, _, rfl⟩ := List.mem_map.mp hv
  rfl
theorem inV_ints (s : Int) (l : List Int) : inV (.int s) (l.map V.int) = decide (s ∈ l) := by
  rw [Bool.eq_iff_iff, decide_eq_true_iff]
  unfold inV
  rw [List.any_eq_true]
  constructor
  · rintro ⟨v, hv, q⟩
    obtain ⟨z, hz, rfl⟩ := List.mem_map.mp hv
    have : z = s := by
      have q : eqV (.int z) (.int s) = true := q
      simpa [eqV] using q
    rw [← this]; exact hz
  · intro h
    exact ⟨.int s, List.mem_map.mpr ⟨_, h, rfl⟩, by simp [eqV]⟩
/-- each is a run of numbers below n -/
def RunsC (ls : List (List Int)) (n : Nat) : Prop := ∀ (i : Nat) (l : List Int), ls[i]? = some l → ∃ a m : Nat, a + m + 1 ≤ n ∧ l = (List.range' a (m + 1)).map (fun k : Nat => (k : Int))
theorem RunsC.at {ls : List (List Int)} {n i : Nat} {l : List Int} (h : RunsC ls n) (e : ls[i]? = some l) : 0 ≤ firstI ls i ∧ lastI ls i < (n : Int) ∧ firstI ls i ≤ lastI ls i ∧ ∀ x : Int, x ∈ l ↔ firstI ls i ≤ x ∧ x ≤ lastI ls i := by
  obtain ⟨a, m, h1, rfl⟩ := h i l e
  have f : firstI ls (i : Int) = (a : Int) := first_at (l := (List.range' (a + 1) m).map (fun k : Nat => (k : Int))) (by rw [e, List.range'_succ]; rfl)
  have g : lastI ls (i : Int) = ((a + m : Nat) : Int) := last_at e (by rw [List.getLast?_eq_getElem?, List.length_map, List.length_range', List.getElem?_map, List.getElem?_range' (by omega)]; simp)
  rw [f, g]
  refine ⟨by omega, by omega, by omega, fun x => ?_⟩
  rw [List.mem_map]
  constructor
  · rintro ⟨k, hk, rfl⟩
    have := List.mem_range'_1.mp hk
    omega
  · rintro ⟨h2, h3⟩
    exact ⟨x.toNat, List.mem_range'_1.mpr (by omega), by omega⟩
/-- a lot that hits all -/
def goodB (ls : List (List Int)) (lot : List Int) : Bool := ls.all fun l => lot.any fun s => decide (s ∈ l)
theorem good_iff {ls : List (List Int)} {n : Nat} (h : RunsC ls n) {lot : List Int} : goodB ls lot = true ↔ ∀ i : Nat, i < ls.length → ∃ s ∈ lot, firstI ls i ≤ s ∧ s ≤ lastI ls i := by
  unfold goodB
  rw [List.all_eq_true]
  constructor
  · intro g i hi
    have e : ls[i]? = some ls[i] := List.getElem?_eq_getElem hi
    have := g _ (List.mem_of_getElem? e)
    rw [List.any_eq_true] at this
    obtain ⟨s, hs, q⟩ := this
    exact ⟨s, hs, ((h.at e).2.2.2 s).mp (of_decide_eq_true q)⟩
  · intro g l hl
    obtain ⟨i, e⟩ := List.mem_iff_getElem?.mp hl
    obtain ⟨s, hs, q⟩ := g i (List.getElem?_eq_some_iff.mp e).1
    rw [List.any_eq_true]
    exact ⟨s, hs, decide_eq_true (((h.at e).2.2.2 s).mpr q)⟩
def keepV (p : List Int → Bool) (ts : List V) (ls : List (List Int)) : List (Option V) := List.zipWith (fun (t : V) (l : List Int) => if p l then some t else none) ts ls
theorem keepV_at {p : List Int → Bool} {ts : List V} {ls : List (List Int)} {i : Nat} {t : V} {l : List Int} (h1 : ts[i]? = some t) (h2 : ls[i]? = some l) : (keepV p ts ls)[i]? = some (if p l then some t else none) := by
  unfold keepV
  rw [List.getElem?_zipWith, h1, h2]
theorem keepV_len {p : List Int → Bool} {ts : List V} {ls : List (List Int)} (h : ts.length = ls.length) : (keepV p ts ls).length = ts.length := by
  unfold keepV
  rw [List.length_zipWith]; omega
theorem keep_all {H : Hp} (p : List Int → Bool) : ∀ {ts : List V} {ls : List (List Int)}, ts.length = ls.length → (∀ (i : Nat) (v : V) (l : List Int), ts[i]? = some v → ls[i]? = some l → ∃ T, v = .ref T ∧ H T = some (.tup (l.map V.int))) →
    ((keepV p ts ls).filterMap _root_.id).length = (ls.filter p).length ∧ ∀ (i : Nat) (v : V) (l : List Int), ((keepV p ts ls).filterMap _root_.id)[i]? = some v → (ls.filter p)[i]? = some l → ∃ T, v = .ref T ∧ H T = some (.tup (l.map V.int))
  | [], [], _, _ => ⟨rfl, fun i v l e1 e2 => by simp at e2⟩
  | [], _ :: _, h, _ => by simp at h
  | _ :: _, [], h, _ => by simp at h
  | t :: ts, l :: ls, h, hh => by
    obtain ⟨g1, g2⟩ := keep_all (H := H) p (ts := ts) (ls := ls) (by simpa using h) fun i v l e1 e2 => hh (i + 1) v l (by simpa using e1) (by simpa using e2)
    have e : keepV p (t :: ts) (l :: ls) = (if p l then some t else none) :: keepV p ts ls := rfl
    rw [e, List.filter_cons]
    by_cases q : p l = true
    · rw [if_pos q, if_pos q, List.filterMap_cons]
      refine ⟨by show (_ :: _).length = _; rw [List.length_cons, List.length_cons, g1], fun i v l' e1 e2 => ?_⟩
      cases i with
      | zero => exact hh 0 v l' e1 e2
      | succ i => exact g2 i v l' e1 (by simpa using e2)
    · rw [if_neg q, if_neg q, List.filterMap_cons]
      exact ⟨g1, g2⟩
theorem FitsL.filt {H : Hp} {D : Addr} (p : List Int → Bool) {ts : List V} {ls : List (List Int)} (lt : ts.length = ls.length) (hts : ∀ (i : Nat) (v : V) (l : List Int), ts[i]? = some v → ls[i]? = some l → ∃ T, v = .ref T ∧ H T = some (.tup (l.map V.int))) (h : H D = some (.lst ((keepV p ts ls).filterMap _root_.id))) : FitsL H D (ls.filter p) :=
  ⟨_, h, (keep_all p lt hts).1, (keep_all p lt hts).2⟩
theorem any_list (ls : List (List Int)) (x : List Int) : ((ls.map fun l => intsD l).any fun z => PyData.eqv z (intsD x)) = decide (x ∈ ls) := by
  rw [Bool.eq_iff_iff, decide_eq_true_iff, List.any_eq_true]
  constructor
  · rintro ⟨z, hz, e⟩
    obtain ⟨l, hl, rfl⟩ := List.mem_map.mp hz
    rw [eqv_intsD] at e
    rw [← of_decide_eq_true e]; exact hl
  · intro h
    exact ⟨intsD x, List.mem_map.mpr ⟨x, h, rfl⟩, by rw [eqv_intsD]; exact decide_eq_true rfl⟩
theorem few_good {ls : List (List Int)} {ss as : List Int} {n : Nat} (C : RunsC ls n) (f : Few ls ss as) : ss ∈ (lotsL n).filter (goodB ls) := by
  rw [List.mem_filter]
  refine ⟨lots_has n ss f.rise fun s hs => ?_, (good_iff C).mpr f.hit⟩
  obtain ⟨i, hi, e⟩ := f.own s hs
  have := C.at (List.getElem?_eq_getElem hi)
  omega
theorem few_min {ls : List (List Int)} {ss as : List Int} {n : Nat} (C : RunsC ls n) (f : Few ls ss as) {m : Int} (hm : m ∈ ((lotsL n).filter (goodB ls)).map fun l => (l.length : Int)) (hmin : ∀ y, y ∈ ((lotsL n).filter (goodB ls)).map (fun l => (l.length : Int)) → m ≤ y) : m = (ss.length : Int) := by
  have h1 := hmin _ (List.mem_map.mpr ⟨ss, few_good C f, rfl⟩)
  obtain ⟨l, hl, rfl⟩ := List.mem_map.mp hm
  have h2 := Few.le f ((good_iff C).mp (List.mem_filter.mp hl).2)
  omega
theorem rise_pw : ∀ {l : List Int}, RiseI l → l.Pairwise (· < ·) := fun {l} h => List.pairwise_iff_getElem.mpr fun i j hi hj hij => h.lt hij (List.getElem?_eq_getElem hi) (List.getElem?_eq_getElem hj)
theorem pw_eq : ∀ {a b : List Int}, a.Pairwise (· < ·) → b.Pairwise (· < ·) → (∀ x, x ∈ a ↔ x ∈ b) → a = b
  | [], [], _, _, _ => rfl
  | [], y :: b, _, _, h => by have := (h y).mpr (by simp); simp at this
  | x :: a, [], _, _, h => by have := (h x).mp (by simp); simp at this
  | x :: a, y :: b, ha, hb, h => by
    obtain ⟨xa, ha2⟩ := List.pairwise_cons.mp ha
    obtain ⟨yb, hb2⟩ := List.pairwise_cons.mp hb
    have e : x = y := by
      have h1 := (h x).mp (by simp)
      have h2 := (h y).mpr (by simp)
      rcases List.mem_cons.mp h1 with q | q
      · exact q
      · rcases List.mem_cons.mp h2 with q2 | q2
        · exact q2.symm
        · have := yb x q; have := xa y q2; omega
    subst e
    refine congrArg (List.cons x) (pw_eq ha2 hb2 fun z => ?_)
    constructor
    · intro hz
      rcases List.mem_cons.mp ((h z).mp (by simp [hz])) with q | q
      · subst q; have := xa z hz; omega
      · exact q
    · intro hz
      rcases List.mem_cons.mp ((h z).mpr (by simp [hz])) with q | q
      · subst q; have := yb z hz; omega
      · exact q
theorem apart_no {ls : List (List Int)} {n i j : Nat} {l m : List Int} (C : RunsC ls n) (h1 : ls[i]? = some l) (h2 : ls[j]? = some m) (h : lastI ls i < firstI ls j ∨ lastI ls j < firstI ls i) : (l.any fun s => decide (s ∈ m)) = false := by
  rw [Bool.eq_false_iff]
  intro q
  rw [List.any_eq_true] at q
  obtain ⟨s, hs, q⟩ := q
  have a1 := ((C.at h1).2.2.2 s).mp hs
  have a2 := ((C.at h2).2.2.2 s).mp (of_decide_eq_true q)
  omega
theorem map_any (l : List Int) (p : Int → Bool) : (l.map p).any _root_.id = l.any p := by
  rw [List.any_map]; rfl
theorem fmap_some {α β : Type} (f : α → β) (l : List α) : (l.map fun x => some (f x)).filterMap _root_.id = l.map f := by
  rw [List.filterMap_map]
  induction l with
  | nil => rfl
  | cons x l ih => rw [List.filterMap_cons, List.map_cons, ← ih]; rfl
def sp_right44 : Sp := fun vs H Q _ => ∃ (T S A R : Addr) (ls : List (List Int)) (ss as : List Int) (n : Nat), vs = [.ref T, .ref R, .int (n : Int)] ∧ H T = some (.tup [.str "stock", .ref S, .ref A]) ∧ H S = some (.tup (ss.map V.int)) ∧ H A = some (.tup (as.map V.int)) ∧ FitsL H R ls ∧ Few ls ss as ∧ RunsC ls n ∧ n ≤ 6 ∧ ls.length ≤ 20 ∧ ∀ H', Same H H' → Q (.bl true) H'

def sp_law (K : PySem.W.Frag) : Sp := fun vs H Q _ => ∃ (a : Addr) (ns : List Int), vs = [.ref a] ∧ SqL K H a (ns.map V.int) ∧ ns.length ≤ 63 ∧ ∀ H', Q (.bl true) H'

theorem tq_uniq {H : Hp} {v : V} {k j : Nat} {z w : Q2} (a : TQ H v k z) (b : TQ H v j w) : z = w := by
  obtain ⟨p, rfl, h, _⟩ := a
  obtain ⟨p2, e, h2, _⟩ := b
  cases e
  rw [h] at h2
  have h3 := HO.tup.inj (Option.some.inj h2)
  simp at h3
  exact Prod.ext h3.1 h3.2
theorem fit_conv {zs : List Q2} (ri : RiseQ zs) (hp : ∀ z ∈ zs, 0 < z.2) {w x y : Q2} (pw : 0 < w.2) (px : 0 < x.2) (py : 0 < y.2) : ∀ a b d, a < b → b < d → d < zs.length → fitQ zs w x y a = true → fitQ zs w x y d = true → fitQ zs w x y b = true := fun a b d h1 h2 h3 fa fd => by
  have ea : zs[a]? = some zs[a] := List.getElem?_eq_getElem (by omega)
  have eb : zs[b]? = some zs[b] := List.getElem?_eq_getElem (by omega)
  have ed : zs[d]? = some zs[d] := List.getElem?_eq_getElem h3
  have pa := hp _ (List.mem_of_getElem? ea)
  have pb := hp _ (List.mem_of_getElem? eb)
  have pd := hp _ (List.mem_of_getElem? ed)
  have l1 := (ltq_R pa pb).mp (rise_ltq ri hp h1 ea eb)
  have l2 := (ltq_R pb pd).mp (rise_ltq ri hp h2 eb ed)
  have ga := (fitQ_R ea pa pw px py).mp fa
  have gd := (fitQ_R ed pd pw px py).mp fd
  refine (fitQ_R eb pb pw px py).mpr ⟨?_, ?_⟩ <;> grind
theorem fit_runs {zs xs : List Q2} (ri : RiseQ zs) (hp : ∀ z ∈ zs, 0 < z.2) (hx : ∀ z ∈ xs, 0 < z.2) {x y : Q2} (px : 0 < x.2) (py : 0 < y.2) (fit : ∀ z ∈ xs, ∃ i, i < zs.length ∧ fitQ zs z x y i = true) : RunsC (fitL zs xs x y) zs.length := fun i l h => by
  unfold fitL at h
  rw [List.getElem?_map] at h
  cases e : xs[i]? with
  | none => rw [e] at h; cases h
  | some w =>
    rw [e] at h
    cases h
    have hw := List.mem_of_getElem? e
    rcases idx_run (n := zs.length) (c := fitQ zs w x y) (fit_conv ri hp (hx w hw) px py) with q | ⟨a, m, h1, h2, h3⟩
    · obtain ⟨i, hi, f⟩ := fit w hw
      have : (i : Int) ∈ idx zs.length (fitQ zs w x y) := (idx_mem).mpr ⟨i, hi, f, rfl⟩
      rw [q] at this
      cases this
    · exact ⟨a, m, h1, h2⟩
theorem fit_bare {zs xs : List Q2} {x y : Q2} {n : Nat} (fit : ∀ z ∈ xs, ∃ i, i < zs.length ∧ fitQ zs z x y i = true) (b : BareAt (fitL zs xs x y) (some n)) : False := by
  have h := b.1
  unfold fitL at h
  rw [List.getElem?_map] at h
  cases e : xs[n]? with
  | none => rw [e] at h; cases h
  | some w =>
    rw [e] at h
    obtain ⟨i, hi, f⟩ := fit w (List.mem_of_getElem? e)
    have : (i : Int) ∈ idx zs.length (fitQ zs w x y) := (idx_mem).mpr ⟨i, hi, f, rfl⟩
    rw [show idx zs.length (fitQ zs w x y) = [] from Option.some.inj h] at this
    cases this
structure G44 (K : PySem.W.Frag) (CM CL : Addr) (H : Hp) (h pc l : Addr) (us : List V) (zs : List Q2) (r : Str) (lo hi : Option Q2) : Prop where
  la : LadAt K CM CL H pc 142 zs r lo hi
  hl : H l = some (.lst us)
  nl : l ≠ h
  tq : Tqs H 138 us zs
  l0 : 0 < zs.length
  l1 : zs.length ≤ 6
  ri : RiseQ zs
theorem G44.kp {K : PySem.W.Frag} {CM CL : Addr} {H H' : Hp} {h pc l : Addr} {us : List V} {zs : List Q2} {r : Str} {lo hi : Option Q2} {n : Nat} (G : G44 K CM CL H h pc l us zs r lo hi) (hh : HandAt H h n) (k : Kp h H H') : G44 K CM CL H' h pc l us zs r lo hi :=
  ⟨G.la.kp hh k, k _ _ G.hl G.nl, G.nl, G.tq.kp hh k, G.l0, G.l1, G.ri⟩

theorem b_is_whole_1 {K : PySem.W.Frag} {mg : Str → Option Value} {φ : Fds} (T : Txt K mg φ) : ∃ ds, Vals ([] : List V) ds ∧ Binds K φ.is_whole p_is_whole ds :=
  ⟨[], .nil, T.f_is_whole.bindsN fun _ _ _ _ _ _ us hl => match us, hl with | [_], _ => rfl⟩
theorem b_common_part_2 {K : PySem.W.Frag} {mg : Str → Option Value} {φ : Fds} (T : Txt K mg φ) : ∃ ds, Vals ([] : List V) ds ∧ Binds K φ.common_part p_common_part ds :=
  ⟨[], .nil, T.f_common_part.bindsN fun _ _ _ _ _ _ us hl => match us, hl with | [_, _], _ => rfl⟩
theorem b_Measure_is_below_2 {K : PySem.W.Frag} {mg : Str → Option Value} {φ : Fds} (T : Txt K mg φ) : ∃ ds, Vals ([V.bl false] : List V) ds ∧ Binds K φ.Measure_is_below p_Measure_is_below ds :=
  T.f_Measure_is_below.binds1 2 0 (by simp) rfl fun _ _ _ _ _ _ _ us its h1 h2 => match us, its, h1, h2 with | [_, _], [_], _, _ => ⟨_, rfl, rfl⟩
theorem b_Measure_is_below_3 {K : PySem.W.Frag} {mg : Str → Option Value} {φ : Fds} (T : Txt K mg φ) : ∃ ds, Vals ([] : List V) ds ∧ Binds K φ.Measure_is_below p_Measure_is_below ds :=
  T.f_Measure_is_below.binds1 3 1 (by simp) rfl fun _ _ _ _ _ _ _ us its h1 h2 => match us, its, h1, h2 with | [_, _, _], [_], _, _ => ⟨_, rfl, rfl⟩
theorem b_are_marks_1 {K : PySem.W.Frag} {mg : Str → Option Value} {φ : Fds} (T : Txt K mg φ) : ∃ ds, Vals ([] : List V) ds ∧ Binds K φ.are_marks p_are_marks ds :=
  ⟨[], .nil, T.f_are_marks.bindsN fun _ _ _ _ _ _ us hl => match us, hl with | [_], _ => rfl⟩
theorem b_is_rule_1 {K : PySem.W.Frag} {mg : Str → Option Value} {φ : Fds} (T : Txt K mg φ) : ∃ ds, Vals ([] : List V) ds ∧ Binds K φ.is_rule p_is_rule ds :=
  ⟨[], .nil, T.f_is_rule.bindsN fun _ _ _ _ _ _ us hl => match us, hl with | [_], _ => rfl⟩
theorem b_is_measure_or_none_1 {K : PySem.W.Frag} {mg : Str → Option Value} {φ : Fds} (T : Txt K mg φ) : ∃ ds, Vals ([] : List V) ds ∧ Binds K φ.is_measure_or_none p_is_measure_or_none ds :=
  ⟨[], .nil, T.f_is_measure_or_none.bindsN fun _ _ _ _ _ _ us hl => match us, hl with | [_], _ => rfl⟩
theorem b_is_span_2 {K : PySem.W.Frag} {mg : Str → Option Value} {φ : Fds} (T : Txt K mg φ) : ∃ ds, Vals ([] : List V) ds ∧ Binds K φ.is_span p_is_span ds :=
  ⟨[], .nil, T.f_is_span.bindsN fun _ _ _ _ _ _ us hl => match us, hl with | [_, _], _ => rfl⟩
theorem b_slip_of_1 {K : PySem.W.Frag} {mg : Str → Option Value} {φ : Fds} (T : Txt K mg φ) : ∃ ds, Vals ([] : List V) ds ∧ Binds K φ.slip_of p_slip_of ds :=
  ⟨[], .nil, T.f_slip_of.bindsN fun _ _ _ _ _ _ us hl => match us, hl with | [_], _ => rfl⟩
theorem b_l_take_2 {K : PySem.W.Frag} {mg : Str → Option Value} {φ : Fds} (T : Txt K mg φ) : ∃ ds, Vals ([] : List V) ds ∧ Binds K φ.l_take p_l_take ds :=
  ⟨[], .nil, T.f_l_take.bindsN fun _ _ _ _ _ _ us hl => match us, hl with | [_, _], _ => rfl⟩
theorem b_l_plain_2 {K : PySem.W.Frag} {mg : Str → Option Value} {φ : Fds} (T : Txt K mg φ) : ∃ ds, Vals ([] : List V) ds ∧ Binds K φ.l_plain p_l_plain ds :=
  ⟨[], .nil, T.f_l_plain.bindsN fun _ _ _ _ _ _ us hl => match us, hl with | [_, _], _ => rfl⟩
theorem b_Measure_init_3 {K : PySem.W.Frag} {mg : Str → Option Value} {φ : Fds} (T : Txt K mg φ) : ∃ ds, Vals ([] : List V) ds ∧ Binds K φ.Measure_init p_Measure_init ds :=
  T.f_Measure_init.binds1 3 1 (by simp) rfl fun _ _ _ _ _ _ _ us its h1 h2 => match us, its, h1, h2 with | [_, _, _], [_], _, _ => ⟨_, rfl, rfl⟩
theorem b_l_pick_2 {K : PySem.W.Frag} {mg : Str → Option Value} {φ : Fds} (T : Txt K mg φ) : ∃ ds, Vals ([] : List V) ds ∧ Binds K φ.l_pick p_l_pick ds :=
  ⟨[], .nil, T.f_l_pick.bindsN fun _ _ _ _ _ _ us hl => match us, hl with | [_, _], _ => rfl⟩
theorem b_l_part_1 {K : PySem.W.Frag} {mg : Str → Option Value} {φ : Fds} (T : Txt K mg φ) : ∃ ds, Vals ([] : List V) ds ∧ Binds K φ.l_part p_l_part ds :=
  ⟨[], .nil, T.f_l_part.bindsN fun _ _ _ _ _ _ us hl => match us, hl with | [_], _ => rfl⟩
theorem b_l_sum_2 {K : PySem.W.Frag} {mg : Str → Option Value} {φ : Fds} (T : Txt K mg φ) : ∃ ds, Vals ([] : List V) ds ∧ Binds K φ.l_sum p_l_sum ds :=
  ⟨[], .nil, T.f_l_sum.bindsN fun _ _ _ _ _ _ us hl => match us, hl with | [_, _], _ => rfl⟩
theorem b_Measure_init_2 {K : PySem.W.Frag} {mg : Str → Option Value} {φ : Fds} (T : Txt K mg φ) : ∃ ds, Vals ([V.int 1] : List V) ds ∧ Binds K φ.Measure_init p_Measure_init ds :=
  T.f_Measure_init.binds1 2 0 (by simp) rfl fun _ _ _ _ _ _ _ us its h1 h2 => match us, its, h1, h2 with | [_, _], [_], _, _ => ⟨_, rfl, rfl⟩
theorem b_Measure_minus_2 {K : PySem.W.Frag} {mg : Str → Option Value} {φ : Fds} (T : Txt K mg φ) : ∃ ds, Vals ([] : List V) ds ∧ Binds K φ.Measure_minus p_Measure_minus ds :=
  ⟨[], .nil, T.f_Measure_minus.bindsN fun _ _ _ _ _ _ us hl => match us, hl with | [_, _], _ => rfl⟩
theorem b_measure_or_2 {K : PySem.W.Frag} {mg : Str → Option Value} {φ : Fds} (T : Txt K mg φ) : ∃ ds, Vals ([] : List V) ds ∧ Binds K φ.measure_or p_measure_or ds :=
  ⟨[], .nil, T.f_measure_or.bindsN fun _ _ _ _ _ _ us hl => match us, hl with | [_, _], _ => rfl⟩
theorem b_Measure_plus_2 {K : PySem.W.Frag} {mg : Str → Option Value} {φ : Fds} (T : Txt K mg φ) : ∃ ds, Vals ([] : List V) ds ∧ Binds K φ.Measure_plus p_Measure_plus ds :=
  ⟨[], .nil, T.f_Measure_plus.bindsN fun _ _ _ _ _ _ us hl => match us, hl with | [_, _], _ => rfl⟩
theorem b_Ladder_init_5 {K : PySem.W.Frag} {mg : Str → Option Value} {φ : Fds} (T : Txt K mg φ) : ∃ ds, Vals ([] : List V) ds ∧ Binds K φ.Ladder_init p_Ladder_init ds :=
  T.f_Ladder_init.binds1 5 3 (by simp) rfl fun _ _ _ _ _ _ _ us its h1 h2 => match us, its, h1, h2 with | [_, _, _, _, _], [_, _, _], _, _ => ⟨_, rfl, rfl⟩
theorem b_l_measures_1 {K : PySem.W.Frag} {mg : Str → Option Value} {φ : Fds} (T : Txt K mg φ) : ∃ ds, Vals ([] : List V) ds ∧ Binds K φ.l_measures p_l_measures ds :=
  ⟨[], .nil, T.f_l_measures.bindsN fun _ _ _ _ _ _ us hl => match us, hl with | [_], _ => rfl⟩
theorem b_l_less_2 {K : PySem.W.Frag} {mg : Str → Option Value} {φ : Fds} (T : Txt K mg φ) : ∃ ds, Vals ([] : List V) ds ∧ Binds K φ.l_less p_l_less ds :=
  ⟨[], .nil, T.f_l_less.bindsN fun _ _ _ _ _ _ us hl => match us, hl with | [_, _], _ => rfl⟩
theorem b_fits_4 {K : PySem.W.Frag} {mg : Str → Option Value} {φ : Fds} (T : Txt K mg φ) : ∃ ds, Vals ([] : List V) ds ∧ Binds K φ.fits p_fits ds :=
  T.f_fits.binds1 4 1 (by simp) rfl fun _ _ _ _ _ _ _ us its h1 h2 => match us, its, h1, h2 with | [_, _, _, _], [_], _, _ => ⟨_, rfl, rfl⟩
theorem b_fitting_of_4 {K : PySem.W.Frag} {mg : Str → Option Value} {φ : Fds} (T : Txt K mg φ) : ∃ ds, Vals ([] : List V) ds ∧ Binds K φ.fitting_of p_fitting_of ds :=
  ⟨[], .nil, T.f_fitting_of.bindsN fun _ _ _ _ _ _ us hl => match us, hl with | [_, _, _, _], _ => rfl⟩
theorem b_first_bare_1 {K : PySem.W.Frag} {mg : Str → Option Value} {φ : Fds} (T : Txt K mg φ) : ∃ ds, Vals ([] : List V) ds ∧ Binds K φ.first_bare p_first_bare ds :=
  ⟨[], .nil, T.f_first_bare.bindsN fun _ _ _ _ _ _ us hl => match us, hl with | [_], _ => rfl⟩
theorem b_fewest_of_1 {K : PySem.W.Frag} {mg : Str → Option Value} {φ : Fds} (T : Txt K mg φ) : ∃ ds, Vals ([] : List V) ds ∧ Binds K φ.fewest_of p_fewest_of ds :=
  ⟨[], .nil, T.f_fewest_of.bindsN fun _ _ _ _ _ _ us hl => match us, hl with | [_], _ => rfl⟩
theorem b_l_lots_1 {K : PySem.W.Frag} {mg : Str → Option Value} {φ : Fds} (T : Txt K mg φ) : ∃ ds, Vals ([] : List V) ds ∧ Binds K φ.l_lots p_l_lots ds :=
  ⟨[], .nil, T.f_l_lots.bindsN fun _ _ _ _ _ _ us hl => match us, hl with | [_], _ => rfl⟩
theorem b_l_hand_2 {K : PySem.W.Frag} {mg : Str → Option Value} {φ : Fds} (T : Txt K mg φ) : ∃ ds, Vals ([] : List V) ds ∧ Binds K φ.l_hand p_l_hand ds :=
  ⟨[], .nil, T.f_l_hand.bindsN fun _ _ _ _ _ _ us hl => match us, hl with | [_, _], _ => rfl⟩
theorem b_l_marks_2 {K : PySem.W.Frag} {mg : Str → Option Value} {φ : Fds} (T : Txt K mg φ) : ∃ ds, Vals ([] : List V) ds ∧ Binds K φ.l_marks p_l_marks ds :=
  ⟨[], .nil, T.f_l_marks.bindsN fun _ _ _ _ _ _ us hl => match us, hl with | [_, _], _ => rfl⟩
theorem b_l_any_ladder_2 {K : PySem.W.Frag} {mg : Str → Option Value} {φ : Fds} (T : Txt K mg φ) : ∃ ds, Vals ([] : List V) ds ∧ Binds K φ.l_any_ladder p_l_any_ladder ds :=
  ⟨[], .nil, T.f_l_any_ladder.bindsN fun _ _ _ _ _ _ us hl => match us, hl with | [_, _], _ => rfl⟩
theorem b_l_width_2 {K : PySem.W.Frag} {mg : Str → Option Value} {φ : Fds} (T : Txt K mg φ) : ∃ ds, Vals ([] : List V) ds ∧ Binds K φ.l_width p_l_width ds :=
  ⟨[], .nil, T.f_l_width.bindsN fun _ _ _ _ _ _ us hl => match us, hl with | [_, _], _ => rfl⟩
theorem b_l_fitted_foot_4 {K : PySem.W.Frag} {mg : Str → Option Value} {φ : Fds} (T : Txt K mg φ) : ∃ ds, Vals ([] : List V) ds ∧ Binds K φ.l_fitted_foot p_l_fitted_foot ds :=
  ⟨[], .nil, T.f_l_fitted_foot.bindsN fun _ _ _ _ _ _ us hl => match us, hl with | [_, _, _, _], _ => rfl⟩
theorem b_l_fits_4 {K : PySem.W.Frag} {mg : Str → Option Value} {φ : Fds} (T : Txt K mg φ) : ∃ ds, Vals ([] : List V) ds ∧ Binds K φ.l_fits p_l_fits ds :=
  ⟨[], .nil, T.f_l_fits.bindsN fun _ _ _ _ _ _ us hl => match us, hl with | [_, _, _, _], _ => rfl⟩
theorem b_l_right_3 {K : PySem.W.Frag} {mg : Str → Option Value} {φ : Fds} (T : Txt K mg φ) : ∃ ds, Vals ([] : List V) ds ∧ Binds K φ.l_right p_l_right ds :=
  ⟨[], .nil, T.f_l_right.bindsN fun _ _ _ _ _ _ us hl => match us, hl with | [_, _, _], _ => rfl⟩
theorem b_stock_for_4 {K : PySem.W.Frag} {mg : Str → Option Value} {φ : Fds} (T : Txt K mg φ) : ∃ ds, Vals ([] : List V) ds ∧ Binds K φ.stock_for p_stock_for ds :=
  T.f_stock_for.binds1 4 1 (by simp) rfl fun _ _ _ _ _ _ _ us its h1 h2 => match us, its, h1, h2 with | [_, _, _, _], [_], _, _ => ⟨_, rfl, rfl⟩
theorem ok_is_whole {P : Program} {w : World} {K : PySem.W.Frag} {mg : Str → Option Value} {base : Heap} {φ : Fds} (T : Txt K mg φ) : FnOk P w K mg base CX0 1 (He.fAd K ("is_whole", none)) φ.is_whole p_is_whole sp_whole := by
  refine T.f_is_whole.ok sc_is_whole (fun vs H Q E h => ?_) (fun cdv A outer s H vs Q E hr h => ?_)
  · obtain ⟨n, rfl, k⟩ := h; rfl
  · obtain ⟨n, rfl, k⟩ := h
    refine ⟨_, PSs.nox (pss_one (ps_ret (pe_and (pe_callB (id := "isinstance") (isi (K := K)) (by rfl) T.z_isinstance (by decide +kernel) (pa_cons (pv 0) (pa_cons (pe_bltn (v := .ty "int") rfl T.z_int (by decide +kernel) rfl) pa_nil))) (pe_one (pe_not (pe_callB (id := "isinstance") (isi (K := K)) (by rfl) T.z_isinstance (by decide +kernel) (pa_cons (pv 0) (pa_cons (pe_bltn (v := .ty "bool") rfl T.z_bool (by decide +kernel) rfl) pa_nil)))))))), ?_⟩
    refine ⟨_, rfl, _, _, _, _, _, rfl, .ty _, .base (.int _), kit_ty (r := true) (by decide +kernel), _, rfl, ?_⟩
    refine iteT ?_
    refine ⟨_, rfl, _, _, _, _, _, rfl, .ty _, .base (.int _), kit_ty (r := false) (by decide +kernel), _, rfl, ?_⟩
    exact k
theorem ok_common_part {P : Program} {w : World} {K : PySem.W.Frag} {mg : Str → Option Value} {base : Heap} {φ : Fds} (T : Txt K mg φ) : FnOk P w K mg base CX0 1 (He.fAd K ("common_part", none)) φ.common_part p_common_part sp_common := by
  refine T.f_common_part.ok sc_common_part (fun vs H Q E h => ?_) (fun cdv A outer s H vs Q E hr h => ?_)
  · obtain ⟨a, b, rfl, k⟩ := h; rfl
  · obtain ⟨a, b, rfl, k⟩ := h
    refine ⟨_, PSs.nox (pss_cons (ps_par (i := 2) (j := 3) rfl sc_common_part.nd rfl rfl (by decide) rfl rfl (pa_cons (pe_callB (id := "abs") call_abs (by rfl) T.z_abs (by decide +kernel) (pa_cons (pv 0) pa_nil)) (pa_cons (pe_callB (id := "abs") call_abs (by rfl) T.z_abs (by decide +kernel) (pa_cons (pv 1) pa_nil)) pa_nil)) (by rfl))
      (pss_cons (ps_while PassesOwn.never (pt_cmpR op_gt (pv 3) pe_int (nomark _))
      (pss_one (ps_par (i := 2) (j := 3) rfl sc_common_part.nd rfl rfl (by decide) rfl rfl (pa_cons (pv 3) (pa_cons (pe_op op_mod (pv 2) (pv 3)) pa_nil)) (by rfl))))
      (pss_one (ps_ret (pv 2))))), ?_⟩
    refine ⟨_, rfl, _, rfl, _, rfl, _, rfl, _, _, rfl, ?_⟩
    refine while_by (fun σ H' => H' = H ∧ ∃ g s : Int, σ = [some (.int a), some (.int b), some (.int g), some (.int s)] ∧ 0 ≤ g ∧ 0 ≤ s ∧ Int.gcd g s = Int.gcd a b)
      (fun σ _ => match σ with | [_, _, _, some (.int s)] => s.toNat | _ => 0) ⟨rfl, _, _, rfl, ?_, ?_, ?_⟩ ?_ (fun σ H Q Q' hQ ⟨v, e1, i, j, e2, e3, c, e4, q⟩ => ⟨v, e1, i, j, e2, e3, c, e4, hQ _ _ q⟩)
    · split <;> omega
    · split <;> omega
    · have e1 : (if a < 0 then -a else a) = (a.natAbs : Int) := by split <;> omega
      have e2 : (if b < 0 then -b else b) = (b.natAbs : Int) := by split <;> omega
      rw [e1, e2]
      rfl
    · rintro σ H' ⟨rfl, g, s, rfl, hg, hs, e⟩
      refine ⟨_, rfl, _, _, rfl, rfl, _, rfl, ?_⟩
      refine ite2 (fun c => ?_) (fun c => ?_)
      · have c0 : 0 < s := of_decide_eq_true c
        refine ⟨_, rfl, _, rfl, _, rfl, _, _, rfl, rfl, c0, _, _, rfl, ?_⟩
        refine ⟨⟨rfl, s, g % s, rfl, hs, Int.emod_nonneg _ (by omega), (gcd_step c0 hg).trans e⟩, ?_⟩
        show (g % s).toNat < s.toNat
        have h1 := Int.emod_nonneg g (show s ≠ 0 by omega)
        have h2 := Int.emod_lt_of_pos g c0
        omega
      · have c0 : ¬ 0 < s := fun z => c (decide_eq_true z)
        have s0 : s = 0 := by omega
        subst s0
        refine ⟨_, rfl, ?_⟩
        have eg : g = (Int.gcd a b : Int) := by
          rw [← e, Int.gcd_zero_right]
          omega
        rw [eg]
        exact k
theorem ok_Measure_init {P : Program} {w : World} {K : PySem.W.Frag} {mg : Str → Option Value} {base : Heap} {φ : Fds} (T : Txt K mg φ) : FnOk P w K mg base CX0 2 (He.fAd K ("Measure", some "__init__")) φ.Measure_init p_Measure_init (sp_minit (He.ga K "Measure")) := by
  obtain ⟨_, B0v, B0⟩ := b_is_whole_1 T
  obtain ⟨_, B1v, B1⟩ := b_common_part_2 T
  refine T.f_Measure_init.ok sc_Measure_init (fun vs H Q E h => ?_) (fun cdv A outer s H vs Q E hr h => ?_)
  · obtain ⟨p, dx, a, b, rfl, hp, hb, hl, k⟩ := h; rfl
  · obtain ⟨p, dx, a, b, rfl, hp, hb, hl, k⟩ := h
    refine ⟨_, PSs.nox (pss_cons (ps_if (PW.pt (pw_or (pt_not (pt_val (pe_call (ok_is_whole (K := K) T) (hr.mono (by decide)) rfl T.g_is_whole T.f_is_whole.kp B0 B0v pass0 (pa_cons (pv 1) pa_nil)))) (pw_or1 (pt_not (pt_val (pe_call (ok_is_whole (K := K) T) (hr.mono (by decide)) rfl T.g_is_whole T.f_is_whole.kp B0 B0v pass0 (pa_cons (pv 2) pa_nil)))))))
      (pss_one ps_never)
      pss_nil)
      (pss_cons (ps_if (pt_cmpR op_eq (pv 2) pe_int (nomark _))
      (pss_one ps_never)
      pss_nil)
      (pss_cons (ps_set (i := 3) sc_Measure_init.nd rfl (Or.inl rfl) (pe_call (ok_common_part (K := K) T) (hr.mono (by decide)) rfl T.g_common_part T.f_common_part.kp B1 B1v pass0 (pa_cons (pv 1) (pa_cons (pv 2) pa_nil))))
      (pss_cons (ps_cut (ps_if (pt_cmpR op_lt (pv 2) pe_int (nomark _))
      (pss_one (ps_set (i := 3) sc_Measure_init.nd rfl (Or.inl rfl) (pe_un un_neg (pv 3))))
      pss_nil))
      (pss_cons (ps_fld (pv 0) (pe_op op_fd (pv 1) (pv 3)) rfl)
      (pss_one (ps_fld (pv 0) (pe_op op_fd (pv 2) (pv 3)) rfl))))))), ?_⟩
    refine ⟨_, rfl, a, rfl, _, rfl, ?_⟩
    refine iteF ?_
    refine ⟨_, rfl, b, rfl, _, rfl, ?_⟩
    refine iteF ?_
    refine ⟨_, rfl, rfl, _, rfl, ?_⟩
    rw [dI]
    refine ite2 (fun e => absurd (of_decide_eq_true e) hb) (fun _ => ?_)
    refine ⟨_, rfl, _, rfl, a, b, rfl, ?_⟩
    refine ⟨fun σ' H' => H' = H ∧ ∃ c : Int, c = sgn b * (Int.gcd a b : Int) ∧ σ' = [some (.ref p), some (.int a), some (.int b), some (.int c)], ?_, ?_⟩
    · refine ⟨_, rfl, _, _, rfl, rfl, _, rfl, ?_⟩
      refine ite2 (fun e => ?_) (fun e => ?_)
      · have e0 : b < 0 := of_decide_eq_true e
        refine ⟨_, rfl, _, rfl, rfl, _, ?_, rfl⟩
        unfold sgn
        rw [if_neg (by omega), Int.neg_one_mul]
      · have e0 : ¬ b < 0 := fun z => e (decide_eq_true z)
        refine ⟨rfl, _, ?_, rfl⟩
        unfold sgn
        rw [if_pos (by omega), Int.one_mul]
    · rintro σ' H' ⟨rfl, c, hc, rfl⟩
      obtain ⟨c0, cl, fr⟩ := fr_mk hb hc
      have c9 : c.natAbs.log2 < 9000 := by
        refine Nat.lt_of_le_of_lt ?_ hl
        exact (Nat.le_log2 (by omega)).mpr (Nat.le_trans (Nat.log2_self_le (by omega)) cl)
      refine ⟨_, rfl, _, rfl, _, _, rfl, rfl, ⟨c0, c9⟩, _, rfl, p, _, dx, _, rfl, hp, T.cl_Measure, T.na_Measure_top, (by show 0 < 1000; decide), ?_⟩
      refine ⟨_, rfl, _, rfl, _, _, rfl, rfl, ⟨c0, c9⟩, _, rfl, p, _, dx, _, rfl, upd_same, T.cl_Measure, T.na_Measure_bottom, (by show 1 < 1000; decide), ?_⟩
      refine k _ _ _ fr ?_ fun q o e nq => ?_
      · rw [upd_same, mf_put]
      · rw [upd_ne nq, upd_ne nq]
        exact e
theorem ok_Measure_is_below {P : Program} {w : World} {K : PySem.W.Frag} {mg : Str → Option Value} {base : Heap} {φ : Fds} (T : Txt K mg φ) : FnOk P w K mg base CX0 1 (He.fAd K ("Measure", some "is_below")) φ.Measure_is_below p_Measure_is_below (sp_below (He.ga K "Measure")) := by
  refine T.f_Measure_is_below.ok sc_Measure_is_below (fun vs H Q E h => ?_) (fun cdv A outer s H vs Q E hr h => ?_)
  · obtain ⟨p, q, t, u, t', u', al, rfl, ⟨dp, hp⟩, ⟨dq, hq⟩, st, su, st', su', k⟩ := h; rfl
  · obtain ⟨p, q, t, u, t', u', al, rfl, ⟨dp, hp⟩, ⟨dq, hq⟩, st, su, st', su', k⟩ := h
    refine ⟨_, PSs.nox (pss_cons (ps_set (i := 3) sc_Measure_is_below.nd rfl (Or.inl rfl) (pe_op op_mulA (fldK (K := K) (pv 0) rfl) (fldK (K := K) (pv 1) rfl)))
      (pss_cons (ps_set (i := 4) sc_Measure_is_below.nd rfl (Or.inl rfl) (pe_op op_mulA (fldK (K := K) (pv 1) rfl) (fldK (K := K) (pv 0) rfl)))
      (pss_one (ps_ret (pe_or (pe_cmpR op_lt (pv 3) (pv 4) (nomark _)) (pe_one (pe_and (pv 2) (pe_one (pe_cmpR op_eq (pv 3) (pv 4) (nomark _)))))))))), ?_⟩
    refine ⟨_, rfl, _, _, _, _, _, rfl, hp, T.cl_Measure, T.na_Measure_top, mf_top _ _, _, rfl, _, _, _, _, _, rfl, hq, T.cl_Measure, T.na_Measure_bottom, mf_bottom _ _, _, _, rfl, rfl, st.cmul su' (by decide) (by decide) (by decide), ?_⟩
    refine ⟨_, rfl, _, _, _, _, _, rfl, hq, T.cl_Measure, T.na_Measure_top, mf_top _ _, _, rfl, _, _, _, _, _, rfl, hp, T.cl_Measure, T.na_Measure_bottom, mf_bottom _ _, _, _, rfl, rfl, st'.cmul su (by decide) (by decide) (by decide), ?_⟩
    refine ⟨_, rfl, _, rfl, _, _, rfl, rfl, _, rfl, ?_⟩
    have e : ∀ b : Bool, b = lessA t u t' u' al → Q (.bl b) H := fun b z => by rw [z]; exact k
    refine ite2 (fun c => e _ ?_) (fun c => ?_)
    · unfold lessA
      rw [c]
      rfl
    · have c0 : decide (t * u' < t' * u) = false := by simpa using c
      refine ⟨_, rfl, _, rfl, ?_⟩
      cases al with
      | false =>
        refine iteF (e _ ?_)
        unfold lessA
        rw [c0]
        rfl
      | true =>
        refine iteT ?_
        refine ⟨_, rfl, _, rfl, rfl, e _ ?_⟩
        unfold lessA
        rw [c0, dI]
        rfl
theorem ok_slip_of {P : Program} {w : World} {K : PySem.W.Frag} {mg : Str → Option Value} {base : Heap} {φ : Fds} (T : Txt K mg φ) : FnOk P w K mg base CX0 2 (He.fAd K ("slip_of", none)) φ.slip_of p_slip_of (sp_slip K (He.ga K "Measure")) := by
  obtain ⟨_, B0v, B0⟩ := b_Measure_is_below_2 T
  refine T.f_slip_of.ok sc_slip_of (fun vs H Q E h => ?_) (fun cdv A outer s H vs Q E hr h => ?_)
  · obtain ⟨T', k, ps, zs, rfl, hT, hm, hk, hl, kk⟩ := h; rfl
  · obtain ⟨T', k, ps, zs, rfl, hT, hm, hk, hl, kk⟩ := h
    refine ⟨_, PSs.nox (pss_cons (ps_for PassesOwn.never rfl (pi_range2 rfl T.z_range (pa_cons pe_int (pa_cons (pe_callB (id := "len") (lenS (K := K)) (by rfl) T.z_len PySem.boot_len (pa_cons (pv 0) pa_nil)) pa_nil))) (pg_name (i := 1) sc_slip_of.nd rfl (Or.inl rfl))
      (pss_one (ps_if (pt_not (pt_val (pe_meth (pe_ix (ixt (K := K)) (pv 0) (pe_op op_sub (pv 1) pe_int) (fun _ _ => rfl)) T.cl_Measure T.me_Measure_is_below (ok_Measure_is_below (K := K) T) (hr.mono (by decide)) B0 B0v pass0 (pa_cons (pe_ix (ixt (K := K)) (pv 0) (pv 1) (fun _ _ => rfl)) pa_nil))))
      (pss_one (ps_ret (pv 1)))
      pss_nil)))
      (pss_one (ps_ret pe_non))), ?_⟩
    have el : ((ps.length : Nat) : Int) = (zs.length : Int) := by rw [hm.len]
    walk_at "w"
    refine for_range (fun i σ H' => H' = H ∧ (∃ v, σ = [some (.ref T'), v]) ∧ ∀ j a b, j < i → zs[j]? = some a → zs[j + 1]? = some b → ltq a b = true) ⟨rfl, ⟨_, rfl⟩, fun j a b z => by omega⟩ ?_ ?_
    · rintro i σ H1 hi ⟨rfl, ⟨v, rfl⟩, hp⟩
      obtain ⟨a, ha⟩ := ge2 (zs := zs) (n := i) (by omega)
      obtain ⟨b, hb⟩ := ge2 (zs := zs) (n := i + 1) (by omega)
      obtain ⟨p, ep, qp⟩ := hm.at ha
      obtain ⟨q, eq, qq⟩ := hm.at hb
      walk_at "w"
      refine ⟨atI_of (n := i) (by omega) ep, ?_⟩
      walk_at "w"
      refine ⟨atI_of (n := i + 1) (by omega) eq, ?_⟩
      walk_at "w"
      cases e : ltq a b with
      | false =>
        refine iteT ⟨_, rfl, ?_⟩
        have z : (1 : Int) + i = ((i + 1 : Nat) : Int) := by omega
        rw [z]
        refine kk (some (i + 1)) ⟨by omega, by omega, fun a' b' h1 h2 => ?_, fun j a' b' hj h1 h2 => hp j a' b' (by omega) h1 h2⟩
        rw [Nat.add_sub_cancel, ha] at h1
        rw [hb] at h2
        cases h1; cases h2
        exact e
      | true =>
        refine iteF ⟨rfl, ⟨_, rfl⟩, fun j a' b' hj h1 h2 => ?_⟩
        by_cases hji : j < i
        · exact hp j a' b' hji h1 h2
        · have : j = i := by omega
          subst this
          rw [ha] at h1
          rw [hb] at h2
          cases h1; cases h2
          exact e
    · rintro σ H1 ⟨rfl, ⟨v, rfl⟩, hp⟩
      refine kk none fun j a b h1 h2 => hp j a b ?_ h1 h2
      have := (List.getElem?_eq_some_iff.mp h2).1
      omega
theorem ok_is_measure_or_none {P : Program} {w : World} {K : PySem.W.Frag} {mg : Str → Option Value} {base : Heap} {φ : Fds} (T : Txt K mg φ) : FnOk P w K mg base CX0 1 (He.fAd K ("is_measure_or_none", none)) φ.is_measure_or_none p_is_measure_or_none (sp_isendQ (He.ga K "Measure")) := by
  refine T.f_is_measure_or_none.ok sc_is_measure_or_none (fun vs H Q E h => ?_) (fun cdv A outer s H vs Q E hr h => ?_)
  · obtain ⟨v, k, e, rfl, he, kk⟩ := h; rfl
  · obtain ⟨v, k, e, rfl, he, kk⟩ := h
    refine ⟨_, PSs.nox (pss_one (ps_ret (pe_or (pe_cmpR op_isN (pv 0) pe_non (nomark _)) (pe_one (pe_callB (id := "isinstance") (isi (K := K)) (by rfl) T.z_isinstance (by decide +kernel) (pa_cons (pv 0) (pa_cons (pe_glob (v := .ref (He.ga K "Measure")) rfl T.g_Measure rfl) pa_nil))))))), ?_⟩
    cases e with
    | none =>
      cases he
      walk_at "w"
      exact kk
    | some z =>
      obtain ⟨p, rfl, qz⟩ := he
      obtain ⟨⟨t, u, ⟨dx, hp⟩, _⟩, _⟩ := qz
      refine ⟨_, rfl, rfl, _, rfl, ?_⟩
      walk_at "w"
      refine ⟨_, _, _, rfl, .own _, tyM hp T.cl_Measure T.ii_Measure, T.k_Measure_Measure, kk⟩
theorem ok_are_marks {P : Program} {w : World} {K : PySem.W.Frag} {mg : Str → Option Value} {base : Heap} {φ : Fds} (T : Txt K mg φ) : FnOk P w K mg base CX0 1 (He.fAd K ("are_marks", none)) φ.are_marks p_are_marks (sp_arem K (He.ga K "Measure")) := by
  refine T.f_are_marks.ok sc_are_marks (fun vs H Q E h => ?_) (fun cdv A outer s H vs Q E hr h => ?_)
  · obtain ⟨T', k, ps, zs, rfl, hT, hm, h0, h1, kk⟩ := h; rfl
  · obtain ⟨T', k, ps, zs, rfl, hT, hm, h0, h1, kk⟩ := h
    refine ⟨_, PSs.nox (pss_cons (ps_if (PW.pt (pw_or (pt_not (pt_val (pe_callB (id := "isinstance") (isi (K := K)) (by rfl) T.z_isinstance (by decide +kernel) (pa_cons (pv 0) (pa_cons (pe_bltn (v := .ty "tuple") rfl T.z_tuple (by decide +kernel) rfl) pa_nil))))) (pw_or1 (pt_not (pt_chain op_le op_le pe_int (pe_callB (id := "len") (lenS (K := K)) (by rfl) T.z_len PySem.boot_len (pa_cons (pv 0) pa_nil)) (C8.pe_gc (v := .int 24) rfl (T.v_MOST_MARKS.elim fun t e => ⟨_, e, ⟨t, rfl⟩⟩)))))))
      (pss_one (ps_ret pe_bl))
      pss_nil)
      (pss_one (ps_ret (pe_callB (id := "all") (allK (K := K)) (by rfl) T.z_all (by decide +kernel) (pa_cons (pe_lc (own := [("mark", 1)]) (g := gName 1) rfl sc_are_marks.nd (pi_tup (pv 0)) (blkOk_by (own := [("mark", 1)]) (N := N_are_marks) (sc := (defScope s_are_marks)) (by decide +kernel)) (fun _ _ _ _ _ => (pg_name (i := 1) sc_are_marks.nd rfl (Or.inl rfl))) (fun _ _ _ _ _ => pts_nil) (fun _ _ _ _ _ => (pe_callB (id := "isinstance") (isi (K := K)) (by rfl) T.z_isinstance (by decide +kernel) (pa_cons (pv 1) (pa_cons (pe_glob (v := .ref (He.ga K "Measure")) rfl T.g_Measure rfl) pa_nil))))) pa_nil))))), ?_⟩
    have el : ps.length = zs.length := hm.len
    refine ⟨_, rfl, _, _, _, _, _, rfl, .ty _, tyTup hT, kit_ty (r := true) (by decide +kernel), _, rfl, iteF ?_⟩
    walk_at "w"
    refine ⟨⟨_, hT⟩, fun D nD => ?_⟩
    refine lcz (n := ps.length) walk_tup (fun _ _ g s => s.sqt g) (List.replicate ps.length (some (V.bl true))) (by simp) (by rw [sizeLine_eq]; omega) hT nD (fun i x H1 H2 z N M hi hz s1 y hN hM => ?_) (fun H1 s1 hD => ?_)
    · obtain ⟨rfl, hx⟩ := y
      obtain ⟨p, z1, rfl, _, qz⟩ := (hm.same s1).of hx
      obtain ⟨⟨t, u, ⟨dx, hp⟩, _⟩, _⟩ := qz
      rw [List.getElem?_replicate, if_pos hi] at hz
      cases hz
      refine ⟨rfl, yesT ?_⟩
      exact ⟨_, rfl, _, _, _, _, _, rfl, .own _, tyM hp T.cl_Measure T.ii_Measure, T.k_Measure_Measure, hN _ _ rfl (Same.refl _)⟩
    have e : (List.replicate ps.length (some (V.bl true))).filterMap _root_.id = (List.replicate ps.length true).map V.bl := by
      generalize ps.length = n
      induction n with
      | zero => rfl
      | succ n ih => rw [List.replicate_succ, List.replicate_succ]; simpa using ih
    rw [e] at hD
    refine ⟨D, _, rfl, SqL.of hD, ?_⟩
    have e2 : (List.replicate ps.length true).all _root_.id = true := by
      generalize ps.length = n
      induction n with
      | zero => rfl
      | succ n ih => rw [List.replicate_succ]; simpa using ih
    rw [e2]
    exact kk _ s1
theorem ok_is_rule {P : Program} {w : World} {K : PySem.W.Frag} {mg : Str → Option Value} {base : Heap} {φ : Fds} (T : Txt K mg φ) : FnOk P w K mg base CX0 1 (He.fAd K ("is_rule", none)) φ.is_rule p_is_rule sp_isrule := by
  refine T.f_is_rule.ok sc_is_rule (fun vs H Q E h => ?_) (fun cdv A outer s H vs Q E hr h => ?_)
  · obtain ⟨r, rfl, hr', kk⟩ := h; rfl
  · obtain ⟨r, rfl, hr', kk⟩ := h
    refine ⟨_, PSs.nox (pss_one (ps_ret (pe_and (pe_callB (id := "isinstance") (isi (K := K)) (by rfl) T.z_isinstance (by decide +kernel) (pa_cons (pv 0) (pa_cons (pe_bltn (v := .ty "str") rfl T.z_str (by decide +kernel) rfl) pa_nil))) (pe_one (pe_cmpR (inK (K := K)) (pv 0) (pe_glob (v := .ref (He.ga K "RULES")) rfl T.g_RULES rfl) (by rfl)))))), ?_⟩
    refine ⟨_, rfl, _, _, _, _, _, rfl, .ty _, .base (.str _), kit_ty (r := true) (by decide +kernel), _, rfl, iteT ?_⟩
    refine ⟨_, rfl, _, _, rfl, .inr (T.tp_RULES H), rfl, rfl, ?_⟩
    have e : inV (.str r) (([Str.ofString "up", Str.ofString "down", Str.ofString "near"] : List Str).map V.str) = true := by
      rcases hr' with rfl | rfl | rfl <;> decide +kernel
    simp only [Bool.false_eq_true, if_false]
    rw [e]
    exact kk
theorem ok_is_span {P : Program} {w : World} {K : PySem.W.Frag} {mg : Str → Option Value} {base : Heap} {φ : Fds} (T : Txt K mg φ) : FnOk P w K mg base CX0 2 (He.fAd K ("is_span", none)) φ.is_span p_is_span (sp_span (He.ga K "Measure")) := by
  obtain ⟨_, B0v, B0⟩ := b_Measure_is_below_3 T
  refine T.f_is_span.ok sc_is_span (fun vs H Q E h => ?_) (fun cdv A outer s H vs Q E hr h => ?_)
  · obtain ⟨l, h, k, lo, hi, rfl, ql, qh, hk, kk⟩ := h; rfl
  · obtain ⟨l, h, k, lo, hi, rfl, ql, qh, hk, kk⟩ := h
    refine ⟨_, PSs.nox (pss_one (ps_ret (pe_or (pe_cmpR op_isN (pv 0) pe_non (nomark _)) (pe_or (pe_cmpR op_isN (pv 1) pe_non (nomark _)) (pe_one (pe_meth (pv 0) T.cl_Measure T.me_Measure_is_below (ok_Measure_is_below (K := K) T) (hr.mono (by decide)) B0 B0v pass0 (pa_cons (pv 1) (pa_cons pe_bl pa_nil)))))))), ?_⟩
    cases lo with
    | none =>
      cases ql
      walk_at "w"
      exact kk
    | some a =>
      obtain ⟨pl, rfl, qa⟩ := ql
      cases hi with
      | none =>
        cases qh
        walk_at "w"
        exact kk
      | some b =>
        obtain ⟨ph, rfl, qb⟩ := qh
        rw [span_leq] at kk
        walk_at "w"
        exact kk
theorem ok_Ladder_init {P : Program} {w : World} {K : PySem.W.Frag} {mg : Str → Option Value} {base : Heap} {φ : Fds} (T : Txt K mg φ) : FnOk P w K mg base CX0 3 (He.fAd K ("Ladder", some "__init__")) φ.Ladder_init p_Ladder_init (sp_linit K (He.ga K "Measure") (He.ga K "Ladder")) := by
  obtain ⟨_, B0v, B0⟩ := b_are_marks_1 T
  obtain ⟨_, B1v, B1⟩ := b_is_rule_1 T
  obtain ⟨_, B2v, B2⟩ := b_is_measure_or_none_1 T
  obtain ⟨_, B3v, B3⟩ := b_is_span_2 T
  obtain ⟨_, B4v, B4⟩ := b_slip_of_1 T
  refine T.f_Ladder_init.ok sc_Ladder_init (fun vs H Q E h => ?_) (fun cdv A outer s H vs Q E hr h => ?_)
  · obtain ⟨p, dx, T', k, ps, zs, r, l, h, lo, hi, rfl, hp, hT, hm, hk, h0, h1, hri, hru, ql, qh, hsp, kk⟩ := h; rfl
  · obtain ⟨p, dx, T', k, ps, zs, r, l, h, lo, hi, rfl, hp, hT, hm, hk, h0, h1, hri, hru, ql, qh, hsp, kk⟩ := h
    refine ⟨_, PSs.nox (pss_cons (ps_if (pt_not (pt_val (pe_call (ok_are_marks (K := K) T) (hr.mono (by decide)) rfl T.g_are_marks T.f_are_marks.kp B0 B0v pass0 (pa_cons (pv 1) pa_nil))))
      (pss_one ps_never)
      pss_nil)
      (pss_cons (ps_if (pt_not (pt_val (pe_call (ok_is_rule (K := K) T) (hr.mono (by decide)) rfl T.g_is_rule T.f_is_rule.kp B1 B1v pass0 (pa_cons (pv 2) pa_nil))))
      (pss_one ps_never)
      pss_nil)
      (pss_cons (ps_if (PW.pt (pw_or (pt_not (pt_val (pe_call (ok_is_measure_or_none (K := K) T) (hr.mono (by decide)) rfl T.g_is_measure_or_none T.f_is_measure_or_none.kp B2 B2v pass0 (pa_cons (pv 3) pa_nil)))) (pw_or1 (pt_not (pt_val (pe_call (ok_is_measure_or_none (K := K) T) (hr.mono (by decide)) rfl T.g_is_measure_or_none T.f_is_measure_or_none.kp B2 B2v pass0 (pa_cons (pv 4) pa_nil)))))))
      (pss_one ps_never)
      pss_nil)
      (pss_cons (ps_if (pt_not (pt_val (pe_call (ok_is_span (K := K) T) (hr.mono (by decide)) rfl T.g_is_span T.f_is_span.kp B3 B3v pass0 (pa_cons (pv 3) (pa_cons (pv 4) pa_nil)))))
      (pss_one ps_never)
      pss_nil)
      (pss_cons (ps_set (i := 5) sc_Ladder_init.nd rfl (Or.inl rfl) (pe_call (ok_slip_of (K := K) T) (hr.mono (by decide)) rfl T.g_slip_of T.f_slip_of.kp B4 B4v pass0 (pa_cons (pv 1) pa_nil)))
      (pss_cons (ps_if (pt_cmpR op_notN (pv 5) pe_non (nomark _))
      (pss_one ps_never)
      pss_nil)
      (pss_cons (ps_fld (pv 0) (pv 1) rfl)
      (pss_cons (ps_fld (pv 0) (pv 2) rfl)
      (pss_cons (ps_fld (pv 0) (pv 3) rfl)
      (pss_one (ps_fld (pv 0) (pv 4) rfl))))))))))), ?_⟩
    have cl_Ladder := T.cl_Ladder
    have na_Ladder_marks := T.na_Ladder_marks
    have na_Ladder_rule := T.na_Ladder_rule
    have na_Ladder_least := T.na_Ladder_least
    have na_Ladder_most := T.na_Ladder_most
    
    walk_at "w"
    refine ⟨zs, rfl, hT, hm, h0, h1, fun H1 s1 => ?_⟩
    walk_at "w"
    refine ⟨lo, rfl, ql.same s1, ?_⟩
    walk_at "w"
    refine ⟨hi, rfl, qh.same s1, ?_⟩
    have hT1 := s1.sqt hT
    have hm1 := hm.same s1
    replace ql := ql.same s1
    replace qh := qh.same s1
    have hp1 := s1 _ _ hp
    walk_at "w"
    refine ⟨lo, hi, rfl, ql, qh, by omega, ?_⟩
    rw [hsp]
    walk_at "w"
    refine ⟨zs, rfl, hT1, hm1, by omega, by omega, fun o ho => ?_⟩
    have eo : o = none := by
      cases o with
      | none => rfl
      | some n =>
        obtain ⟨n1, n2, n3, _⟩ := ho
        obtain ⟨a, ha⟩ := ge2 (zs := zs) (n := n - 1) (by omega)
        obtain ⟨b, hb⟩ := ge2 (zs := zs) (n := n) n2
        have z1 := n3 a b ha hb
        have z2 := hri (n - 1) a b ha (by rw [Nat.sub_add_cancel n1]; exact hb)
        rw [z1] at z2
        cases z2
    subst eo
    walk_at "w"
    refine ⟨by show 0 < 1000; decide, ?_⟩
    refine ⟨_, rfl, _, rfl, p, _, dx, _, rfl, upd_same, cl_Ladder, na_Ladder_rule, by show 1 < 1000; decide, ?_⟩
    refine ⟨_, rfl, _, rfl, p, _, dx, _, rfl, upd_same, cl_Ladder, na_Ladder_least, by show 2 < 1000; decide, ?_⟩
    refine ⟨_, rfl, _, rfl, p, _, dx, _, rfl, upd_same, cl_Ladder, na_Ladder_most, by show 3 < 1000; decide, ?_⟩
    refine kk _ ?_ fun c o ec nc => ?_
    · rw [upd_same, lf_put]
    · rw [upd_ne nc, upd_ne nc, upd_ne nc, upd_ne nc]
      exact s1 _ _ ec
theorem ok_l_hand {P : Program} {w : World} {K : PySem.W.Frag} {mg : Str → Option Value} {base : Heap} {φ : Fds} (T : Txt K mg φ) : FnOk P w K mg base CX0 1 (He.fAd K ("_law_hand", none)) φ.l_hand p_l_hand (sp_hand K) := by
  refine T.f_l_hand.ok sc_l_hand (fun vs H Q E h => ?_) (fun cdv A outer s H vs Q E hr h => ?_)
  · obtain ⟨a, ns, kk, rfl, hS, hk, k⟩ := h; rfl
  · obtain ⟨a, ns, kk, rfl, hS, hk, k⟩ := h
    refine ⟨_, PSs.nox (pss_cons (ps_set (i := 2) sc_l_hand.nd rfl (Or.inl rfl) pe_int)
      (pss_cons (ps_cut (ps_if (pt_cmpR op_lt (pv 1) (pe_callB (id := "len") (lenS (K := K)) (by rfl) T.z_len PySem.boot_len (pa_cons (pv 0) pa_nil)) (nomark _))
      (pss_one (ps_set (i := 2) sc_l_hand.nd rfl (Or.inl rfl) (pe_ix (ixl (K := K)) (pv 0) (pv 1) (fun _ _ => rfl))))
      pss_nil))
      (pss_cons (ps_set (i := 3) sc_l_hand.nd rfl (Or.inl rfl) (pe_op op_mulA (pe_callB (id := "abs") call_abs (by rfl) T.z_abs (by decide +kernel) (pa_cons (pv 2) pa_nil)) (pe_callTy (T := "int") call_int1 (by rfl) T.z_int (by decide +kernel) (pa_cons (pe_cmpR op_ge (pe_callB (id := "abs") call_abs (by rfl) T.z_abs (by decide +kernel) (pa_cons (pv 2) pa_nil)) (pe_op op_pow pe_int pe_int) (nomark _)) pa_nil))))
      (pss_one (ps_ret (pe_lst (pa_cons (pv 3) (pa_cons (pe_op op_mod (pe_op op_add (pe_op op_add (pe_op op_mod (pv 2) pe_int) (pe_op op_mulA pe_int (pv 1))) pe_int) pe_int) (pa_cons pe_int pa_nil))))))))), ?_⟩
    refine ⟨fun σ' H' => H' = H ∧ ∃ z : Int, σ' = [some (.ref a), some (.int kk), some (.int z), none], ?_, ?_⟩
    · refine ⟨_, rfl, _, rfl, a, _, rfl, .inl hS, _, _, rfl, rfl, _, rfl, ?_⟩
      refine ite2 (fun e => ?_) (fun e => ?_)
      · have e0 : (kk : Int) < ((ns.map V.int).length : Int) := of_decide_eq_true e
        rw [List.length_map] at e0
        have e1 : kk < ns.length := by omega
        refine ⟨_, rfl, _, rfl, a, _, _, V.int ns[kk], rfl, rfl, hS, atI_nat ?_, rfl, _, rfl⟩
        rw [List.getElem?_map, List.getElem?_eq_getElem e1]
        rfl
      · exact ⟨rfl, 0, rfl⟩
    · rintro σ' H' ⟨rfl, z, rfl⟩
      refine ⟨_, rfl, _, rfl, _, rfl, _, rfl, _, _, rfl, rfl, ⟨by decide, by decide, by decide⟩, _, _, rfl, rfl, .inr ⟨_, rfl, _, _, rfl, rfl, .inl (.inr ?_), ?_⟩⟩
      · cases decide ((10 : Int) ^ Int.toNat 18 ≤ (if z < 0 then -z else z)) <;> exact ⟨by decide, by decide⟩
      refine ⟨_, rfl, _, rfl, _, _, rfl, rfl, (by show (0 : Int) < 2305843009213693951; decide), _, rfl, _, _, rfl, rfl, .inl (.inl ⟨by decide, by decide⟩), _, _, rfl, rfl, _, _, rfl, rfl, _, _, rfl, rfl, (by show (0 : Int) < 2305843009213693951; decide), by show 3 ≤ sizeLine; decide, fun p hp => ?_⟩
      refine k p _ hp (same1 hp) ⟨_, _, _, upd_same, ?_, Int.emod_nonneg _ (by decide), Int.lt_trans (Int.emod_lt_of_pos _ (by decide)) (by decide), by decide, by decide⟩
      have ez : 0 ≤ (if z < 0 then -z else z) := by split <;> omega
      generalize (if z < 0 then -z else z) = y at *
      by_cases e : (10 : Int) ^ Int.toNat 18 ≤ y
      · rw [decide_eq_true e]
        show 0 ≤ y * 1
        omega
      · rw [decide_eq_false e]
        show 0 ≤ y * 0
        omega
theorem ok_l_take {P : Program} {w : World} {K : PySem.W.Frag} {mg : Str → Option Value} {base : Heap} {φ : Fds} (T : Txt K mg φ) : FnOk P w K mg base CX0 1 (He.fAd K ("_law_take", none)) φ.l_take p_l_take sp_take := by
  refine T.f_l_take.ok sc_l_take (fun vs H Q E h => ?_) (fun cdv A outer s H vs Q E hr h => ?_)
  · obtain ⟨hd, n, m, rfl, hh, hn, hm, hl, k⟩ := h; rfl
  · obtain ⟨hd, n, m, rfl, hh, hn, hm, hl, k⟩ := h
    refine ⟨_, PSs.nox (pss_cons (ps_if (pt_cmpR op_gt (pe_ix (ixl (K := K)) (pv 0) pe_int (fun _ _ => rfl)) pe_int (nomark _))
      (pss_cons (ps_set (i := 2) sc_l_take.nd rfl (Or.inl rfl) (pe_op op_mod (pe_ix (ixl (K := K)) (pv 0) pe_int (fun _ _ => rfl)) (pv 1)))
      (pss_cons (ps_asg (pe_op op_fd (pe_ix (ixl (K := K)) (pv 0) pe_int (fun _ _ => rfl)) (pv 1)) (pg_sub (pv 0) pe_int set_list))
      (pss_one (ps_ret (pv 2)))))
      pss_nil)
      (pss_cons (ps_asg (pe_op op_add (pe_ix (ixl (K := K)) (pv 0) pe_int (fun _ _ => rfl)) pe_int) (pg_sub (pv 0) pe_int set_list))
      (pss_cons (ps_set (i := 3) sc_l_take.nd rfl (Or.inl rfl) (pe_op op_mod (pe_op op_pow (pe_op op_add (pe_op op_add (pe_ix (ixl (K := K)) (pv 0) pe_int (fun _ _ => rfl)) (pe_op op_mulA (pe_op op_mulA pe_int (pe_ix (ixl (K := K)) (pv 0) pe_int (fun _ _ => rfl))) (pe_ix (ixl (K := K)) (pv 0) pe_int (fun _ _ => rfl)))) pe_int) pe_int) pe_int))
      (pss_cons (ps_set (i := 3) sc_l_take.nd rfl (Or.inl rfl) (pe_op op_mod (pe_op op_mulA (pv 3) (pe_op op_add (pe_op op_mod (pv 3) pe_int) (pe_op op_mulA pe_int (pe_ix (ixl (K := K)) (pv 0) pe_int (fun _ _ => rfl))))) pe_int))
      (pss_one (ps_ret (pe_op op_mod (pe_op op_fd (pv 3) pe_int) (pv 1)))))))), ?_⟩
    obtain ⟨a, b, c, h0, ha, hb, hb2, hc, hc2⟩ := hh
    refine ⟨_, rfl, _, _, _, _, rfl, rfl, SqL.of h0, rfl, _, _, rfl, rfl, _, rfl, ?_⟩
    refine ite2 (fun e => ?_) (fun e => ?_)
    · have e0 : 0 < a := of_decide_eq_true e
      refine ⟨_, rfl, _, _, _, _, rfl, rfl, SqL.of h0, rfl, _, rfl, _, _, rfl, rfl, hm, ?_⟩
      refine ⟨_, rfl, _, _, _, _, rfl, rfl, SqL.of h0, rfl, _, rfl, _, _, rfl, rfl, ⟨by omega, hl⟩, _, rfl, _, _, _, _, rfl, rfl, h0, rfl, ?_⟩
      refine ⟨_, rfl, k _ _ (Int.emod_nonneg _ (by omega)) (Int.emod_lt_of_pos _ hm) ⟨a.fdiv m, b, c, upd_same, ?_, hb, hb2, hc, by omega⟩ (Kp.refl _ _).set⟩
      rw [Int.fdiv_eq_ediv_of_nonneg a (by omega)]
      exact Int.ediv_nonneg ha (by omega)
    · have c9 : c ≤ 1000000 := by omega
      refine ⟨_, rfl, _, _, _, _, rfl, rfl, SqL.of h0, rfl, _, _, rfl, rfl, _, rfl, _, _, _, _, rfl, rfl, h0, rfl, ?_⟩
      have h1 : (upd H hd (.lst ([V.int a, V.int b, V.int c].set 2 (V.int (c + 1))))) hd = some (.lst [V.int a, V.int b, V.int (c + 1)]) := upd_same
      have hcc : 0 ≤ 7919 * (c + 1) * (c + 1) := Int.mul_nonneg (Int.mul_nonneg (by omega) (by omega)) (by omega)
      have hcd : 7919 * (c + 1) * (c + 1) ≤ 7919 * 1000001 * 1000001 := Int.mul_le_mul (Int.mul_le_mul_of_nonneg_left (by omega) (by omega)) (by omega) (by omega) (by omega)
      refine ⟨_, rfl, _, _, _, _, rfl, rfl, SqL.of h1, rfl, _, rfl, _, _, _, _, rfl, rfl, SqL.of h1, rfl, _, _, rfl, rfl, .inl (.inl ⟨by decide, by decide⟩), _, rfl, _, _, _, _, rfl, rfl, SqL.of h1, rfl, _, _, rfl, rfl, .inl (.inr ⟨by omega, by omega⟩), _, _, rfl, rfl, _, _, rfl, rfl, _, _, rfl, rfl, ⟨by decide, by decide, by omega⟩, _, _, rfl, rfl, (by show (0 : Int) < 2305843009213693921; decide), ?_⟩
      refine ⟨_, rfl, _, rfl, _, _, rfl, rfl, (by show (0 : Int) < 1000003; decide), _, rfl, _, _, _, _, rfl, rfl, SqL.of h1, rfl, _, _, rfl, rfl, .inl (.inl ⟨by decide, by decide⟩), _, _, rfl, rfl, _, _, rfl, rfl, .inl (.inr ?_), _, _, rfl, rfl, (by show (0 : Int) < 2305843009213693907; decide), ?_⟩
      · generalize (b + 7919 * (c + 1) * (c + 1) + 11) ^ Int.toNat 3 % 2305843009213693921 = z
        constructor <;> omega
      · generalize (b + 7919 * (c + 1) * (c + 1) + 11) ^ Int.toNat 3 % 2305843009213693921 = z
        generalize z * (z % 1000003 + 99991 * (c + 1)) % 2305843009213693907 = y
        refine ⟨_, rfl, _, _, rfl, rfl, ⟨by decide, by decide +kernel⟩, _, rfl, _, _, rfl, rfl, hm, ?_⟩
        exact k _ _ (Int.emod_nonneg _ (by omega)) (Int.emod_lt_of_pos _ hm) ⟨a, b, c + 1, upd_same, ha, hb, hb2, by omega, by omega⟩ (Kp.refl _ _).set
theorem ok_l_pick {P : Program} {w : World} {K : PySem.W.Frag} {mg : Str → Option Value} {base : Heap} {φ : Fds} (T : Txt K mg φ) : FnOk P w K mg base CX0 2 (He.fAd K ("_law_pick", none)) φ.l_pick p_l_pick (sp_of K) := by
  obtain ⟨_, B0v, B0⟩ := b_l_take_2 T
  refine T.f_l_pick.ok sc_l_pick (fun vs H Q E h => ?_) (fun cdv A outer s H vs Q E hr h => ?_)
  · obtain ⟨h, l, n, xs, rfl, hh, hn, hl, ne, l0, l1, k⟩ := h; rfl
  · obtain ⟨h, l, n, xs, rfl, hh, hn, hl, ne, l0, l1, k⟩ := h
    refine ⟨_, PSs.nox (pss_one (ps_ret (pe_ix (ixl (K := K)) (pv 1) (pe_call (ok_l_take (K := K) T) (hr.mono (by decide)) rfl T.g_l_take T.f_l_take.kp B0 B0v pass0 (pa_cons (pv 0) (pa_cons (pe_callB (id := "len") (lenS (K := K)) (by rfl) T.z_len PySem.boot_len (pa_cons (pv 1) pa_nil)) pa_nil))) (fun _ _ => rfl)))), ?_⟩
    refine ⟨_, rfl, _, rfl, _, rfl, l, xs, rfl, .inl hl, h, n, (xs.length : Int), rfl, hh, by omega, by omega, ?_, fun d H1 d0 d1 hh1 k1 => ?_⟩
    · have : (xs.length : Int).natAbs = xs.length := by omega
      rw [this]
      have : xs.length < 2 ^ 10 := by omega
      exact Nat.lt_of_lt_of_le (PySem.Flt.log2_lt_of (by decide) this) (by decide)
    obtain ⟨j, rfl⟩ := Int.eq_ofNat_of_zero_le d0
    have hj : j < xs.length := by omega
    exact ⟨l, xs, _, xs[j], rfl, rfl, k1.seq ne hl, atI_nat (List.getElem?_eq_getElem hj), k j _ _ (List.getElem?_eq_getElem hj) hh1 k1⟩
theorem ok_l_plain {P : Program} {w : World} {K : PySem.W.Frag} {mg : Str → Option Value} {base : Heap} {φ : Fds} (T : Txt K mg φ) : FnOk P w K mg base CX0 1 (He.fAd K ("_law_plain", none)) φ.l_plain p_l_plain sp_plain := by
  refine T.f_l_plain.ok sc_l_plain (fun vs H Q E h => ?_) (fun cdv A outer s H vs Q E hr h => ?_)
  · obtain ⟨a, b, k, rfl, hb, sa, sb, k0, k1, kk⟩ := h; rfl
  · obtain ⟨a, b, k, rfl, hb, sa, sb, k0, k1, kk⟩ := h
    refine ⟨_, PSs.nox (pss_cons (ps_par (i := 2) (j := 3) rfl sc_l_plain.nd rfl rfl (by decide) rfl rfl (pa_cons (pe_callB (id := "abs") call_abs (by rfl) T.z_abs (by decide +kernel) (pa_cons (pv 0) pa_nil)) (pa_cons (pv 1) pa_nil)) (by rfl))
      (pss_cons (ps_while PassesOwn.never (pt_cmpR op_gt (pv 3) pe_int (nomark _))
      (pss_one (ps_par (i := 2) (j := 3) rfl sc_l_plain.nd rfl rfl (by decide) rfl rfl (pa_cons (pv 3) (pa_cons (pe_op op_mod (pv 2) (pv 3)) pa_nil)) (by rfl))))
      (pss_one (ps_ret (pe_tup (pa_cons (pe_op op_fd (pv 0) (pv 2)) (pa_cons (pe_op op_fd (pv 1) (pv 2)) pa_nil))))))), ?_⟩
    refine ⟨_, rfl, _, rfl, _, rfl, _, _, rfl, ?_⟩
    refine while_by (fun σ H' => H' = H ∧ ∃ g s : Int, σ = [some (.int a), some (.int b), some (.int g), some (.int s)] ∧ 0 ≤ g ∧ 0 ≤ s ∧ Int.gcd g s = Int.gcd a b)
      (fun σ _ => match σ with | [_, _, _, some (.int s)] => s.toNat | _ => 0) ⟨rfl, _, _, rfl, ?_, ?_, ?_⟩ ?_ (fun σ H Q Q' hQ ⟨v, e1, i, j, e2, e3, c, e4, q⟩ => ⟨v, e1, i, j, e2, e3, c, e4, hQ _ _ q⟩)
    · split <;> omega
    · omega
    · have e1 : (if a < 0 then -a else a) = (a.natAbs : Int) := by split <;> omega
      rw [e1]
      show Nat.gcd (a.natAbs : Int).natAbs b.natAbs = _
      rw [Int.natAbs_natCast]
      rfl
    rintro σ H' ⟨rfl, g, s, rfl, hg, hs, e⟩
    refine ⟨_, rfl, _, _, rfl, rfl, _, rfl, ?_⟩
    refine ite2 (fun c => ?_) (fun c => ?_)
    · have c0 : 0 < s := of_decide_eq_true c
      refine ⟨_, rfl, _, rfl, _, rfl, _, _, rfl, rfl, c0, _, _, rfl, ?_⟩
      refine ⟨⟨rfl, s, g % s, rfl, hs, Int.emod_nonneg _ (by omega), (gcd_step c0 hg).trans e⟩, ?_⟩
      show (g % s).toNat < s.toNat
      have h1 := Int.emod_nonneg g (show s ≠ 0 by omega)
      have h2 := Int.emod_lt_of_pos g c0
      omega
    · have c0 : ¬ 0 < s := fun z => c (decide_eq_true z)
      have s0 : s = 0 := by omega
      subst s0
      have eg : g = (Int.gcd a b : Int) := by
        rw [← e, Int.gcd_zero_right]
        omega
      subst eg
      have es : (Int.gcd a b : Int) = sgn b * (Int.gcd a b : Int) := by
        unfold sgn
        rw [if_pos hb, Int.one_mul]
      obtain ⟨c0, cl, fr⟩ := fr_mk (a := a) (b := b) (by omega) es
      have c9 : (Int.gcd a b : Int).natAbs.log2 < 9000 := (sb.le cl).log k0 (by omega)
      refine ⟨_, rfl, _, rfl, _, _, rfl, rfl, ⟨c0, c9⟩, _, rfl, _, rfl, _, _, rfl, rfl, ⟨c0, c9⟩, by show 2 ≤ sizeLine; decide, fun p np => ?_⟩
      exact kk _ (a.fdiv (Int.gcd a b : Int), b.fdiv (Int.gcd a b : Int)) _ (same1 np) (TQ.mk upd_same fr.pos (sa.le fr.lt) (sb.le fr.lu)) ⟨fr.pos, hb, fr.eq⟩
theorem ok_l_sum {P : Program} {w : World} {K : PySem.W.Frag} {mg : Str → Option Value} {base : Heap} {φ : Fds} (T : Txt K mg φ) : FnOk P w K mg base CX0 2 (He.fAd K ("_law_sum", none)) φ.l_sum p_l_sum sp_sum := by
  obtain ⟨_, B0v, B0⟩ := b_l_plain_2 T
  refine T.f_l_sum.ok sc_l_sum (fun vs H Q E h => ?_) (fun cdv A outer s H vs Q E hr h => ?_)
  · obtain ⟨v, w, k, j, x, y, rfl, ⟨p, rfl, hp, px, x1, x2⟩, ⟨q, rfl, hq, py, y1, y2⟩, k0, j0, l, kk⟩ := h; rfl
  · obtain ⟨v, w, k, j, x, y, rfl, ⟨p, rfl, hp, px, x1, x2⟩, ⟨q, rfl, hq, py, y1, y2⟩, k0, j0, l, kk⟩ := h
    refine ⟨_, PSs.nox (pss_one (ps_ret (pe_call (ok_l_plain (K := K) T) (hr.mono (by decide)) rfl T.g_l_plain T.f_l_plain.kp B0 B0v pass0 (pa_cons (pe_op op_add (pe_op op_mulA (pe_ix (ixt (K := K)) (pv 0) pe_int (fun _ _ => rfl)) (pe_ix (ixt (K := K)) (pv 1) pe_int (fun _ _ => rfl))) (pe_op op_mulA (pe_ix (ixt (K := K)) (pv 1) pe_int (fun _ _ => rfl)) (pe_ix (ixt (K := K)) (pv 0) pe_int (fun _ _ => rfl)))) (pa_cons (pe_op op_mulA (pe_ix (ixt (K := K)) (pv 0) pe_int (fun _ _ => rfl)) (pe_ix (ixt (K := K)) (pv 1) pe_int (fun _ _ => rfl))) pa_nil))))), ?_⟩
    walk_at "w"
    refine ⟨x1.cmul y2 k0 j0 (by omega), ?_⟩
    walk_at "w"
    refine ⟨y1.cmul x2 j0 k0 (by omega), ?_⟩
    walk_at "w"
    refine ⟨x2.cmul y2 k0 j0 (by omega), ?_⟩
    refine ⟨_, _, k + j + 1, rfl, Int.mul_pos px py, (x1.mul y2).add ?_, (x2.mul y2).mono (by omega), by omega, by omega, fun v z H' s t r => kk v z H' s t r⟩
    have := y1.mul x2
    rw [Nat.add_comm j k] at this
    exact this
theorem ok_l_less {P : Program} {w : World} {K : PySem.W.Frag} {mg : Str → Option Value} {base : Heap} {φ : Fds} (T : Txt K mg φ) : FnOk P w K mg base CX0 1 (He.fAd K ("_law_less", none)) φ.l_less p_l_less sp_less := by
  refine T.f_l_less.ok sc_l_less (fun vs H Q E h => ?_) (fun cdv A outer s H vs Q E hr h => ?_)
  · obtain ⟨v, w, k, j, x, y, rfl, ⟨p, rfl, hp, px, x1, x2⟩, ⟨q, rfl, hq, py, y1, y2⟩, k0, j0, l, kk⟩ := h; rfl
  · obtain ⟨v, w, k, j, x, y, rfl, ⟨p, rfl, hp, px, x1, x2⟩, ⟨q, rfl, hq, py, y1, y2⟩, k0, j0, l, kk⟩ := h
    refine ⟨_, PSs.nox (pss_one (ps_ret (pe_cmpR op_lt (pe_op op_mulA (pe_ix (ixt (K := K)) (pv 0) pe_int (fun _ _ => rfl)) (pe_ix (ixt (K := K)) (pv 1) pe_int (fun _ _ => rfl))) (pe_op op_mulA (pe_ix (ixt (K := K)) (pv 1) pe_int (fun _ _ => rfl)) (pe_ix (ixt (K := K)) (pv 0) pe_int (fun _ _ => rfl))) (nomark _)))), ?_⟩
    walk_at "w"
    refine ⟨x1.cmul y2 k0 j0 (by omega), ?_⟩
    walk_at "w"
    refine ⟨y1.cmul x2 j0 k0 (by omega), ?_⟩
    walk_at "w"
    exact kk
theorem ok_l_measures {P : Program} {w : World} {K : PySem.W.Frag} {mg : Str → Option Value} {base : Heap} {φ : Fds} (T : Txt K mg φ) : FnOk P w K mg base CX0 4 (He.fAd K ("_law_measures", none)) φ.l_measures p_l_measures (sp_meass K (He.ga K "Measure")) := by
  obtain ⟨_, B0v, B0⟩ := b_Measure_init_3 T
  refine T.f_l_measures.ok sc_l_measures (fun vs H Q E h => ?_) (fun cdv A outer s H vs Q E hr h => ?_)
  · obtain ⟨p, k, us, zs, rfl, hq, hm, k0, k1, l1, kk⟩ := h; rfl
  · obtain ⟨p, k, us, zs, rfl, hq, hm, k0, k1, l1, kk⟩ := h
    refine ⟨_, PSs.nox (pss_one (ps_ret (pe_callTy (T := "tuple") (tupleL (K := K)) (by rfl) T.z_tuple (by decide +kernel) (pa_cons (pe_lc (own := [("_law_top", 1), ("_law_bottom", 2)]) (g := gTup K 2 (gCons (gName 1) (gCons (gName 2) (gNil)))) rfl sc_l_measures.nd (pi_seq (pv 0)) (blkOk_by (own := [("_law_top", 1), ("_law_bottom", 2)]) (N := N_l_measures) (sc := (defScope s_l_measures)) (by decide +kernel)) (fun _ _ _ _ _ => (pg_tup rfl (pgs_cons (pg_name (i := 1) sc_l_measures.nd rfl (Or.inl rfl)) (pgs_cons (pg_name (i := 2) sc_l_measures.nd rfl (Or.inl rfl)) pgs_nil)))) (fun _ _ _ _ _ => pts_nil) (fun _ _ _ _ _ => (pe_make T.mk_Measure (ok_Measure_init (K := K) T) (hr.mono (by decide)) rfl T.g_Measure B0 B0v pass0 (pa_cons (pv 1) (pa_cons (pv 2) pa_nil))))) pa_nil)))), ?_⟩
    have el : us.length = zs.length := hm.len
    have body : ∀ (i : Nat) (x : V) (H1 : Hp) (N : VK) (M : Hp → Prop), us[i]? = some x → Same H H1 → (∀ y H4, Same H1 H4 → (∃ q z, y = V.ref q ∧ zs[i]? = some z ∧ QAt (He.ga K "Measure") H4 q k z) → N y H4) → ∃ (q : Addr) (z : Q2), x = .ref q ∧ H1 q = some (.tup [.int z.1, .int z.2]) ∧ zs[i]? = some z ∧ 0 < z.2 ∧ Sz k z.1 ∧ Sz k z.2 := fun i x H1 N M hx s1 hN => by
      obtain ⟨z, hz, t⟩ := (hm.same s1).of hx
      obtain ⟨q, e, h2, h3, h4, h5⟩ := t
      exact ⟨q, z, e, h2, hz, h3, h4, h5⟩
    have fin : ∀ (D : Addr) (H1 : Hp) (ys : List V), Same H H1 → H1 D = some (.lst ys) → ys.length = us.length → (∀ (i : Nat) (y : V), ys[i]? = some y → ∃ q z, y = V.ref q ∧ zs[i]? = some z ∧ QAt (He.ga K "Measure") H1 q k z) → ∀ T2, H1 T2 = none → Q (.ref T2) (upd H1 T2 (.tup ys)) := fun D H1 ys s1 hD ly hy T2 nT2 => by
      refine kk T2 ys _ (s1.up nT2) upd_same ⟨by omega, fun i v z h1 h2 => ?_⟩
      obtain ⟨q, z', e1, e2, e3⟩ := hy i v h1
      rw [h2] at e2
      cases e2
      exact ⟨q, e1, e3.same (same1 nT2)⟩
    rcases hq with hq | hq
    · refine ⟨_, rfl, p, rfl, .inl ⟨⟨_, hq⟩, fun D nD => ?_⟩⟩
      refine lcr (n := us.length) walk_list (fun _ _ g s => s.seq g) (fun i H v => ∃ q z, v = .ref q ∧ zs[i]? = some z ∧ QAt (He.ga K "Measure") H q k z) (fun i H H' y ⟨q, m, e1, e2, e3⟩ n => ⟨q, m, e1, e2, e3.nl n⟩) (szs (by omega)) hq nD (fun i x H1 H2 N M hi s1 y hN => ?_) (fun H1 ys s1 hD ly hy => ?_)
      · obtain ⟨rfl, hx⟩ := y
        obtain ⟨q, z, rfl, h2, hz, h3, h4, h5⟩ := body i x _ N M hx s1 hN
        refine ⟨q, _, rfl, SqT.of h2, rfl, _, _, rfl, _, _, rfl, rfl, rfl, yesT ?_⟩
        walk_at "w"
        exact q_made (k := k) h3 h4 h5 k0 (by omega) fun q2 H3 s3 R => hN _ _ s3 ⟨q2, z, rfl, hz, R⟩
      · walk_at "w"
        exact fin D H1 ys s1 hD ly hy
    · refine ⟨_, rfl, p, rfl, .inr ⟨⟨_, hq⟩, fun D nD => ?_⟩⟩
      refine lcr (n := us.length) walk_tup (fun _ _ g s => s.sqt g) (fun i H v => ∃ q z, v = .ref q ∧ zs[i]? = some z ∧ QAt (He.ga K "Measure") H q k z) (fun i H H' y ⟨q, m, e1, e2, e3⟩ n => ⟨q, m, e1, e2, e3.nl n⟩) (szs (by omega)) hq nD (fun i x H1 H2 N M hi s1 y hN => ?_) (fun H1 ys s1 hD ly hy => ?_)
      · obtain ⟨rfl, hx⟩ := y
        obtain ⟨q, z, rfl, h2, hz, h3, h4, h5⟩ := body i x _ N M hx s1 hN
        refine ⟨q, _, rfl, SqT.of h2, rfl, _, _, rfl, _, _, rfl, rfl, rfl, yesT ?_⟩
        walk_at "w"
        exact q_made (k := k) h3 h4 h5 k0 (by omega) fun q2 H3 s3 R => hN _ _ s3 ⟨q2, z, rfl, hz, R⟩
      · walk_at "w"
        exact fin D H1 ys s1 hD ly hy
theorem ok_l_part {P : Program} {w : World} {K : PySem.W.Frag} {mg : Str → Option Value} {base : Heap} {φ : Fds} (T : Txt K mg φ) : FnOk P w K mg base CX0 3 (He.fAd K ("_law_part", none)) φ.l_part p_l_part sp_lpart := by
  obtain ⟨_, B0v, B0⟩ := b_l_plain_2 T
  obtain ⟨_, B1v, B1⟩ := b_l_pick_2 T
  obtain ⟨_, B2v, B2⟩ := b_l_take_2 T
  refine T.f_l_part.ok sc_l_part (fun vs H Q E h => ?_) (fun cdv A outer s H vs Q E hr h => ?_)
  · obtain ⟨h, n, rfl, hh, hn, kk⟩ := h; rfl
  · obtain ⟨h, n, rfl, hh, hn, kk⟩ := h
    refine ⟨_, PSs.nox (pss_one (ps_ret (pe_call (ok_l_plain (K := K) T) (hr.mono (by decide)) rfl T.g_l_plain T.f_l_plain.kp B0 B0v pass0 (pa_cons (pe_op op_add pe_int (pe_call (ok_l_take (K := K) T) (hr.mono (by decide)) rfl T.g_l_take T.f_l_take.kp B2 B2v pass0 (pa_cons (pv 0) (pa_cons pe_int pa_nil)))) (pa_cons (pe_call (ok_l_pick (K := K) T) (hr.mono (by decide)) rfl T.g_l_pick T.f_l_pick.kp B1 B1v pass0 (pa_cons (pv 0) (pa_cons (pe_lst (pa_cons pe_int (pa_cons pe_int (pa_cons pe_int (pa_cons pe_int (pa_cons pe_int (pa_cons pe_int (pa_cons pe_int pa_nil)))))))) pa_nil))) pa_nil))))), ?_⟩
    walk_at "w"
    intro d H1 d0 d1 hh1 k1
    walk_at "w"
    intro p1 np1
    refine ⟨h, p1, _, _, rfl, hh1.up np1, by omega, SqL.of upd_same, hh1.ne np1, by decide, by decide, fun i1 vb H2 hr1 hh2 k2 => ?_⟩
    have hb : ∃ b : Int, vb = .int b ∧ 0 < b ∧ b ≤ 1000003 := by
      have hm := List.mem_of_getElem? hr1
      simp at hm
      rcases hm with rfl | rfl | rfl | rfl | rfl | rfl <;> exact ⟨_, rfl, by decide, by decide⟩
    obtain ⟨b, rfl, b0, b1⟩ := hb
    refine ⟨1 + d, b, 20, rfl, b0, ?_, ?_, by decide, by decide, fun v z H3 s3 t r => ?_⟩
    · show (1 + d).natAbs < 2 ^ 20
      omega
    · show b.natAbs < 2 ^ 20
      omega
    exact kk v z H3 (hh2.same s3) (((k1.up np1).trans k2).trans (Kp.same s3)) t (r.pos1 (by show 0 < 1 + d; omega))
theorem ok_l_marks {P : Program} {w : World} {K : PySem.W.Frag} {mg : Str → Option Value} {base : Heap} {φ : Fds} (T : Txt K mg φ) : FnOk P w K mg base CX0 4 (He.fAd K ("_law_marks", none)) φ.l_marks p_l_marks sp_marks := by
  obtain ⟨_, B0v, B0⟩ := b_l_part_1 T
  obtain ⟨_, B1v, B1⟩ := b_l_take_2 T
  obtain ⟨_, B2v, B2⟩ := b_l_plain_2 T
  obtain ⟨_, B3v, B3⟩ := b_l_pick_2 T
  obtain ⟨_, B4v, B4⟩ := b_l_sum_2 T
  refine T.f_l_marks.ok sc_l_marks (fun vs H Q E h => ?_) (fun cdv A outer s H vs Q E hr h => ?_)
  · obtain ⟨h, n, m, rfl, hh, hn, m0, m1, kk⟩ := h; rfl
  · obtain ⟨h, n, m, rfl, hh, hn, m0, m1, kk⟩ := h
    refine ⟨_, PSs.nox (pss_cons (ps_par3 (i := 2) (j := 3) (l := 4) rfl sc_l_marks.nd rfl rfl rfl (by decide) (by decide) (by decide) rfl rfl rfl (pa_cons (pe_call (ok_l_take (K := K) T) (hr.mono (by decide)) rfl T.g_l_take T.f_l_take.kp B1 B1v pass0 (pa_cons (pv 0) (pa_cons pe_int pa_nil))) (pa_cons (pe_op op_add pe_int (pe_call (ok_l_take (K := K) T) (hr.mono (by decide)) rfl T.g_l_take T.f_l_take.kp B1 B1v pass0 (pa_cons (pv 0) (pa_cons (pv 1) pa_nil)))) (pa_cons (pe_call (ok_l_part (K := K) T) (hr.mono (by decide)) rfl T.g_l_part T.f_l_part.kp B0 B0v pass0 (pa_cons (pv 0) pa_nil)) pa_nil))) (by rfl))
      (pss_cons (ps_set (i := 5) sc_l_marks.nd rfl (Or.inl rfl) (pe_lst (pa_cons (pe_call (ok_l_plain (K := K) T) (hr.mono (by decide)) rfl T.g_l_plain T.f_l_plain.kp B2 B2v pass0 (pa_cons (pe_op op_sub (pe_call (ok_l_take (K := K) T) (hr.mono (by decide)) rfl T.g_l_take T.f_l_take.kp B1 B1v pass0 (pa_cons (pv 0) (pa_cons pe_int pa_nil))) pe_int) (pa_cons (pe_call (ok_l_pick (K := K) T) (hr.mono (by decide)) rfl T.g_l_pick T.f_l_pick.kp B3 B3v pass0 (pa_cons (pv 0) (pa_cons (pe_lst (pa_cons pe_int (pa_cons pe_int (pa_cons pe_int (pa_cons pe_int pa_nil))))) pa_nil))) pa_nil))) pa_nil)))
      (pss_cons (ps_for PassesOwn.never rfl (pi_range1 rfl T.z_range (pa_cons (pe_op op_sub (pv 3) pe_int) pa_nil)) (pg_name (i := 6) sc_l_marks.nd rfl (Or.inl rfl))
      (pss_one (ps_expr (pe_bm PySem.F.plainAttrs_list PySem.F.slot_list_append PySem.F.type_list_append mt_append (pv 5) (pa_cons (pe_call (ok_l_sum (K := K) T) (hr.mono (by decide)) rfl T.g_l_sum T.f_l_sum.kp B4 B4v pass0 (pa_cons (pe_ix (ixl (K := K)) (pv 5) (pe_un un_neg pe_int) (fun _ _ => rfl)) (pa_cons (pe_ifExp (pt_cmpR op_eq (pv 2) pe_int (nomark _)) (pv 4) (pe_call (ok_l_part (K := K) T) (hr.mono (by decide)) rfl T.g_l_part T.f_l_part.kp B0 B0v pass0 (pa_cons (pv 0) pa_nil))) pa_nil))) pa_nil)))))
      (pss_one (ps_ret (pv 5)))))), ?_⟩
    walk_at "w"
    intro al H1 al0 al1 hh1 k1
    walk_at "w"
    intro mn H2 mn0 mn1 hh2 k2
    obtain ⟨mn, rfl⟩ := Int.eq_ofNat_of_zero_le mn0
    walk_at "w"
    intro vs zs H3 hh3 k3 ts zs0
    walk_at "w"
    intro d H4 d0 d1 hh4 k4
    walk_at "w"
    intro p1 np1
    refine ⟨h, p1, _, _, rfl, hh4.up np1, by omega, SqL.of upd_same, hh4.ne np1, by decide, by decide, fun i1 vb H5 hr1 hh5 k5 => ?_⟩
    have hb : ∃ b : Int, vb = .int b ∧ 0 < b ∧ b ≤ 12 := by
      have hm := List.mem_of_getElem? hr1
      simp at hm
      rcases hm with rfl | rfl | rfl | rfl <;> exact ⟨_, rfl, by decide, by decide⟩
    obtain ⟨b, rfl, b0, b1⟩ := hb
    refine ⟨_, b, 12, rfl, b0, ?_, ?_, by decide, by decide, fun v z H6 s6 t r => ?_⟩
    · show (d - 40).natAbs < 2 ^ 12
      omega
    · show b.natAbs < 2 ^ 12
      omega
    have kA := ((((k1.trans k2).trans k3).trans (k4.up np1)).trans k5).trans (Kp.same s6 : Kp h _ _)
    replace ts := ((((ts.kp hh3 k4).same (same1 np1)).kp (hh4.up np1) k5).same s6)
    have hhA := hh5.same s6
    clear hh1 hh2 hh3 hh4 hh5 k1 k2 k3 k4 k5 hr1 np1 s6
    walk_at "w"
    intro l nl
    have nlh := hhA.ne nl
    have nlH : H l = none := kA.fresh nl nlh
    replace kA := kA.up (u := .lst [v]) nl
    replace ts := ts.same (same1 (u := .lst [v]) nl)
    replace t := t.same (same1 (u := .lst [v]) nl)
    replace hhA := hhA.up (u := .lst [v]) nl
    have hlA : upd H6 l (.lst [v]) l = some (.lst [v]) := upd_same
    generalize upd H6 l (.lst [v]) = HA at *
    walk_at "w"
    refine for_range (fun i σ H' => ∃ (us : List V) (qs : List Q2) (vk : Option V), σ = [some (.ref h), some (.int m), some (.int al), some (.int (1 + (mn : Int))), some vs, some (.ref l), vk] ∧ H' l = some (.lst us) ∧ us.length = i + 1 ∧ HandAt H' h (n + 6 + 2 * i) ∧ Kp h H H' ∧ TQ H' vs 20 zs ∧ Tqs H' (12 + 21 * i) us qs ∧ RiseQ qs) ?_ ?_ ?_
    · exact ⟨[v], [z], _, rfl, hlA, rfl, hhA, kA, ts, Tqs.one t, fun i a b h1 h2 => by simp at h2⟩
    · rintro i σ H7 hi ⟨us, qs, vk, rfl, hl, lus, hh7, k7, ts7, tq, ri⟩
      have hi2 : i < 24 := by omega
      have lq := tq.len
      obtain ⟨x, hx⟩ := ge2 (zs := qs) (n := i) (by omega)
      obtain ⟨vx, hvx, tx⟩ := tq.at hx
      have last : ∀ (vy : V) (y : Q2) (H8 : Hp), Nl H7 H8 → H8 l = some (.lst us) → HandAt H8 h (n + 6 + 2 * i + 2) → Kp h H H8 → TQ H8 vy 20 y → 0 < y.1 → TQ H8 vx (12 + 21 * i) x → Tqs H8 (12 + 21 * i) us qs → TQ H8 vs 20 zs → ∀ (v9 : V) (z9 : Q2) (H9 : Hp), Same H8 H9 → TQ H9 v9 (12 + 21 * i + 20 + 1) z9 → Re z9 (qadd x y) →
          (∃ (us' : List V) (qs' : List Q2) (vk' : Option V), [some (.ref h), some (.int m), some (.int al), some (.int (1 + (mn : Int))), some vs, some (.ref l), some (.int (0 + (i : Int)))] = [some (.ref h), some (.int m), some (.int al), some (.int (1 + (mn : Int))), some vs, some (.ref l), vk'] ∧ upd H9 l (.lst (us ++ [v9])) l = some (.lst us') ∧ us'.length = i + 1 + 1 ∧ HandAt (upd H9 l (.lst (us ++ [v9]))) h (n + 6 + 2 * (i + 1)) ∧ Kp h H (upd H9 l (.lst (us ++ [v9]))) ∧ TQ (upd H9 l (.lst (us ++ [v9]))) vs 20 zs ∧ Tqs (upd H9 l (.lst (us ++ [v9]))) (12 + 21 * (i + 1)) us' qs' ∧ RiseQ qs') := by
        intro vy y H8 _ hl8 hh8 k8 ty y0 tx8 tq8 ts8 v9 z9 H9 s9 t9 r9
        have pl : Nl H9 (upd H9 l (.lst (us ++ [v9]))) := Nl.put (s9 _ _ hl8)
        refine ⟨us ++ [v9], qs ++ [z9], _, rfl, upd_same, by rw [List.length_append, lus]; rfl, ((hh8.same s9).put nlh).mono (by omega), (k8.trans (Kp.same s9)).putN nlH, (ts8.same s9).nl pl, (((tq8.same s9).mono (by omega)).snoc (t9.mono (by omega))).nl pl, rise_snocQ ri fun n a ha hn => ?_⟩
        have en : n = i := by omega
        subst en
        rw [hx] at ha
        cases ha
        exact ltq_moreR tx8.pos ty.pos y0 r9
      walk_at "w"
      refine ⟨atI_end (n := i) (by omega) hvx, ?_⟩
      refine ⟨_, rfl, rfl, _, rfl, ?_⟩
      rw [dI]
      refine ite2 (fun e => ?_) (fun e => ?_)
      · refine ⟨_, rfl, vx, vs, _, _, x, zs, rfl, tx, ts7, by omega, by decide, by omega, fun v9 z9 H9 s9 t9 r9 => ?_⟩
        refine ⟨l, us, _, rfl, rfl, s9 _ _ hl, szs (by omega), ?_⟩
        exact last vs zs H7 (fun _ _ z _ => z) hl (hh7.mono (by omega)) k7 ts7 zs0 tx tq ts7 v9 z9 H9 s9 t9 r9
      · refine ⟨_, rfl, h, _, rfl, hh7, by omega, fun vy y H8 hh8 k8 ty y0 => ?_⟩
        refine ⟨vx, vy, _, _, x, y, rfl, tx.kp hh7 k8, ty, by omega, by decide, by omega, fun v9 z9 H9 s9 t9 r9 => ?_⟩
        refine ⟨l, us, _, rfl, rfl, s9 _ _ (k8 _ _ hl nlh), szs (by omega), ?_⟩
        exact last vy y H8 (fun c o e no => k8 _ _ e (hh7.apart e no)) (k8 _ _ hl nlh) hh8 (k7.trans k8) ty y0 (tx.kp hh7 k8) (tq.kp hh7 k8) (ts7.kp hh7 k8) v9 z9 H9 s9 t9 r9
    rintro σ H7 ⟨us, qs, vk, rfl, hl, lus, hh7, k7, ts7, tq, ri⟩
    have lq := tq.len
    refine ⟨_, rfl, kk l us qs H7 (hh7.mono (by omega)) k7 nlh hl (tq.mono (by omega)) (by omega) (by omega) ri⟩
theorem ok_Measure_plus {P : Program} {w : World} {K : PySem.W.Frag} {mg : Str → Option Value} {base : Heap} {φ : Fds} (T : Txt K mg φ) : FnOk P w K mg base CX0 4 (He.fAd K ("Measure", some "plus")) φ.Measure_plus p_Measure_plus (sp_bin2 (He.ga K "Measure") (fun t u t' u' => t * u' + t' * u) (fun t u t' u' => u * u')) := by
  obtain ⟨_, B0v, B0⟩ := b_Measure_init_3 T
  refine T.f_Measure_plus.ok sc_Measure_plus (fun vs H Q E h => ?_) (fun cdv A outer s H vs Q E hr h => ?_)
  · obtain ⟨p, q, t, u, t', u', rfl, ⟨dp, hp⟩, ⟨dq, hq⟩, hu, hu', st, su, st', su', sg, k⟩ := h; rfl
  · obtain ⟨p, q, t, u, t', u', rfl, ⟨dp, hp⟩, ⟨dq, hq⟩, hu, hu', st, su, st', su', sg, k⟩ := h
    refine ⟨_, PSs.nox (pss_one (ps_ret (pe_make T.mk_Measure (ok_Measure_init (K := K) T) (hr.mono (by decide)) rfl T.g_Measure B0 B0v pass0 (pa_cons (pe_op op_add (pe_op op_mulA (fldK (K := K) (pv 0) rfl) (fldK (K := K) (pv 1) rfl)) (pe_op op_mulA (fldK (K := K) (pv 1) rfl) (fldK (K := K) (pv 0) rfl))) (pa_cons (pe_op op_mulA (fldK (K := K) (pv 0) rfl) (fldK (K := K) (pv 1) rfl)) pa_nil))))), ?_⟩
    refine ⟨_, rfl, _, _, _, _, _, rfl, hp, T.cl_Measure, T.na_Measure_top, mf_top _ _, _, rfl, _, _, _, _, _, rfl, hq, T.cl_Measure, T.na_Measure_bottom, mf_bottom _ _, _, _, rfl, rfl, st.cmul su' (by decide) (by decide) (by decide), _, rfl, _, _, _, _, _, rfl, hq, T.cl_Measure, T.na_Measure_top, mf_top _ _, _, rfl, _, _, _, _, _, rfl, hp, T.cl_Measure, T.na_Measure_bottom, mf_bottom _ _, _, _, rfl, rfl, st'.cmul su (by decide) (by decide) (by decide), _, _, rfl, rfl, _, rfl, _, _, _, _, _, rfl, hp, T.cl_Measure, T.na_Measure_bottom, mf_bottom _ _, _, rfl, _, _, _, _, _, rfl, hq, T.cl_Measure, T.na_Measure_bottom, mf_bottom _ _, _, _, rfl, rfl, su.cmul su' (by decide) (by decide) (by decide), ?_⟩
    intro x dx nx nd ne
    refine ⟨x, dx, _, _, rfl, upd_same, Int.mul_ne_zero (by omega) (by omega), sg.log (by decide) (by decide), fun t2 u2 H' fr hx kp => ⟨rfl, ?_⟩⟩
    exact k x t2 u2 H' nx (made_same nx nd kp) ⟨_, hx⟩ fr
theorem ok_Measure_minus {P : Program} {w : World} {K : PySem.W.Frag} {mg : Str → Option Value} {base : Heap} {φ : Fds} (T : Txt K mg φ) : FnOk P w K mg base CX0 4 (He.fAd K ("Measure", some "minus")) φ.Measure_minus p_Measure_minus (sp_bin2 (He.ga K "Measure") (fun t u t' u' => t * u' - t' * u) (fun t u t' u' => u * u')) := by
  obtain ⟨_, B0v, B0⟩ := b_Measure_init_3 T
  refine T.f_Measure_minus.ok sc_Measure_minus (fun vs H Q E h => ?_) (fun cdv A outer s H vs Q E hr h => ?_)
  · obtain ⟨p, q, t, u, t', u', rfl, ⟨dp, hp⟩, ⟨dq, hq⟩, hu, hu', st, su, st', su', sg, k⟩ := h; rfl
  · obtain ⟨p, q, t, u, t', u', rfl, ⟨dp, hp⟩, ⟨dq, hq⟩, hu, hu', st, su, st', su', sg, k⟩ := h
    refine ⟨_, PSs.nox (pss_one (ps_ret (pe_make T.mk_Measure (ok_Measure_init (K := K) T) (hr.mono (by decide)) rfl T.g_Measure B0 B0v pass0 (pa_cons (pe_op op_sub (pe_op op_mulA (fldK (K := K) (pv 0) rfl) (fldK (K := K) (pv 1) rfl)) (pe_op op_mulA (fldK (K := K) (pv 1) rfl) (fldK (K := K) (pv 0) rfl))) (pa_cons (pe_op op_mulA (fldK (K := K) (pv 0) rfl) (fldK (K := K) (pv 1) rfl)) pa_nil))))), ?_⟩
    refine ⟨_, rfl, _, _, _, _, _, rfl, hp, T.cl_Measure, T.na_Measure_top, mf_top _ _, _, rfl, _, _, _, _, _, rfl, hq, T.cl_Measure, T.na_Measure_bottom, mf_bottom _ _, _, _, rfl, rfl, st.cmul su' (by decide) (by decide) (by decide), _, rfl, _, _, _, _, _, rfl, hq, T.cl_Measure, T.na_Measure_top, mf_top _ _, _, rfl, _, _, _, _, _, rfl, hp, T.cl_Measure, T.na_Measure_bottom, mf_bottom _ _, _, _, rfl, rfl, st'.cmul su (by decide) (by decide) (by decide), _, _, rfl, rfl, _, rfl, _, _, _, _, _, rfl, hp, T.cl_Measure, T.na_Measure_bottom, mf_bottom _ _, _, rfl, _, _, _, _, _, rfl, hq, T.cl_Measure, T.na_Measure_bottom, mf_bottom _ _, _, _, rfl, rfl, su.cmul su' (by decide) (by decide) (by decide), ?_⟩
    intro x dx nx nd ne
    refine ⟨x, dx, _, _, rfl, upd_same, Int.mul_ne_zero (by omega) (by omega), sg.log (by decide) (by decide), fun t2 u2 H' fr hx kp => ⟨rfl, ?_⟩⟩
    exact k x t2 u2 H' nx (made_same nx nd kp) ⟨_, hx⟩ fr
theorem ok_measure_or {P : Program} {w : World} {K : PySem.W.Frag} {mg : Str → Option Value} {base : Heap} {φ : Fds} (T : Txt K mg φ) : FnOk P w K mg base CX0 4 (He.fAd K ("measure_or", none)) φ.measure_or p_measure_or (sp_mor (He.ga K "Measure")) := by
  obtain ⟨_, B0v, B0⟩ := b_Measure_init_2 T
  refine T.f_measure_or.ok sc_measure_or (fun vs H Q E h => ?_) (fun cdv A outer s H vs Q E hr h => ?_)
  · obtain ⟨v, k, e, rfl, he, k0, k1, kk⟩ := h; rfl
  · obtain ⟨v, k, e, rfl, he, k0, k1, kk⟩ := h
    refine ⟨_, PSs.nox (pss_cons (ps_if (pt_cmpR op_isN (pv 0) pe_non (nomark _))
      (pss_one (ps_ret (pe_make T.mk_Measure (ok_Measure_init (K := K) T) (hr.mono (by decide)) rfl T.g_Measure B0 B0v pass0 (pa_cons (pv 1) pa_nil))))
      pss_nil)
      (pss_one (ps_ret (pv 0)))), ?_⟩
    cases e with
    | none =>
      cases he
      walk_at "w"
      refine q_made (k := k) (by decide) ?_ ?_ k0 (by omega) fun q H1 s1 R => kk q H1 s1 R
      · show (0 : Int).natAbs < 2 ^ k
        exact Nat.two_pow_pos k
      · show (1 : Int).natAbs < 2 ^ k
        exact Nat.one_lt_two_pow (by omega)
    | some z =>
      obtain ⟨p, rfl, qz⟩ := he
      walk_at "w"
      exact kk p H (Same.refl _) qz
theorem ok_fits {P : Program} {w : World} {K : PySem.W.Frag} {mg : Str → Option Value} {base : Heap} {φ : Fds} (T : Txt K mg φ) : FnOk P w K mg base CX0 5 (He.fAd K ("fits", none)) φ.fits p_fits (sp_fits K (He.ga K "Measure") (He.ga K "Ladder")) := by
  obtain ⟨_, B0v, B0⟩ := b_Measure_minus_2 T
  obtain ⟨_, B1v, B1⟩ := b_measure_or_2 T
  obtain ⟨_, B2v, B2⟩ := b_Measure_plus_2 T
  obtain ⟨_, B3v, B3⟩ := b_Measure_is_below_3 T
  refine T.f_fits.ok sc_fits (fun vs H Q E h => ?_) (fun cdv A outer s H vs Q E hr h => ?_)
  · obtain ⟨p, q, s, t, k, j, zs, r, lo, hi, x, y, e, rfl, hL, qx, qy, qt, k0, j0, k1, j1, kk⟩ := h; rfl
  · obtain ⟨p, q, s, t, k, j, zs, r, lo, hi, x, y, e, rfl, hL, qx, qy, qt, k0, j0, k1, j1, kk⟩ := h
    refine ⟨_, PSs.nox (pss_cons (ps_set (i := 4) sc_fits.nd rfl (Or.inr rfl) (pe_meth (pv 1) T.cl_Measure T.me_Measure_minus (ok_Measure_minus (K := K) T) (hr.mono (by decide)) B0 B0v pass0 (pa_cons (pe_call (ok_measure_or (K := K) T) (hr.mono (by decide)) rfl T.g_measure_or T.f_measure_or.kp B1 B1v pass0 (pa_cons (pv 3) (pa_cons pe_int pa_nil))) pa_nil)))
      (pss_cons (ps_set (i := 5) sc_fits.nd rfl (Or.inr rfl) (pe_meth (pv 1) T.cl_Measure T.me_Measure_plus (ok_Measure_plus (K := K) T) (hr.mono (by decide)) B2 B2v pass0 (pa_cons (pv 2) pa_nil)))
      (pss_one (ps_ret (pe_callTy (T := "tuple") (tupleL (K := K)) (by rfl) T.z_tuple (by decide +kernel) (pa_cons (pe_lc (own := [("number", 6), ("mark", 7)]) (g := gTup K 2 (gCons (gName 6) (gCons (gName 7) (gNil)))) rfl sc_fits.nd (pi_enumT (by rfl) T.z_enumerate (pa_cons (fldK (K := K) (pv 0) rfl) pa_nil)) (blkOk_by (own := [("number", 6), ("mark", 7)]) (N := N_fits) (sc := (defScope s_fits)) (by decide +kernel)) (fun _ _ _ _ _ => (pg_tup rfl (pgs_cons (pg_name (i := 6) sc_fits.nd rfl (Or.inl rfl)) (pgs_cons (pg_name (i := 7) sc_fits.nd rfl (Or.inl rfl)) pgs_nil)))) (fun _ _ _ _ _ => (pts_one (PW.pt (pw_and (pt_val (pe_meth (pv 4) T.cl_Measure T.me_Measure_is_below (ok_Measure_is_below (K := K) T) (hr.mono (by decide)) B3 B3v pass0 (pa_cons (pv 7) (pa_cons pe_bl pa_nil)))) (pw_and1 (pt_val (pe_meth (pv 7) T.cl_Measure T.me_Measure_is_below (ok_Measure_is_below (K := K) T) (hr.mono (by decide)) B3 B3v pass0 (pa_cons (pv 5) (pa_cons pe_bl pa_nil))))))))) (fun _ _ _ _ _ => (pv 6))) pa_nil)))))), ?_⟩
    have cl_Ladder := T.cl_Ladder
    have na_Ladder_marks := T.na_Ladder_marks
    have na_Ladder_rule := T.na_Ladder_rule
    have na_Ladder_least := T.na_Ladder_least
    have na_Ladder_most := T.na_Ladder_most
    
    have hL0 := hL
    obtain ⟨⟨dx, T', ps, l, h, hp, hT, hm, ql, qh⟩, l0, l1, hri, hru, hsp⟩ := hL
    have el : ps.length = zs.length := hm.len
    walk_at "w"
    refine ⟨e, rfl, qt, j0, by omega, fun pt H1 s1 qt1 => ?_⟩
    have qx1 := qx.same s1
    walk_at "w"
    intro m1 H2 s2 qm1
    have qx2 := qx1.same s2
    have qy2 := qy.same (s1.trans s2)
    refine ⟨_, rfl, meth_q qx2 (by decide +kernel) (by decide +kernel) ⟨_, rfl, q_addT qx2 qy2 (by omega) j0 j0 fun m2 H3 s3 qm2 => ?_⟩⟩
    have s13 := (s1.trans s2).trans s3
    have qm13 := qm1.same s3
    have hp3 := s13 _ _ hp
    have hT3 := s13.sqt hT
    have hm3 := hm.same s13
    walk_at "w"
    intro D nD
    refine lcz (n := ps.length) walk_enumT (fun _ _ g s => s.sqt g) (oIdx ps.length (fitQ zs x y (e.getD (0, 1)))) (oIdx_len _ _) (szs (by omega)) hT3 nD (fun i v H4 H5 o N M hi ho s4 yy hN hM => ?_) (fun H4 s4 hD => ?_)
    · obtain ⟨t4, a0, b0, rfl, nt, rfl, ha0, hb0⟩ := yy
      cases ha0
      obtain ⟨a, ha⟩ := ge2 (zs := zs) (n := i) (by omega)
      have eo := oIdx_get ho
      have ef : fitQ zs x y (e.getD (0, 1)) i = (leq (qsub x (e.getD (0, 1))) a && leq a (qadd x y)) := by
        unfold fitQ
        rw [ha]
      rw [ef] at eo
      replace hb0 : ps[i]? = some b0 := hb0
      obtain ⟨pm, z1, rfl, hz1, qa⟩ := (hm3.same s4).of hb0
      rw [ha] at hz1
      cases hz1
      have s5 : Same H4 (upd H4 t4 (.tup [.int (i : Int), .ref pm])) := same1 nt
      have qa5 := qa.same s5
      have qm15 := (qm13.same s4).same s5
      have qm25 := (qm2.same s4).same s5
      refine ⟨t4, _, rfl, SqT.of upd_same, rfl, _, _, rfl, _, _, rfl, rfl, rfl, ?_⟩
      walk_at "w"
      cases e1 : leq (qsub x (e.getD (0, 1))) a with
      | false =>
        have e1' : (ltq (qsub x (e.getD (0, 1))) a || eqq (qsub x (e.getD (0, 1))) a) = false := e1
        rw [e1']
        refine iteF ?_
        exact hM _ (by rw [eo, e1]; rfl) s5
      | true =>
        have e1' : (ltq (qsub x (e.getD (0, 1))) a || eqq (qsub x (e.getD (0, 1))) a) = true := e1
        rw [e1']
        refine iteT ?_
        walk_at "w"
        cases e2 : leq a (qadd x y) with
        | false =>
          have e2' : (ltq a (qadd x y) || eqq a (qadd x y)) = false := e2
          rw [e2']
          refine iteF ?_
          exact hM _ (by rw [eo, e1, e2]; rfl) s5
        | true =>
          have e2' : (ltq a (qadd x y) || eqq a (qadd x y)) = true := e2
          rw [e2']
          refine iteT ?_
          exact ⟨_, rfl, hN _ _ (by rw [eo, e1, e2]; rfl) s5⟩
    rw [oIdx_fm, el] at hD
    walk_at "w"
    intro T2 nT2
    exact kk T2 _ ((s13.trans s4).up nT2) upd_same
theorem ok_l_any_ladder {P : Program} {w : World} {K : PySem.W.Frag} {mg : Str → Option Value} {base : Heap} {φ : Fds} (T : Txt K mg φ) : FnOk P w K mg base CX0 5 (He.fAd K ("_law_any_ladder", none)) φ.l_any_ladder p_l_any_ladder (sp_anyl K (He.ga K "Measure") (He.ga K "Ladder")) := by
  obtain ⟨_, B0v, B0⟩ := b_l_pick_2 T
  obtain ⟨_, B1v, B1⟩ := b_l_sum_2 T
  obtain ⟨_, B2v, B2⟩ := b_Measure_init_3 T
  obtain ⟨_, B3v, B3⟩ := b_Ladder_init_5 T
  obtain ⟨_, B4v, B4⟩ := b_l_measures_1 T
  refine T.f_l_any_ladder.ok sc_l_any_ladder (fun vs H Q E h => ?_) (fun cdv A outer s H vs Q E hr h => ?_)
  · obtain ⟨h, l, n, k, us, zs, rfl, hh, hn, nlh, hl, tq, k0, k1, l0, l1, ri, kk⟩ := h; rfl
  · obtain ⟨h, l, n, k, us, zs, rfl, hh, hn, nlh, hl, tq, k0, k1, l0, l1, ri, kk⟩ := h
    refine ⟨_, PSs.nox (pss_cons (ps_set (i := 2) sc_l_any_ladder.nd rfl (Or.inl rfl) (pe_call (ok_l_pick (K := K) T) (hr.mono (by decide)) rfl T.g_l_pick T.f_l_pick.kp B0 B0v pass0 (pa_cons (pv 0) (pa_cons (pe_lst (pa_cons pe_str (pa_cons pe_str (pa_cons pe_str pa_nil)))) pa_nil))))
      (pss_cons (ps_par (i := 3) (j := 4) rfl sc_l_any_ladder.nd rfl rfl (by decide) rfl rfl (pa_cons (pe_call (ok_l_pick (K := K) T) (hr.mono (by decide)) rfl T.g_l_pick T.f_l_pick.kp B0 B0v pass0 (pa_cons (pv 0) (pa_cons (pe_lst (pa_cons pe_non (pa_cons (pe_ix (ixl (K := K)) (pv 1) pe_int (fun _ _ => rfl)) pa_nil))) pa_nil))) (pa_cons (pe_call (ok_l_pick (K := K) T) (hr.mono (by decide)) rfl T.g_l_pick T.f_l_pick.kp B0 B0v pass0 (pa_cons (pv 0) (pa_cons (pe_lst (pa_cons pe_non (pa_cons (pe_ix (ixl (K := K)) (pv 1) (pe_un un_neg pe_int) (fun _ _ => rfl)) (pa_cons (pe_call (ok_l_sum (K := K) T) (hr.mono (by decide)) rfl T.g_l_sum T.f_l_sum.kp B1 B1v pass0 (pa_cons (pe_ix (ixl (K := K)) (pv 1) (pe_un un_neg pe_int) (fun _ _ => rfl)) (pa_cons (pe_tup (pa_cons pe_int (pa_cons pe_int pa_nil))) pa_nil))) pa_nil)))) pa_nil))) pa_nil)) (by rfl))
      (pss_cons (ps_setLc (i := 5) (own := [("_law_one", 6)]) (g := gName 6) rfl sc_l_any_ladder.nd rfl rfl (sw_true rfl rfl rfl (by decide +kernel)) (pi_tup (pe_tup (pa_cons (pv 3) (pa_cons (pv 4) pa_nil)))) (blkOk_by (own := [("_law_one", 6)]) (N := N_l_any_ladder) (sc := (defScope s_l_any_ladder)) (by decide +kernel)) (fun _ _ _ _ _ => (pg_name (i := 6) sc_l_any_ladder.nd rfl (Or.inl rfl))) (fun _ _ _ _ _ => pts_nil) (fun _ _ _ _ _ => (pe_ifExp (pt_cmpR op_isN (pv 6) pe_non (nomark _)) pe_non (pe_make T.mk_Measure (ok_Measure_init (K := K) T) (hr.mono (by decide)) rfl T.g_Measure B2 B2v pass0 (pa_cons (pe_ix (ixt (K := K)) (pv 6) pe_int (fun _ _ => rfl)) (pa_cons (pe_ix (ixt (K := K)) (pv 6) pe_int (fun _ _ => rfl)) pa_nil))))))
      (pss_one (ps_ret (pe_make T.mk_Ladder (ok_Ladder_init (K := K) T) (hr.mono (by decide)) rfl T.g_Ladder B3 B3v pass0 (pa_cons (pe_call (ok_l_measures (K := K) T) (hr.mono (by decide)) rfl T.g_l_measures T.f_l_measures.kp B4 B4v pass0 (pa_cons (pv 1) pa_nil)) (pa_cons (pv 2) (pa_cons (pe_ix (ixl (K := K)) (pv 5) pe_int (fun _ _ => rfl)) (pa_cons (pe_ix (ixl (K := K)) (pv 5) pe_int (fun _ _ => rfl)) pa_nil)))))))))), ?_⟩
    have lq := tq.len
    walk_at "w"
    intro p1 np1
    refine ⟨h, p1, n, _, rfl, hh.up np1, by omega, SqL.of upd_same, hh.ne np1, by decide, by decide, fun i1 vr H1 hr1 hh1 k1' => ?_⟩
    have hru : ∃ r : Str, vr = .str r ∧ IsRule r := by
      have hm := List.mem_of_getElem? hr1
      simp at hm
      rcases hm with rfl | rfl | rfl
      · exact ⟨_, rfl, .inl rfl⟩
      · exact ⟨_, rfl, .inr (.inl rfl)⟩
      · exact ⟨_, rfl, .inr (.inr rfl)⟩
    obtain ⟨r, rfl, hru⟩ := hru
    have kA := ((Kp.refl h H).up (u := .lst [V.str "up", V.str "down", V.str "near"]) np1).trans k1'
    obtain ⟨z0, hz0⟩ := ge2 (zs := zs) (n := 0) l0
    obtain ⟨z1, hz1⟩ := ge2 (zs := zs) (n := zs.length - 1) (by omega)
    obtain ⟨v0, hv0, _⟩ := tq.at hz0
    obtain ⟨v1, hv1, _⟩ := tq.at hz1
    have hl1 := kA _ _ hl nlh
    replace tq := tq.kp hh kA
    have t0 := tq.all 0 v0 z0 hv0 hz0
    have t1 := tq.all _ v1 z1 hv1 hz1
    walk_at "w"
    intro p2 np2
    refine ⟨h, p2, _, _, rfl, hh1.up np2, by omega, SqL.of upd_same, hh1.ne np2, Nat.le_of_ble_eq_true rfl, Nat.le_of_ble_eq_true rfl, fun i2 vl H2 hr2 hh2 k2 => ?_⟩
    have kB := (k2.trans (Kp.refl _ _) : Kp h _ H2)
    have kC := (kA.up (u := .lst [V.non, v0]) np2).trans k2
    have hl2 := k2 _ _ (up1 np2 hl1) nlh
    have tqB := (tq.same (same1 (u := .lst [V.non, v0]) np2)).kp (hh1.up np2) k2
    have t0B := (t0.same (same1 (u := .lst [V.non, v0]) np2)).kp (hh1.up np2) k2
    have t1B := (t1.same (same1 (u := .lst [V.non, v0]) np2)).kp (hh1.up np2) k2
    have hvl : vl = .non ∨ vl = v0 := by
      have hm := List.mem_of_getElem? hr2
      simpa using hm
    walk_at "w"
    refine ⟨atI_end (n := zs.length - 1) (by omega) hv1, ?_⟩
    walk_at "w"
    refine ⟨atI_end (n := zs.length - 1) (by omega) hv1, ?_⟩
    walk_at "w"
    intro p3 np3
    have t1C := t1B.same (same1 (u := .tup [V.int 1, V.int 2]) np3)
    refine ⟨v1, .ref p3, k, 3, z1, (1, 2), rfl, t1C, TQ.mk upd_same (by decide) (by decide) (by decide), k0, by decide, by omega, fun v3 z3 H3 s3 t3 r3 => ?_⟩
    have s23 : Same H2 H3 := (same1 np3 : Same H2 _).trans s3
    walk_at "w"
    intro p4 np4
    have s24 := s23.up (u := .lst [V.non, v1, v3]) np4
    refine ⟨h, p4, _, _, rfl, (hh2.same s23).up np4, by omega, SqL.of upd_same, (hh2.same s23).ne np4, Nat.le_of_ble_eq_true rfl, Nat.le_of_ble_eq_true rfl, fun i4 vh H4 hr4 hh4 k4 => ?_⟩
    have kD := (kC.trans (Kp.same s24)).trans k4
    have hl4 := k4 _ _ (s24 _ _ hl2) nlh
    have tqD := (tqB.same s24).kp ((hh2.same s23).up np4) k4
    have t0D := (t0B.same s24).kp ((hh2.same s23).up np4) k4
    have t1D := (t1B.same s24).kp ((hh2.same s23).up np4) k4
    have t3D := (t3.same (same1 (u := .lst [V.non, v1, v3]) np4)).kp ((hh2.same s23).up np4) k4
    have hvh : vh = .non ∨ vh = v1 ∨ vh = v3 := by
      have hm := List.mem_of_getElem? hr4
      simpa using hm
    clear hr1 hr2 hr4
    have le01 : ltq z1 z0 = false := rise_ends ri tqD.posL hz0 hz1
    have lt13 : ltq z1 z3 = true := ltq_moreR t1D.pos (by decide) (by decide) r3
    have hlo : ∃ lo : Option Q2, (lo = none ∨ lo = some z0) ∧ TOq H4 (k + 4) vl lo := by
      rcases hvl with rfl | rfl
      · exact ⟨none, .inl rfl, rfl⟩
      · exact ⟨some z0, .inr rfl, t0D.mono (by omega)⟩
    have hhi : ∃ hi : Option Q2, (hi = none ∨ hi = some z1 ∨ hi = some z3) ∧ TOq H4 (k + 4) vh hi := by
      rcases hvh with rfl | rfl | rfl
      · exact ⟨none, .inl rfl, rfl⟩
      · exact ⟨some z1, .inr (.inl rfl), t1D.mono (by omega)⟩
      · exact ⟨some z3, .inr (.inr rfl), t3D.mono (by omega)⟩
    obtain ⟨lo, elo, tlo⟩ := hlo
    obtain ⟨hi, ehi, thi⟩ := hhi
    have span : spanB lo hi = true := by
      rcases elo with rfl | rfl
      · cases hi <;> rfl
      · rcases ehi with rfl | rfl | rfl
        · rfl
        · show (!ltq z1 z0) = true
          rw [le01]; rfl
        · show (!ltq z3 z0) = true
          have := ltq_notlt t1D.pos t3D.pos t0D.pos le01 lt13
          rw [this]; rfl
    walk_at "w"
    intro p5 np5
    refine ⟨p5, rfl, ⟨_, SqT.of upd_same⟩, fun D nD => ?_⟩
    have s45 : Same H4 (upd H4 p5 (.tup [vl, vh])) := same1 np5
    refine lcr (n := [vl, vh].length) walk_tup (fun _ _ g s => s.sqt g) (fun i H v => QO (He.ga K "Measure") H (k + 4) v (if i = 0 then lo else hi)) (fun i H H' y q nl => QO.nl nl q) (szs (Nat.le_of_ble_eq_true rfl)) (SqT.of upd_same) nD (fun i x H6 H7 N M hi' s6 y hN => ?_) (fun H6 ys s6 hD ly hy => ?_)
    · obtain ⟨rfl, hx⟩ := y
      have hi2 : i < 2 := hi'
      have ht : TOq H7 (k + 4) x (if i = 0 then lo else hi) := by
        obtain rfl | rfl : i = 0 ∨ i = 1 := by omega
        · cases hx
          exact (tlo.same s45).same s6
        · cases hx
          exact (thi.same s45).same s6
      refine ⟨rfl, yesT ?_⟩
      revert ht hN
      generalize (if i = 0 then lo else hi) = o
      intro hN ht
      cases o with
      | none =>
        cases ht
        walk_at "w"
        exact hN _ _ (Same.refl _) rfl
      | some z =>
        obtain ⟨q, rfl, hq, hz, sz1, sz2⟩ := ht
        refine ⟨_, rfl, rfl, _, rfl, iteF ?_⟩
        walk_at "w"
        exact q_made (k := k + 4) hz sz1 sz2 (by omega) (by omega) fun q2 H8 s8 R => hN _ _ s8 ⟨q2, rfl, R⟩
    have ly2 : ys.length = 2 := ly
    obtain ⟨y0, hy0⟩ := geV (xs := ys) (n := 0) (by omega)
    obtain ⟨y1, hy1⟩ := geV (xs := ys) (n := 1) (by omega)
    have q0 : QO (He.ga K "Measure") H6 (k + 4) y0 lo := hy 0 y0 hy0
    have q1 : QO (He.ga K "Measure") H6 (k + 4) y1 hi := hy 1 y1 hy1
    have s46 := s45.trans s6
    walk_at "w"
    refine ⟨zs, rfl, .inl (SqL.of (s46 _ _ hl4)), tqD.same s46, k0, by omega, l1, fun T2 ps H8 s8 hT2 hm => ?_⟩
    have hD8 := s8 _ _ hD
    walk_at "w"
    refine lad_made (k := k + 4) (SqT.of hT2) (hm.mono (by omega)) (by omega) l0 l1 ri hru (q0.same s8) (q1.same s8) span fun q H9 _ s9 L9 _ => kk q r lo hi H9 ?_ ?_ L9
    · exact ((hh4.same s46).same s8).same s9 |>.mono (by omega)
    · exact ((kD.trans (Kp.same s46)).trans (Kp.same s8)).trans (Kp.same s9)
theorem ok_l_width {P : Program} {w : World} {K : PySem.W.Frag} {mg : Str → Option Value} {base : Heap} {φ : Fds} (T : Txt K mg φ) : FnOk P w K mg base CX0 4 (He.fAd K ("_law_width", none)) φ.l_width p_l_width sp_widthP := by
  obtain ⟨_, B0v, B0⟩ := b_l_part_1 T
  obtain ⟨_, B1v, B1⟩ := b_l_sum_2 T
  obtain ⟨_, B2v, B2⟩ := b_l_pick_2 T
  obtain ⟨_, B3v, B3⟩ := b_l_plain_2 T
  refine T.f_l_width.ok sc_l_width (fun vs H Q E h => ?_) (fun cdv A outer s H vs Q E hr h => ?_)
  · obtain ⟨h, l, n, k, us, zs, rfl, hh, hn, nlh, hl, tq, k0, k1, l0, l1, ri, kk⟩ := h; rfl
  · obtain ⟨h, l, n, k, us, zs, rfl, hh, hn, nlh, hl, tq, k0, k1, l0, l1, ri, kk⟩ := h
    refine ⟨_, PSs.nox (pss_cons (ps_par (i := 2) (j := 3) rfl sc_l_width.nd rfl rfl (by decide) rfl rfl (pa_cons (pe_tup (pa_cons pe_int (pa_cons pe_int pa_nil))) (pa_cons (pe_call (ok_l_part (K := K) T) (hr.mono (by decide)) rfl T.g_l_part T.f_l_part.kp B0 B0v pass0 (pa_cons (pv 0) pa_nil)) pa_nil)) (by rfl))
      (pss_cons (ps_cut (ps_if (pt_cmpR op_gt (pe_callB (id := "len") (lenS (K := K)) (by rfl) T.z_len PySem.boot_len (pa_cons (pv 1) pa_nil)) pe_int (nomark _))
      (pss_one (ps_set (i := 2) sc_l_width.nd rfl (Or.inl rfl) (pe_call (ok_l_sum (K := K) T) (hr.mono (by decide)) rfl T.g_l_sum T.f_l_sum.kp B1 B1v pass0 (pa_cons (pe_ix (ixl (K := K)) (pv 1) pe_int (fun _ _ => rfl)) (pa_cons (pe_tup (pa_cons (pe_op op_sub pe_int (pe_ix (ixt (K := K)) (pe_ix (ixl (K := K)) (pv 1) pe_int (fun _ _ => rfl)) pe_int (fun _ _ => rfl))) (pa_cons (pe_ix (ixt (K := K)) (pe_ix (ixl (K := K)) (pv 1) pe_int (fun _ _ => rfl)) pe_int (fun _ _ => rfl)) pa_nil))) pa_nil)))))
      pss_nil))
      (pss_cons (ps_asg (pe_call (ok_l_pick (K := K) T) (hr.mono (by decide)) rfl T.g_l_pick T.f_l_pick.kp B2 B2v pass0 (pa_cons (pv 0) (pa_cons (pe_lst (pa_cons (pe_tup (pa_cons pe_int (pa_cons pe_int pa_nil))) (pa_cons (pv 2) (pa_cons (pe_tup (pa_cons (pe_ix (ixt (K := K)) (pv 2) pe_int (fun _ _ => rfl)) (pa_cons (pe_op op_mulA pe_int (pe_ix (ixt (K := K)) (pv 2) pe_int (fun _ _ => rfl))) pa_nil))) (pa_cons (pv 3) (pa_cons (pe_tup (pa_cons (pe_op op_mulA pe_int (pe_ix (ixt (K := K)) (pv 2) pe_int (fun _ _ => rfl))) (pa_cons (pe_ix (ixt (K := K)) (pv 2) pe_int (fun _ _ => rfl)) pa_nil))) (pa_cons (pe_tup (pa_cons pe_int (pa_cons pe_int pa_nil))) pa_nil))))))) pa_nil))) (pg_tup rfl (pgs_cons (pg_name (i := 4) sc_l_width.nd rfl (Or.inl rfl)) (pgs_cons (pg_name (i := 5) sc_l_width.nd rfl (Or.inl rfl)) pgs_nil))))
      (pss_one (ps_ret (pe_call (ok_l_plain (K := K) T) (hr.mono (by decide)) rfl T.g_l_plain T.f_l_plain.kp B3 B3v pass0 (pa_cons (pv 4) (pa_cons (pv 5) pa_nil)))))))), ?_⟩
    have lq := tq.len
    walk_at "w"
    intro p1 np1
    have s1 : Same H (upd H p1 (.tup [.int 1, .int 1])) := same1 np1
    have tg1 : TQ (upd H p1 (.tup [.int 1, .int 1])) (.ref p1) (2 * k + 1) (1, 1) := (TQ.mk (k := 2) upd_same (by decide) (by decide) (by decide)).mono (by omega)
    have hh1 := hh.same s1
    generalize upd H p1 (.tup [.int 1, .int 1]) = H1 at *
    replace tq := tq.same s1
    replace hl := s1 _ _ hl
    walk_at "w"
    intro vb zb H2 hh2 k2 tb zb0
    replace tq := tq.kp hh1 k2
    replace hl := k2 _ _ hl nlh
    replace tg1 := tg1.kp hh1 k2
    have kA : Kp h H H2 := (Kp.same s1).trans k2
    clear hh hh1 k2 s1 np1
    refine ⟨_, _, rfl, ?_⟩
    refine ⟨fun σ' H' => ∃ vg zg, σ' = [some (.ref h), some (.ref l), some vg, some vb, none, none] ∧ Same H2 H' ∧ TQ H' vg (2 * k + 1) zg ∧ 0 ≤ zg.1, ?_, ?_⟩
    · walk_at "w"
      refine ite2 (fun e => ?_) (fun e => ?_)
      · have e1 : 1 < us.length := by
          have := of_decide_eq_true e
          omega
        obtain ⟨v0, hv0⟩ := geV (xs := us) (n := 0) (by omega)
        obtain ⟨v1, hv1⟩ := geV (xs := us) (n := 1) e1
        obtain ⟨z0, hz0, q0, rfl, hq0, pz0, s01, s02⟩ := tq.of hv0
        obtain ⟨z1, hz1, t1⟩ := tq.of hv1
        have lt01 := ri 0 z0 z1 hz0 hz1
        have p1 := t1.pos
        walk_at "w"
        intro p2 np2
        refine ⟨v1, .ref p2, k, k, z1, (0 - z0.1, z0.2), rfl, t1.same (same1 np2), TQ.mk upd_same pz0 ?_ s02, by omega, by omega, by omega, fun v3 z3 H3 s3 t3 r3 => ?_⟩
        · rw [Int.zero_sub]
          exact s01.neg
        refine ⟨v3, z3, rfl, (same1 np2 : Same H2 _).trans s3, t3.mono (by omega), r3.nn ?_⟩
        show 0 ≤ z1.1 * z0.2 + (0 - z0.1) * z1.2
        have := of_decide_eq_true lt01
        rw [Int.zero_sub, Int.neg_mul]
        omega
      · exact ⟨.ref p1, (1, 1), rfl, Same.refl _, tg1, by decide⟩
    rintro σ' H3 ⟨vg, zg, rfl, s3, ⟨qg, rfl, hqg, pg, sg1, sg2⟩, ng⟩
    have hh3 := hh2.same s3
    have kB : Kp h H H3 := kA.trans (Kp.same s3)
    replace tb := tb.same s3
    clear hl tq tg1 kA s3 hh2
    have tg : TQ H3 (.ref qg) (2 * k + 1) zg := ⟨qg, rfl, hqg, pg, sg1, sg2⟩
    walk_at "w"
    intro p3 np3
    have sA : Same H3 (upd H3 p3 (.tup [.int 0, .int 1])) := same1 np3
    have t3 : TQ (upd H3 p3 (.tup [.int 0, .int 1])) (.ref p3) (2 * k + 4) (0, 1) := (TQ.mk (k := 2) upd_same (by decide) (by decide) (by decide)).mono (by omega)
    generalize upd H3 p3 (.tup [.int 0, .int 1]) = H4 at *
    have hqg4 := sA _ _ hqg
    walk_at "w"
    have s2g : Sz (2 * k + 4) (2 * zg.2) := ((show Sz 2 (2 : Int) by decide).mul sg2).mono (by omega)
    have s3g : Sz (2 * k + 4) (3 * zg.1) := ((show Sz 2 (3 : Int) by decide).mul sg1).mono (by omega)
    intro p4 np4
    have sB : Same H4 (upd H4 p4 (.tup [.int zg.1, .int (2 * zg.2)])) := same1 np4
    have t4 : TQ (upd H4 p4 (.tup [.int zg.1, .int (2 * zg.2)])) (.ref p4) (2 * k + 4) (zg.1, 2 * zg.2) := TQ.mk upd_same (by omega) (sg1.mono (by omega)) s2g
    generalize upd H4 p4 (.tup [.int zg.1, .int (2 * zg.2)]) = H5 at *
    have hqg5 := sB _ _ hqg4
    walk_at "w"
    intro p5 np5
    have sC : Same H5 (upd H5 p5 (.tup [.int (3 * zg.1), .int zg.2])) := same1 np5
    have t5 : TQ (upd H5 p5 (.tup [.int (3 * zg.1), .int zg.2])) (.ref p5) (2 * k + 4) (3 * zg.1, zg.2) := TQ.mk upd_same pg s3g (sg2.mono (by omega))
    generalize upd H5 p5 (.tup [.int (3 * zg.1), .int zg.2]) = H6 at *
    walk_at "w"
    intro p6 np6
    have sD : Same H6 (upd H6 p6 (.tup [.int 40, .int 1])) := same1 np6
    have t6 : TQ (upd H6 p6 (.tup [.int 40, .int 1])) (.ref p6) (2 * k + 4) (40, 1) := (TQ.mk (k := 7) upd_same (by decide) (by decide) (by decide)).mono (by omega)
    generalize upd H6 p6 (.tup [.int 40, .int 1]) = H7 at *
    walk_at "w"
    intro p7 np7
    have sE : Same H7 (upd H7 p7 (.lst [.ref p3, .ref qg, .ref p4, vb, .ref p5, .ref p6])) := same1 np7
    have s37 : Same H3 (upd H7 p7 (.lst [.ref p3, .ref qg, .ref p4, vb, .ref p5, .ref p6])) := (((sA.trans sB).trans sC).trans sD).trans sE
    have all : ∀ x ∈ [V.ref p3, V.ref qg, V.ref p4, vb, V.ref p5, V.ref p6], ∃ z, TQ (upd H7 p7 (.lst [.ref p3, .ref qg, .ref p4, vb, .ref p5, .ref p6])) x (2 * k + 4) z ∧ 0 ≤ z.1 := fun x hx => by
      simp only [List.mem_cons, List.not_mem_nil, or_false] at hx
      rcases hx with rfl | rfl | rfl | rfl | rfl | rfl
      · exact ⟨_, t3.same (((sB.trans sC).trans sD).trans sE), by decide⟩
      · exact ⟨_, (tg.mono (by omega)).same s37, ng⟩
      · exact ⟨_, t4.same ((sC.trans sD).trans sE), ng⟩
      · exact ⟨_, (tb.mono (by omega)).same s37, by omega⟩
      · exact ⟨_, t5.same (sD.trans sE), by show 0 ≤ 3 * zg.1; omega⟩
      · exact ⟨_, t6.same sE, by decide⟩
    refine ⟨h, p7, _, _, rfl, hh3.same s37, by omega, SqL.of upd_same, (hh3.same (((sA.trans sB).trans sC).trans sD)).ne np7, Nat.le_of_ble_eq_true rfl, Nat.le_of_ble_eq_true rfl, fun i x H8 hx hh8 k8 => ?_⟩
    obtain ⟨zx, tx, nx⟩ := all x (List.mem_of_getElem? hx)
    replace tx := tx.kp (hh3.same s37) k8
    obtain ⟨qx, rfl, hqx, pzx, sx1, sx2⟩ := tx
    walk_at "w"
    intro v z H9 s9 t9 r9
    exact kk v z H9 ((hh8.same s9).mono (by omega)) (((kB.trans (Kp.same s37)).trans k8).trans (Kp.same s9)) t9 (r9.nn nx)
theorem ok_l_fits {P : Program} {w : World} {K : PySem.W.Frag} {mg : Str → Option Value} {base : Heap} {φ : Fds} (T : Txt K mg φ) : FnOk P w K mg base CX0 3 (He.fAd K ("_law_fits", none)) φ.l_fits p_l_fits sp_lfits := by
  obtain ⟨_, B0v, B0⟩ := b_l_sum_2 T
  obtain ⟨_, B1v, B1⟩ := b_l_less_2 T
  refine T.f_l_fits.ok sc_l_fits (fun vs H Q E h => ?_) (fun cdv A outer s H vs Q E hr h => ?_)
  · obtain ⟨l, va, vb, vc, k, j, us, zs, x, s', t, rfl, hl, tq, ta, tb, ⟨qc, rfl, hqc, pc, c1, c2⟩, k0, j0, k1, j1, l1, kk⟩ := h; rfl
  · obtain ⟨l, va, vb, vc, k, j, us, zs, x, s', t, rfl, hl, tq, ta, tb, ⟨qc, rfl, hqc, pc, c1, c2⟩, k0, j0, k1, j1, l1, kk⟩ := h
    refine ⟨_, PSs.nox (pss_cons (ps_asg (pe_tup (pa_cons (pe_call (ok_l_sum (K := K) T) (hr.mono (by decide)) rfl T.g_l_sum T.f_l_sum.kp B0 B0v pass0 (pa_cons (pv 1) (pa_cons (pe_tup (pa_cons (pe_op op_sub pe_int (pe_ix (ixt (K := K)) (pv 3) pe_int (fun _ _ => rfl))) (pa_cons (pe_ix (ixt (K := K)) (pv 3) pe_int (fun _ _ => rfl)) pa_nil))) pa_nil))) (pa_cons (pe_call (ok_l_sum (K := K) T) (hr.mono (by decide)) rfl T.g_l_sum T.f_l_sum.kp B0 B0v pass0 (pa_cons (pv 1) (pa_cons (pv 2) pa_nil))) pa_nil))) (pg_tup rfl (pgs_cons (pg_name (i := 4) sc_l_fits.nd rfl (Or.inr rfl)) (pgs_cons (pg_name (i := 5) sc_l_fits.nd rfl (Or.inr rfl)) pgs_nil))))
      (pss_one (ps_ret (pe_callTy (T := "tuple") (tupleL (K := K)) (by rfl) T.z_tuple (by decide +kernel) (pa_cons (pe_lc (own := [("_law_k", 6), ("_law_mark", 7)]) (g := gTup K 2 (gCons (gName 6) (gCons (gName 7) (gNil)))) rfl sc_l_fits.nd (pi_enum (by rfl) T.z_enumerate (pa_cons (pv 0) pa_nil)) (blkOk_by (own := [("_law_k", 6), ("_law_mark", 7)]) (N := N_l_fits) (sc := (defScope s_l_fits)) (by decide +kernel)) (fun _ _ _ _ _ => (pg_tup rfl (pgs_cons (pg_name (i := 6) sc_l_fits.nd rfl (Or.inl rfl)) (pgs_cons (pg_name (i := 7) sc_l_fits.nd rfl (Or.inl rfl)) pgs_nil)))) (fun _ _ _ _ _ => (pts_one (PW.pt (pw_and (pt_not (pt_val (pe_call (ok_l_less (K := K) T) (hr.mono (by decide)) rfl T.g_l_less T.f_l_less.kp B1 B1v pass0 (pa_cons (pv 7) (pa_cons (pv 4) pa_nil))))) (pw_and1 (pt_not (pt_val (pe_call (ok_l_less (K := K) T) (hr.mono (by decide)) rfl T.g_l_less T.f_l_less.kp B1 B1v pass0 (pa_cons (pv 5) (pa_cons (pv 7) pa_nil)))))))))) (fun _ _ _ _ _ => (pv 6))) pa_nil))))), ?_⟩
    have lq := tq.len
    walk_at "w"
    intro p1 np1
    have s1 : Same H (upd H p1 (.tup [.int (0 - t.1), .int t.2])) := same1 np1
    have tn : TQ (upd H p1 (.tup [.int (0 - t.1), .int t.2])) (.ref p1) j (0 - t.1, t.2) := TQ.mk upd_same pc (by rw [Int.zero_sub]; exact c1.neg) c2
    refine ⟨va, .ref p1, j, j, x, (0 - t.1, t.2), rfl, ta.same s1, tn, j0, j0, by omega, fun v2 z2 H2 s2 t2 r2 => ?_⟩
    replace s2 := s1.trans s2
    rw [qadd_neg] at r2
    walk_at "w"
    refine ⟨x, s', rfl, ta.same s2, tb.same s2, j0, j0, by omega, fun v3 z3 H3 s3 t3 r3 => ?_⟩
    replace t2 := t2.same s3
    walk_at "w"
    intro pT npT
    have sT : Same H3 (upd H3 pT (.tup [v2, v3])) := same1 npT
    have hpT : upd H3 pT (.tup [v2, v3]) pT = some (.tup [v2, v3]) := upd_same
    replace t2 := t2.same sT
    replace t3 := t3.same sT
    replace s3 := s3.trans sT
    generalize upd H3 pT (.tup [v2, v3]) = H3 at *
    have s13 := s2.trans s3
    have hl3 := s13 _ _ hl
    have tq3 := tq.same s13
    walk_at "w"
    intro D nD
    refine lcz (n := us.length) walk_enum (fun _ _ g s => s.seq g) (oIdx us.length (fitQ zs x s' t)) (oIdx_len _ _) (szs (by omega)) (SqL.of hl3) nD (fun i v H4 H5 o N M hi ho s4 yy hN hM => ?_) (fun H4 s4 hD => ?_)
    · obtain ⟨t4, a0, b0, rfl, nt, rfl, ha0, hb0⟩ := yy
      cases ha0
      replace hb0 : us[i]? = some b0 := hb0
      obtain ⟨a, ha, tm⟩ := (tq3.same s4).of hb0
      have eo := oIdx_get ho
      have ef : fitQ zs x s' t i = (leq (qsub x t) a && leq a (qadd x s')) := by
        unfold fitQ
        rw [ha]
      rw [ef] at eo
      have s5 : Same H4 (upd H4 t4 (.tup [.int (i : Int), b0])) := same1 nt
      have tm5 := tm.same s5
      have t25 := (t2.same s4).same s5
      have t35 := (t3.same s4).same s5
      have e1 : leq (qsub x t) a = !ltq a z2 := by
        rw [leq_congr r2.symm (Re.refl tm.pos), leq_not]
      have e2 : leq a (qadd x s') = !ltq z3 a := by
        rw [leq_congr (Re.refl tm.pos) r3.symm, leq_not]
      rw [e1, e2] at eo
      refine ⟨t4, _, rfl, SqT.of upd_same, rfl, _, _, rfl, _, _, rfl, rfl, rfl, ?_⟩
      walk_at "w"
      refine ⟨a, z2, rfl, tm5, t25, by omega, by omega, by omega, _, rfl, ?_⟩
      cases c1 : ltq a z2 with
      | true =>
        refine iteF ?_
        exact hM _ (by rw [eo, c1]; rfl) s5
      | false =>
        refine iteT ?_
        walk_at "w"
        refine ⟨z3, a, rfl, t35, tm5, by omega, by omega, by omega, _, rfl, ?_⟩
        cases c2 : ltq z3 a with
        | true =>
          refine iteF ?_
          exact hM _ (by rw [eo, c1, c2]; rfl) s5
        | false =>
          refine iteT ?_
          exact ⟨_, rfl, hN _ _ (by rw [eo, c1, c2]; rfl) s5⟩
    rw [oIdx_fm, lq] at hD
    walk_at "w"
    intro T2 nT2
    exact kk T2 _ ((s13.trans s4).up nT2) upd_same
theorem ok_fitting_of {P : Program} {w : World} {K : PySem.W.Frag} {mg : Str → Option Value} {base : Heap} {φ : Fds} (T : Txt K mg φ) : FnOk P w K mg base CX0 6 (He.fAd K ("fitting_of", none)) φ.fitting_of p_fitting_of (sp_fitting K (He.ga K "Measure") (He.ga K "Ladder")) := by
  obtain ⟨_, B0v, B0⟩ := b_fits_4 T
  refine T.f_fitting_of.ok sc_fitting_of (fun vs H Q E h => ?_) (fun cdv A outer s H vs Q E hr h => ?_)
  · obtain ⟨p, F, s', t, k, j, fs, zs, r, lo, hi, xs, y, e, rfl, hL, hF, mF, qs, qt, k0, k1, j0, j1, lx, kk⟩ := h; rfl
  · obtain ⟨p, F, s', t, k, j, fs, zs, r, lo, hi, xs, y, e, rfl, hL, hF, mF, qs, qt, k0, k1, j0, j1, lx, kk⟩ := h
    refine ⟨_, PSs.nox (pss_one (ps_ret (pe_lc (own := [("foot", 4)]) (g := gName 4) rfl sc_fitting_of.nd (pi_tup (pv 1)) (blkOk_by (own := [("foot", 4)]) (N := N_fitting_of) (sc := (defScope s_fitting_of)) (by decide +kernel)) (fun _ _ _ _ _ => (pg_name (i := 4) sc_fitting_of.nd rfl (Or.inl rfl))) (fun _ _ _ _ _ => pts_nil) (fun _ _ _ _ _ => (pe_call (ok_fits (K := K) T) (hr.mono (by decide)) rfl T.g_fits T.f_fits.kp B0 B0v pass0 (pa_cons (pv 0) (pa_cons (pv 4) (pa_cons (pv 2) (pa_cons (pv 3) pa_nil))))))))), ?_⟩
    have lf' : fs.length = xs.length := mF.len
    walk_at "w"
    refine ⟨⟨_, hF⟩, fun D nD => ?_⟩
    refine lcr (n := fs.length) walk_tup (fun _ _ g s => s.sqt g) (fun i H v => ∃ T x, v = .ref T ∧ xs[i]? = some x ∧ H T = some (.tup ((idx zs.length (fitQ zs x y (e.getD (0, 1)))).map V.int))) (fun i H H' v ⟨T, x, e1, e2, e3⟩ n => ⟨T, x, e1, e2, n _ _ e3 rfl⟩) (szs (by omega)) hF nD (fun i x H1 H2 N M hi' s1 yy hN => ?_) (fun H1 ts s1 hD lt ht => ?_)
    · obtain ⟨rfl, hx⟩ := yy
      obtain ⟨q, x', rfl, hx', qx⟩ := (mF.same s1).of hx
      refine ⟨rfl, yesT ?_⟩
      walk_at "w"
      exact ⟨zs, r, lo, hi, x', y, e, rfl, hL.same s1, qx, qs.same s1, qt.same s1, k0, j0, k1, j1, fun T H3 s3 hT => hN _ _ s3 ⟨T, x', rfl, hx', hT⟩⟩
    refine kk D H1 s1 ⟨ts, hD, by unfold fitL; rw [List.length_map]; omega, fun i v l e1 e2 => ?_⟩
    obtain ⟨T, x, ev, ex, hT⟩ := ht i v e1
    unfold fitL at e2
    rw [List.getElem?_map, ex] at e2
    cases e2
    exact ⟨T, ev, hT⟩
theorem ok_first_bare {P : Program} {w : World} {K : PySem.W.Frag} {mg : Str → Option Value} {base : Heap} {φ : Fds} (T : Txt K mg φ) : FnOk P w K mg base CX0 1 (He.fAd K ("first_bare", none)) φ.first_bare p_first_bare sp_bare := by
  refine T.f_first_bare.ok sc_first_bare (fun vs H Q E h => ?_) (fun cdv A outer s H vs Q E hr h => ?_)
  · obtain ⟨D, ls, rfl, hF, ll, l24, kk⟩ := h; rfl
  · obtain ⟨D, ls, rfl, hF, ll, l24, kk⟩ := h
    refine ⟨_, PSs.nox (pss_cons (ps_for PassesOwn.never rfl (pi_enum (by rfl) T.z_enumerate (pa_cons (pv 0) pa_nil)) (pg_tup rfl (pgs_cons (pg_name (i := 1) sc_first_bare.nd rfl (Or.inl rfl)) (pgs_cons (pg_name (i := 2) sc_first_bare.nd rfl (Or.inl rfl)) pgs_nil)))
      (pss_one (ps_if (pt_cmpR op_eq (pe_callB (id := "len") (lenS (K := K)) (by rfl) T.z_len PySem.boot_len (pa_cons (pv 2) pa_nil)) pe_int (nomark _))
      (pss_one (ps_ret (pv 1)))
      pss_nil)))
      (pss_one (ps_ret pe_non))), ?_⟩
    obtain ⟨ts, hD, lt, hts⟩ := hF.ob
    walk_at "w"
    refine for_it walk_enum (fun i σ H' => (∃ v1 v2, σ = [some (.ref D), v1, v2]) ∧ Same H H' ∧ ∀ j l, j < i → ls[j]? = some l → l ≠ []) ⟨⟨_, _, rfl⟩, Same.refl _, fun j l h => by omega⟩ (fun i σ H' _ q => q.2.1.seq (SqL.of hD)) ?_ ?_
    · rintro i x σ H1 H2 hi ⟨⟨v1, v2, rfl⟩, s1, hb⟩ ⟨T, a0, b0, rfl, nT, rfl, ha, hb0⟩
      cases ha
      have hi2 : i < ls.length := by omega
      have hl0 : ls[i]? = some ls[i] := List.getElem?_eq_getElem hi2
      obtain ⟨T2, e2, hT2⟩ := hts i b0 _ hb0 hl0
      subst e2
      have s2 : Same H (upd H1 T (.tup [.int (i : Nat), .ref T2])) := s1.trans (same1 nT)
      have hT3 := s2 _ _ hT2
      have l3 : (ls[i].map V.int).length = ls[i].length := List.length_map ..
      refine ⟨T, _, rfl, SqT.of upd_same, rfl, _, _, rfl, _, _, rfl, rfl, ?_⟩
      have sql := SqT.of (K := K) hT3
      walk_at "w"
      refine ite2 (fun e => ?_) (fun e => ?_)
      · have e0 : ls[i] = [] := by
          have := of_decide_eq_true e
          have e1 : ls[i].length = 0 := by
            have h1 : V.int ((ls[i].map V.int).length : Nat) = V.int 0 := this
            have := V.int.inj h1
            omega
          exact List.eq_nil_of_length_eq_zero e1
        walk_at "w"
        refine kk (some i) _ s2 ⟨by rw [hl0, e0], hb⟩
      · refine ⟨⟨_, _, rfl⟩, s2, fun j l hj hl => ?_⟩
        by_cases q : j = i
        · subst q
          rw [hl0] at hl
          cases hl
          intro q2
          apply e
          rw [q2]
          exact decide_eq_true rfl
        · exact hb j l (by omega) hl
    · rintro σ H1 ⟨⟨v1, v2, rfl⟩, s1, hb⟩
      refine kk none _ s1 fun l hl => ?_
      obtain ⟨j, hj⟩ := List.mem_iff_getElem?.mp hl
      have := (List.getElem?_eq_some_iff.mp hj).1
      exact hb j l (by omega) hj
theorem ok_fewest_of {P : Program} {w : World} {K : PySem.W.Frag} {mg : Str → Option Value} {base : Heap} {φ : Fds} (T : Txt K mg φ) : FnOk P w K mg base CX0 1 (He.fAd K ("fewest_of", none)) φ.fewest_of p_fewest_of sp_few := by
  refine T.f_fewest_of.ok sc_fewest_of (fun vs H Q E h => ?_) (fun cdv A outer s H vs Q E hr h => ?_)
  · obtain ⟨D, ls, rfl, hF, ll, l24, R, kk⟩ := h; rfl
  · obtain ⟨D, ls, rfl, hF, ll, l24, R, kk⟩ := h
    refine ⟨_, PSs.nox (pss_cons (ps_set (i := 1) sc_fewest_of.nd rfl (Or.inl rfl) (pe_lst pa_nil))
      (pss_cons (ps_set (i := 2) sc_fewest_of.nd rfl (Or.inl rfl) (pe_lst pa_nil))
      (pss_cons (ps_for PassesOwn.never rfl (pi_list (pe_callB (id := "sorted") cr_sortedPO (by rfl) T.z_sorted (by decide +kernel) (pa_cons (pe_lc (own := [("number", 4), ("run", 5)]) (g := gTup K 2 (gCons (gName 4) (gCons (gName 5) (gNil)))) rfl sc_fewest_of.nd (pi_enum (by rfl) T.z_enumerate (pa_cons (pv 0) pa_nil)) (blkOk_by (own := [("number", 4), ("run", 5)]) (N := N_fewest_of) (sc := (defScope s_fewest_of)) (by decide +kernel)) (fun _ _ _ _ _ => (pg_tup rfl (pgs_cons (pg_name (i := 4) sc_fewest_of.nd rfl (Or.inl rfl)) (pgs_cons (pg_name (i := 5) sc_fewest_of.nd rfl (Or.inl rfl)) pgs_nil)))) (fun _ _ _ _ _ => pts_nil) (fun _ _ _ _ _ => (pe_tup (pa_cons (pe_ix (ixt (K := K)) (pv 5) (pe_un un_neg pe_int) (fun _ _ => rfl)) (pa_cons (pv 4) pa_nil))))) pa_nil))) (pg_tup rfl (pgs_cons (pg_name (i := 3) sc_fewest_of.nd rfl (Or.inl rfl)) (pgs_cons (pg_name (i := 4) sc_fewest_of.nd rfl (Or.inl rfl)) pgs_nil)))
      (pss_one (ps_if (PW.pt (pw_or (pt_cmpR op_eq (pe_callB (id := "len") (lenS (K := K)) (by rfl) T.z_len PySem.boot_len (pa_cons (pv 1) pa_nil)) pe_int (nomark _)) (pw_or1 (pt_cmpR op_lt (pe_ix (ixl (K := K)) (pv 1) (pe_un un_neg pe_int) (fun _ _ => rfl)) (pe_ix (ixt (K := K)) (pe_ix (ixl (K := K)) (pv 0) (pv 4) (fun _ _ => rfl)) pe_int (fun _ _ => rfl)) (nomark _)))))
      (pss_cons (ps_expr (pe_bm PySem.F.plainAttrs_list PySem.F.slot_list_append PySem.F.type_list_append mt_append (pv 1) (pa_cons (pv 3) pa_nil)))
      (pss_one (ps_expr (pe_bm PySem.F.plainAttrs_list PySem.F.slot_list_append PySem.F.type_list_append mt_append (pv 2) (pa_cons (pv 4) pa_nil)))))
      pss_nil)))
      (pss_one (ps_ret (pe_tup (pa_cons (pe_callTy (T := "tuple") (tupleL (K := K)) (by rfl) T.z_tuple (by decide +kernel) (pa_cons (pv 1) pa_nil)) (pa_cons (pe_callTy (T := "tuple") (tupleL (K := K)) (by rfl) T.z_tuple (by decide +kernel) (pa_cons (pe_callB (id := "sorted") cr_sorted (by rfl) T.z_sorted (by decide +kernel) (pa_cons (pv 2) pa_nil)) pa_nil)) pa_nil)))))))), ?_⟩
    obtain ⟨ts, hD, lt, hts⟩ := hF.ob
    walk_at "w"
    intro S nS
    have s1 : Same H (upd H S (.lst [])) := same1 nS
    have hS : upd H S (.lst []) S = some (.lst []) := upd_same
    generalize upd H S (.lst []) = H1 at *
    walk_at "w"
    intro A nA
    have s2 : Same H1 (upd H1 A (.lst [])) := same1 nA
    have hA : upd H1 A (.lst []) A = some (.lst []) := upd_same
    have neSA : S ≠ A := ne_of_none hS nA
    generalize upd H1 A (.lst []) = H2 at *
    replace hS := s2 _ _ hS
    have s02 := s1.trans s2
    have nSH := nS
    have nAH : H A = none := s1.free nA
    have hD2 := s02 _ _ hD
    have hts2 : ∀ (i : Nat) (v : V) (l : List Int), ts[i]? = some v → ls[i]? = some l → ∃ T, v = .ref T ∧ H2 T = some (.tup (l.map V.int)) := fun i v l e1 e2 => by
      obtain ⟨T, e, h⟩ := hts i v l e1 e2
      exact ⟨T, e, s02 _ _ h⟩
    have neDS : D ≠ S := ne_of_none hD nSH
    have neDA : D ≠ A := ne_of_none hD nAH
    walk_at "w"
    intro P nP
    refine lcr (n := ts.length) walk_enum (fun _ _ g s => s.seq g) (fun i H v => ∃ t, v = .ref t ∧ H t = some (.tup [.int (lastI ls (i : Int)), .int (i : Int)])) (fun i H H' v ⟨t, e1, e2⟩ n => ⟨t, e1, n _ _ e2 rfl⟩) (szs (by omega)) (SqL.of hD2) nP (fun i x H3 H4 N M hi s3 yy hN => ?_) (fun H3 ys s3 hP ly hy => ?_)
    · obtain ⟨T, a0, b0, rfl, nT, rfl, ha, hb0⟩ := yy
      cases ha
      have hl0 : ls[i]? = some ls[i] := List.getElem?_eq_getElem (by omega)
      obtain ⟨T2, e2, hT2⟩ := hts2 i b0 _ hb0 hl0
      subst e2
      have s4 : Same H2 (upd H3 T (.tup [.int (i : Nat), .ref T2])) := s3.trans (same1 nT)
      have hT3 := s4 _ _ hT2
      have ne := (R i (by omega)).1
      rw [getD_get hl0] at ne
      obtain ⟨z, hz⟩ : ∃ z, ls[i].getLast? = some z := by
        cases e : ls[i].getLast? with
        | none => exact absurd (List.getLast?_eq_none_iff.mp e) ne
        | some z => exact ⟨z, rfl⟩
      have l0 : 0 < ls[i].length := List.length_pos_iff.mpr ne
      have hat : atI (ls[i].map V.int) (-1) = some (.int z) := atI_end (n := ls[i].length - 1) (by rw [List.length_map]; omega) (by rw [List.getElem?_map, ← List.getLast?_eq_getElem?, hz]; rfl)
      refine ⟨T, _, rfl, SqT.of upd_same, rfl, _, _, rfl, _, _, rfl, rfl, rfl, yesT ?_⟩
      walk_at "w"
      intro t2 nt2
      exact hN _ _ ((same1 nT).trans (same1 nt2)) ⟨t2, rfl, by rw [upd_same, last_at hl0 hz]⟩
    replace hS := s3 _ _ hS
    replace hA := s3 _ _ hA
    replace hD2 := s3 _ _ hD2
    replace hts2 : ∀ (i : Nat) (v : V) (l : List Int), ts[i]? = some v → ls[i]? = some l → ∃ T, v = .ref T ∧ H3 T = some (.tup (l.map V.int)) := fun i v l e1 e2 => by
      obtain ⟨T, e, h⟩ := hts2 i v l e1 e2
      exact ⟨T, e, s3 _ _ h⟩
    have s03 := s02.trans s3
    have pk : ∀ x ∈ ys, ∃ t, x = V.ref t ∧ H3 t = some (.tup [.int (kPr H3 x).1, .int (kPr H3 x).2]) := fun x hx => by
      obtain ⟨i, hi⟩ := List.mem_iff_getElem?.mp hx
      obtain ⟨t, rfl, ht⟩ := hy i x hi
      exact ⟨t, rfl, by rw [kPr_eq ht]; exact ht⟩
    clear s1 s2 s3 s02 nP nS nA
    refine ⟨P, ys, kPr H3, rfl, SqL.of hP, pk, fun ws W hsr hst nW => ?_⟩
    have hperm : ws.Perm ys := hst.perm
    have PP : PairsOf ls (ws.map (kPr H3)) := by
      constructor
      · refine (hperm.map _).trans (List.Perm.of_eq ?_)
        refine List.ext_getElem? fun i => ?_
        rw [List.getElem?_map, List.getElem?_map]
        by_cases hi : i < ls.length
        · obtain ⟨v, hv⟩ := geV (xs := ys) (n := i) (by omega)
          obtain ⟨t, rfl, ht⟩ := hy i v hv
          rw [hv, List.getElem?_range hi]
          show some (kPr H3 (.ref t)) = some _
          rw [kPr_eq ht]
        · rw [List.getElem?_eq_none (by omega), List.getElem?_eq_none (by rw [List.length_range]; omega)]
          rfl
      · intro i j p q hij hp hq
        rw [List.getElem?_map] at hp hq
        cases ep : ws[i]? with
        | none => rw [ep] at hp; cases hp
        | some u =>
        cases eq : ws[j]? with
        | none => rw [eq] at hq; cases hq
        | some v =>
        rw [ep] at hp; rw [eq] at hq
        cases hp; cases hq
        have li := (List.getElem?_eq_some_iff.mp ep)
        have lj := (List.getElem?_eq_some_iff.mp eq)
        have := List.pairwise_iff_getElem.mp hsr i j li.1 lj.1 hij
        rw [li.2, lj.2] at this
        have := SrtO.lexB_no.mp this
        omega
    have pkw : ∀ x ∈ ws, ∃ t, x = V.ref t ∧ H3 t = some (.tup [.int (kPr H3 x).1, .int (kPr H3 x).2]) := fun x hx => pk x (hperm.mem_iff.mp hx)
    have lw : ws.length = ls.length := by rw [hperm.length_eq]; omega
    have s4 : Same H3 (upd H3 W (.lst ws)) := same1 nW
    have hW : upd H3 W (.lst ws) W = some (.lst ws) := upd_same
    have neWS : S ≠ W := ne_of_none hS nW
    have neWA : A ≠ W := ne_of_none hA nW
    generalize upd H3 W (.lst ws) = H4 at *
    replace hS := s4 _ _ hS
    replace hA := s4 _ _ hA
    replace hD2 := s4 _ _ hD2
    replace s03 := s03.trans s4
    replace pkw : ∀ x ∈ ws, ∃ t, x = V.ref t ∧ H4 t = some (.tup [.int (kPr H3 x).1, .int (kPr H3 x).2]) := fun x hx => by
      obtain ⟨t, e, h⟩ := pkw x hx
      exact ⟨t, e, s4 _ _ h⟩
    replace hts2 : ∀ (i : Nat) (v : V) (l : List Int), ts[i]? = some v → ls[i]? = some l → ∃ T, v = .ref T ∧ H4 T = some (.tup (l.map V.int)) := fun i v l e1 e2 => by
      obtain ⟨T, e, h⟩ := hts2 i v l e1 e2
      exact ⟨T, e, s4 _ _ h⟩
    clear hst hsr hP hy pk s4 nW hperm hF hts
    generalize kPr H3 = kp at *
    have K2 : ∀ {Hx : Hp} {u1 u2 : HO}, (∀ c o, H4 c = some o → c ≠ S → c ≠ A → Hx c = some o) → (∀ c o, H4 c = some o → c ≠ S → c ≠ A → (upd (upd Hx S u1) A u2) c = some o) := fun h c o e n1 n2 => by
      rw [upd_ne n2, upd_ne n1]; exact h c o e n1 n2
    refine ⟨W, rfl, ⟨_, SqL.of hW⟩, ?_⟩
    refine for_list (K := K) (a := W) (xs := ws) (fun i σ H' => (∃ v1 v2, σ = [some (.ref D), some (.ref S), some (.ref A), v1, v2, none]) ∧ (∀ c o, H4 c = some o → c ≠ S → c ≠ A → H' c = some o) ∧ ∃ ss as, H' S = some (.lst (ss.map V.int)) ∧ H' A = some (.lst (as.map V.int)) ∧ GInv ls ((ws.map kp).take i) ss as ∧ ss.length ≤ i) ⟨⟨_, _, rfl⟩, fun c o e _ _ => e, [], [], hS, hA, GInv.nil, Nat.le_refl _⟩ (fun i σ H' _ q => SqL.of (q.2.1 _ _ hW neWS.symm neWA.symm)) ?_ ?_
    · rintro i x σ H5 hx ⟨⟨v1, v2, rfl⟩, k5, ss, as, hS5, hA5, g, lss⟩
      have hx2 : (ws.map kp)[i]? = some (kp x) := by rw [List.getElem?_map, hx]; rfl
      have hi : i < ws.length := (List.getElem?_eq_some_iff.mp hx).1
      obtain ⟨n, hn, en⟩ := PP.mem.mp (List.mem_of_getElem? hx2)
      obtain ⟨t, rfl, ht⟩ := pkw x (List.mem_of_getElem? hx)
      rw [en] at ht hx2
      have ht5 := k5 _ _ ht (ne_of ht hS (by intro z; cases z)) (ne_of ht hA (by intro z; cases z))
      have hl0 : ls[n]? = some ls[n] := List.getElem?_eq_getElem hn
      obtain ⟨T2, eT, hT2⟩ := FitsL.at (D := D) lt hts2 hl0
      have hT5 := k5 _ _ hT2 (ne_of hT2 hS (by intro z; cases z)) (ne_of hT2 hA (by intro z; cases z))
      have hD5 := k5 _ _ hD2 neDS neDA
      have nn := (R n hn).1
      rw [getD_get hl0] at nn
      have las : as.length = ss.length := g.len.symm
      refine ⟨t, _, rfl, SqT.of ht5, rfl, _, _, rfl, _, _, rfl, rfl, ?_⟩
      have fin : (∀ s, ss.getLast? = some s → s < firstI ls n) → (∃ v1 v2, ([some (V.ref D), some (V.ref S), some (V.ref A), some (V.int (lastI ls (n : Int))), some (V.int (n : Int)), none] : L2.St) = [some (.ref D), some (.ref S), some (.ref A), v1, v2, none]) ∧ (∀ c o, H4 c = some o → c ≠ S → c ≠ A → (upd (upd H5 S (.lst (ss.map V.int ++ [V.int (lastI ls (n : Int))]))) A (.lst (as.map V.int ++ [V.int (n : Int)]))) c = some o) ∧ ∃ ss' as', (upd (upd H5 S (.lst (ss.map V.int ++ [V.int (lastI ls (n : Int))]))) A (.lst (as.map V.int ++ [V.int (n : Int)]))) S = some (.lst (ss'.map V.int)) ∧ (upd (upd H5 S (.lst (ss.map V.int ++ [V.int (lastI ls (n : Int))]))) A (.lst (as.map V.int ++ [V.int (n : Int)]))) A = some (.lst (as'.map V.int)) ∧ GInv ls ((ws.map kp).take (i + 1)) ss' as' ∧ ss'.length ≤ i + 1 := fun h => by
        refine ⟨⟨_, _, rfl⟩, fun c o e n1 n2 => by rw [upd_ne n2, upd_ne n1]; exact k5 c o e n1 n2, ss ++ [lastI ls (n : Int)], as ++ [(n : Int)], ?_, ?_, g.take PP R hx2 h, by rw [List.length_append, List.length_singleton]; omega⟩
        · rw [upd_ne neSA, upd_same, map_snoc]
        · rw [upd_same, map_snoc]
      have hA6 : ∀ u, (upd H5 S u) A = some (.lst (as.map V.int)) := fun u => by rw [upd_ne neSA.symm]; exact hA5
      have lsm : (ss.map V.int).length = ss.length := List.length_map ..
      have lam : (as.map V.int).length = as.length := List.length_map ..
      have app : (∀ s, ss.getLast? = some s → s < firstI ls n) → True := fun _ => trivial
      cases els : ss.getLast? with
      | none =>
        have e0 : ss = [] := List.getLast?_eq_none_iff.mp els
        have f2 := fin (fun s q => by rw [els] at q; cases q)
        refine ⟨_, rfl, S, _, rfl, .inl (SqL.of hS5), rfl, _, rfl, ?_⟩
        rw [show decide (V.int (((ss.map V.int).length : Nat) : Int) = V.int 0) = true from decide_eq_true (by rw [e0]; rfl)]
        refine iteT ?_
        refine ⟨_, rfl, .inl ⟨rfl, _, SqL.of hS5⟩, _, rfl, S, _, _, rfl, rfl, hS5, szs (by omega), ?_⟩
        refine ⟨_, rfl, .inl ⟨rfl, _, SqL.of (hA6 _)⟩, _, rfl, A, _, _, rfl, rfl, hA6 _, szs (by omega), ?_⟩
        exact f2
      | some s =>
        have l0 : 0 < ss.length := by cases ss with | nil => simp at els | cons => simp
        have hat : atI (ss.map V.int) (-1) = some (.int s) := atI_end (n := ss.length - 1) (by rw [List.length_map]; omega) (by rw [List.getElem?_map, ← List.getLast?_eq_getElem?, els]; rfl)
        obtain ⟨f, rest, ef⟩ : ∃ f rest, ls[n] = f :: rest := by
          cases e : ls[n] with
          | nil => exact absurd e nn
          | cons f rest => exact ⟨f, rest, rfl⟩
        have efi : firstI ls (n : Int) = f := first_at (by rw [hl0, ef])
        rw [ef] at hT5
        refine ⟨_, rfl, S, _, rfl, .inl (SqL.of hS5), rfl, _, rfl, ?_⟩
        rw [show decide (V.int (((ss.map V.int).length : Nat) : Int) = V.int 0) = false from decide_eq_false (by intro q; have := V.int.inj q; omega)]
        refine iteF ?_
        refine ⟨_, rfl, _, rfl, S, _, _, _, rfl, rfl, SqL.of hS5, hat, _, rfl, _, rfl, D, ts, _, _, rfl, rfl, SqL.of hD5, atI_nat eT, T2, _, _, _, rfl, rfl, SqT.of hT5, atI_of (n := 0) rfl rfl, _, _, rfl, rfl, _, rfl, ?_⟩
        refine ite2 (fun e => ?_) (fun e => ?_)
        · have q := of_decide_eq_true e
          have f2 := fin (fun s' q' => by rw [els] at q'; cases q'; rw [efi]; exact q)
          refine ⟨_, rfl, .inl ⟨rfl, _, SqL.of hS5⟩, _, rfl, S, _, _, rfl, rfl, hS5, szs (by omega), ?_⟩
          refine ⟨_, rfl, .inl ⟨rfl, _, SqL.of (hA6 _)⟩, _, rfl, A, _, _, rfl, rfl, hA6 _, szs (by omega), ?_⟩
          exact f2
        · have q : ¬ s < f := fun z => e (decide_eq_true z)
          refine ⟨⟨_, _, rfl⟩, k5, ss, as, hS5, hA5, g.skip PP R hx2 els (by rw [efi]; omega), by omega⟩
    · rintro σ H5 ⟨⟨v1, v2, rfl⟩, k5, ss, as, hS5, hA5, g, lss⟩
      have s5 : Same H H5 := fun c o e => k5 c o (s03 _ _ e) (ne_of_none e nSH) (ne_of_none e nAH)
      have g : GInv ls (ws.map kp) ss as := by
        have e : (ws.map kp).take ws.length = ws.map kp := by
          have := List.take_length (l := ws.map kp)
          rwa [List.length_map] at this
        rw [e] at g
        exact g
      have las : as.length = ss.length := g.len.symm
      refine ⟨_, rfl, S, _, rfl, SqL.of hS5, fun TS nTS => ?_⟩
      have s6 : Same H5 (upd H5 TS (.tup (ss.map V.int))) := same1 nTS
      have hTS : upd H5 TS (.tup (ss.map V.int)) TS = some (.tup (ss.map V.int)) := upd_same
      generalize upd H5 TS (.tup (ss.map V.int)) = H6 at *
      refine ⟨_, rfl, A, as, rfl, SqL.of (s6 _ _ hA5), by omega, fun as' L1 hp hs nL => ?_⟩
      refine ⟨L1, _, rfl, SqL.of upd_same, fun TA nTA => ?_⟩
      walk_at "w"
      intro T nT
      have hTA : upd (upd H6 L1 (.lst (as'.map V.int))) TA (.tup (as'.map V.int)) TA = some (.tup (as'.map V.int)) := upd_same
      have sx : Same H6 (upd (upd (upd H6 L1 (.lst (as'.map V.int))) TA (.tup (as'.map V.int))) T (.tup [.ref TS, .ref TA])) := ((same1 nL : Same H6 _).up nTA).up nT
      exact kk T TS TA ss as' _ ((s5.trans s6).trans sx) upd_same (sx _ _ hTS) (up1 nT hTA) (few_of PP R g hp hs)
theorem ok_stock_for {P : Program} {w : World} {K : PySem.W.Frag} {mg : Str → Option Value} {base : Heap} {φ : Fds} (T : Txt K mg φ) : FnOk P w K mg base CX0 7 (He.fAd K ("stock_for", none)) φ.stock_for p_stock_for (sp_stockfor K (He.ga K "Measure") (He.ga K "Ladder")) := by
  obtain ⟨_, B0v, B0⟩ := b_fitting_of_4 T
  obtain ⟨_, B1v, B1⟩ := b_first_bare_1 T
  obtain ⟨_, B2v, B2⟩ := b_fewest_of_1 T
  refine T.f_stock_for.ok sc_stock_for (fun vs H Q E h => ?_) (fun cdv A outer s H vs Q E hr h => ?_)
  · obtain ⟨p, F, s', t, k, j, fs, zs, r, lo, hi, xs, y, e, rfl, hL, hF, mF, qs, qt, k0, k1, j0, j1, lx, kk⟩ := h; rfl
  · obtain ⟨p, F, s', t, k, j, fs, zs, r, lo, hi, xs, y, e, rfl, hL, hF, mF, qs, qt, k0, k1, j0, j1, lx, kk⟩ := h
    refine ⟨_, PSs.nox (pss_cons (ps_set (i := 4) sc_stock_for.nd rfl (Or.inl rfl) (pe_call (ok_fitting_of (K := K) T) (hr.mono (by decide)) rfl T.g_fitting_of T.f_fitting_of.kp B0 B0v pass0 (pa_cons (pv 0) (pa_cons (pv 1) (pa_cons (pv 2) (pa_cons (pv 3) pa_nil))))))
      (pss_cons (ps_set (i := 5) sc_stock_for.nd rfl (Or.inl rfl) (pe_call (ok_first_bare (K := K) T) (hr.mono (by decide)) rfl T.g_first_bare T.f_first_bare.kp B1 B1v pass0 (pa_cons (pv 4) pa_nil)))
      (pss_cons (ps_if (pt_cmpR op_notN (pv 5) pe_non (nomark _))
      (pss_one (ps_ret (pe_tup (pa_cons pe_str (pa_cons (pv 5) pa_nil)))))
      pss_nil)
      (pss_cons (ps_asg (pe_call (ok_fewest_of (K := K) T) (hr.mono (by decide)) rfl T.g_fewest_of T.f_fewest_of.kp B2 B2v pass0 (pa_cons (pv 4) pa_nil)) (pg_tup rfl (pgs_cons (pg_name (i := 6) sc_stock_for.nd rfl (Or.inl rfl)) (pgs_cons (pg_name (i := 7) sc_stock_for.nd rfl (Or.inl rfl)) pgs_nil))))
      (pss_one (ps_ret (pe_tup (pa_cons pe_str (pa_cons (pv 6) (pa_cons (pv 7) pa_nil)))))))))), ?_⟩
    have l24 := hL.len1
    have ri := hL.rise
    walk_at "w"
    refine ⟨zs, r, lo, hi, xs, y, e, rfl, hL, hF, mF, qs, qt, k0, k1, j0, j1, by omega, fun D H1 s1 FL => ?_⟩
    have len : ∀ l ∈ fitL zs xs y (e.getD (0, 1)), l.length ≤ 24 := fun l hl => Nat.le_trans (fitL_len l hl) l24
    have ll : (fitL zs xs y (e.getD (0, 1))).length ≤ 60 := by unfold fitL; rw [List.length_map]; exact lx
    walk_at "w"
    refine ⟨_, rfl, FL, by omega, len, fun o H2 s2 B => ?_⟩
    cases o with
    | some n =>
      refine ⟨_, rfl, rfl, _, rfl, ?_⟩
      rw [show (!decide (optI (some n) = V.non)) = true from rfl]
      refine iteT ?_
      walk_at "w"
      intro T nT
      exact kk T _ ((s1.trans s2).trans (same1 nT)) (.inl ⟨n, B, upd_same⟩)
    | none =>
      refine ⟨_, rfl, rfl, _, rfl, ?_⟩
      rw [show (!decide (optI none = V.non)) = false from rfl]
      refine iteF ?_
      have R : RunsI (fitL zs xs y (e.getD (0, 1))) := fun i hi => by
        have hl0 : (fitL zs xs y (e.getD (0, 1)))[i]? = some (fitL zs xs y (e.getD (0, 1)))[i] := List.getElem?_eq_getElem hi
        have ne := B _ (List.mem_of_getElem? hl0)
        refine ⟨by rw [getD_get hl0]; exact ne, ?_⟩
        exact runs_fitL hl0 ne
      walk_at "w"
      refine ⟨_, rfl, FL.same s2, ll, len, R, fun T S A ss as H3 s3 hT hS hA few => ?_⟩
      walk_at "w"
      intro T2 nT2
      have sx : Same H3 (upd H3 T2 (.tup [.str "stock", .ref S, .ref A])) := same1 nT2
      exact kk T2 _ (((s1.trans s2).trans s3).trans sx) (.inr ⟨B, S, A, ss, as, upd_same, sx _ _ hS, sx _ _ hA, few⟩)
theorem ok_l_fitted_foot {P : Program} {w : World} {K : PySem.W.Frag} {mg : Str → Option Value} {base : Heap} {φ : Fds} (T : Txt K mg φ) : FnOk P w K mg base CX0 3 (He.fAd K ("_law_fitted_foot", none)) φ.l_fitted_foot p_l_fitted_foot sp_ffoot := by
  obtain ⟨_, B0v, B0⟩ := b_l_take_2 T
  obtain ⟨_, B1v, B1⟩ := b_l_pick_2 T
  obtain ⟨_, B2v, B2⟩ := b_l_sum_2 T
  refine T.f_l_fitted_foot.ok sc_l_fitted_foot (fun vs H Q E h => ?_) (fun cdv A outer s H vs Q E hr h => ?_)
  · obtain ⟨h, l, va, vb, n, k, us, zs, x, y, rfl, hh, hn, nlh, hl, tq, k0, k1, l0, l1, ⟨qa, rfl, hqa, pa, a1, a2⟩, ⟨qb, rfl, hqb, pb, b1, b2⟩, nx, ny, kk⟩ := h; rfl
  · obtain ⟨h, l, va, vb, n, k, us, zs, x, y, rfl, hh, hn, nlh, hl, tq, k0, k1, l0, l1, ⟨qa, rfl, hqa, pa, a1, a2⟩, ⟨qb, rfl, hqb, pb, b1, b2⟩, nx, ny, kk⟩ := h
    refine ⟨_, PSs.nox (pss_cons (ps_par (i := 4) (j := 5) rfl sc_l_fitted_foot.nd rfl rfl (by decide) rfl rfl (pa_cons (pe_call (ok_l_pick (K := K) T) (hr.mono (by decide)) rfl T.g_l_pick T.f_l_pick.kp B1 B1v pass0 (pa_cons (pv 0) (pa_cons (pv 1) pa_nil))) (pa_cons (pe_call (ok_l_take (K := K) T) (hr.mono (by decide)) rfl T.g_l_take T.f_l_take.kp B0 B0v pass0 (pa_cons (pv 0) (pa_cons pe_int pa_nil))) pa_nil)) (by rfl))
      (pss_cons (ps_set (i := 6) sc_l_fitted_foot.nd rfl (Or.inl rfl) (pe_ix (ixl (K := K)) (pe_lst (pa_cons (pe_tup (pa_cons pe_int (pa_cons pe_int pa_nil))) (pa_cons (pe_tup (pa_cons (pe_op op_sub pe_int (pe_ix (ixt (K := K)) (pv 2) pe_int (fun _ _ => rfl))) (pa_cons (pe_ix (ixt (K := K)) (pv 2) pe_int (fun _ _ => rfl)) pa_nil))) (pa_cons (pv 3) (pa_cons (pe_tup (pa_cons (pe_op op_sub pe_int (pe_ix (ixt (K := K)) (pv 2) pe_int (fun _ _ => rfl))) (pa_cons (pe_op op_mulA pe_int (pe_ix (ixt (K := K)) (pv 2) pe_int (fun _ _ => rfl))) pa_nil))) (pa_cons (pe_tup (pa_cons (pe_ix (ixt (K := K)) (pv 3) pe_int (fun _ _ => rfl)) (pa_cons (pe_op op_mulA pe_int (pe_ix (ixt (K := K)) (pv 3) pe_int (fun _ _ => rfl))) pa_nil))) pa_nil)))))) (pv 5) (fun _ _ => rfl)))
      (pss_one (ps_ret (pe_call (ok_l_sum (K := K) T) (hr.mono (by decide)) rfl T.g_l_sum T.f_l_sum.kp B2 B2v pass0 (pa_cons (pv 4) (pa_cons (pv 6) pa_nil))))))), ?_⟩
    have lq := tq.len
    walk_at "w"
    intro i1 vm H1 hm1 hh1 k1'
    obtain ⟨zm, hzm, tm⟩ := tq.of hm1
    have hi := (List.getElem?_eq_some_iff.mp hzm).1
    replace tm := tm.kp hh k1'
    replace hqa := k1'.get hh hqa rfl
    replace hqb := k1'.get hh hqb rfl
    have ppm := tm.pos
    clear hm1 tq hl
    walk_at "w"
    intro d H2 d0 d1 hh2 k2
    replace tm := tm.kp hh1 k2
    replace hqa := k2.get hh1 hqa rfl
    replace hqb := k2.get hh1 hqb rfl
    have kA := k1'.trans k2
    clear k1' k2 hh hh1
    walk_at "w"
    intro p1 np1
    have sA : Same H2 (upd H2 p1 (.tup [.int 0, .int 1])) := same1 np1
    have t1 : TQ (upd H2 p1 (.tup [.int 0, .int 1])) (.ref p1) (2 * k + 6) (0, 1) := (TQ.mk (k := 1) upd_same (by decide) (by decide) (by decide)).mono (by omega)
    generalize upd H2 p1 (.tup [.int 0, .int 1]) = H3 at *
    replace hqa := sA _ _ hqa
    replace hqb := sA _ _ hqb
    walk_at "w"
    intro p2 np2
    have sB : Same H3 (upd H3 p2 (.tup [.int (0 - x.1), .int x.2])) := same1 np2
    have t2 : TQ (upd H3 p2 (.tup [.int (0 - x.1), .int x.2])) (.ref p2) (2 * k + 6) (0 - x.1, x.2) := (TQ.mk upd_same pa (by rw [Int.zero_sub]; exact a1.neg) a2).mono (by omega)
    generalize upd H3 p2 (.tup [.int (0 - x.1), .int x.2]) = H4 at *
    replace hqa := sB _ _ hqa
    replace hqb := sB _ _ hqb
    have sx : Sz (2 * k + 6) (2 * x.2) := ((show Sz 2 (2 : Int) by decide).mul a2).mono (by omega)
    have sy : Sz (2 * k + 6) (2 * y.2) := ((show Sz 2 (2 : Int) by decide).mul b2).mono (by omega)
    walk_at "w"
    intro p4 np4
    have sC : Same H4 (upd H4 p4 (.tup [.int (0 - x.1), .int (2 * x.2)])) := same1 np4
    have t4 : TQ (upd H4 p4 (.tup [.int (0 - x.1), .int (2 * x.2)])) (.ref p4) (2 * k + 6) (0 - x.1, 2 * x.2) := TQ.mk upd_same (by omega) (by rw [Int.zero_sub]; exact a1.neg.mono (by omega)) sx
    generalize upd H4 p4 (.tup [.int (0 - x.1), .int (2 * x.2)]) = H5 at *
    replace hqb := sC _ _ hqb
    walk_at "w"
    intro p5 np5
    have sD : Same H5 (upd H5 p5 (.tup [.int y.1, .int (2 * y.2)])) := same1 np5
    have t5 : TQ (upd H5 p5 (.tup [.int y.1, .int (2 * y.2)])) (.ref p5) (2 * k + 6) (y.1, 2 * y.2) := TQ.mk upd_same (by omega) (b1.mono (by omega)) sy
    generalize upd H5 p5 (.tup [.int y.1, .int (2 * y.2)]) = H6 at *
    replace hqb := sD _ _ hqb
    walk_at "w"
    intro L nL
    have sE : Same H6 (upd H6 L (.lst [.ref p1, .ref p2, .ref qb, .ref p4, .ref p5])) := same1 nL
    have tb : TQ H6 (.ref qb) (2 * k + 6) y := ⟨qb, rfl, hqb, pb, b1.mono (by omega), b2.mono (by omega)⟩
    have s26 := ((sA.trans sB).trans sC).trans sD
    have gx := (nn_R pa).mp nx
    have gy := (nn_R pb).mp ny
    have hsel : ∃ v f, atI [V.ref p1, V.ref p2, V.ref qb, V.ref p4, V.ref p5] d = some v ∧ TQ H6 v (2 * k + 6) f ∧ - toR x ≤ toR f ∧ toR f ≤ toR y := by
      obtain rfl | rfl | rfl | rfl | rfl : d = 0 ∨ d = 1 ∨ d = 2 ∨ d = 3 ∨ d = 4 := by omega
      · exact ⟨_, _, rfl, t1.same ((sB.trans sC).trans sD), by rw [zero_far]; grind, by rw [zero_far]; grind⟩
      · exact ⟨_, _, rfl, t2.same (sC.trans sD), by rw [neg_R pa]; grind, by rw [neg_R pa]; grind⟩
      · exact ⟨_, _, rfl, tb, by grind, by grind⟩
      · have e : toR (0 - x.1, 2 * x.2) = - toR x / 2 := by
          have := half_far (x := (0 - x.1, x.2)) pa
          rw [neg_R pa] at this
          exact this
        exact ⟨_, _, rfl, t4.same sD, by rw [e]; grind, by rw [e]; grind⟩
      · exact ⟨_, _, rfl, t5, by rw [half_far pb]; grind, by rw [half_far pb]; grind⟩
    obtain ⟨vf, f, hat, tf, f1, f2⟩ := hsel
    have pf := tf.pos
    have hL : upd H6 L (.lst [.ref p1, .ref p2, .ref qb, .ref p4, .ref p5]) L = some (.lst [.ref p1, .ref p2, .ref qb, .ref p4, .ref p5]) := upd_same
    generalize upd H6 L (.lst [.ref p1, .ref p2, .ref qb, .ref p4, .ref p5]) = H7 at *
    have s27 := s26.trans sE
    replace tm := tm.same s27
    replace tf := tf.same sE
    walk_at "w"
    refine ⟨zm, f, rfl, tm, tf, by omega, by omega, by omega, fun v z H8 s8 tz rz => ?_⟩
    exact kk v z i1 H8 ((hh2.same (s27.trans s8)).mono (by omega)) (kA.trans (Kp.same (s27.trans s8))) (tz.mono (by omega)) hi (fit_far hzm ppm pa pb pf f1 f2 rz)
theorem ok_l_lots {P : Program} {w : World} {K : PySem.W.Frag} {mg : Str → Option Value} {base : Heap} {φ : Fds} (T : Txt K mg φ) : FnOk P w K mg base CX0 1 (He.fAd K ("_law_lots", none)) φ.l_lots p_l_lots sp_lots := by
  refine T.f_l_lots.ok sc_l_lots (fun vs H Q E h => ?_) (fun cdv A outer s H vs Q E hr h => ?_)
  · obtain ⟨n, rfl, n6, kk⟩ := h; rfl
  · obtain ⟨n, rfl, n6, kk⟩ := h
    refine ⟨_, PSs.nox (pss_cons (ps_set (i := 1) sc_l_lots.nd rfl (Or.inl rfl) (pe_lst (pa_cons (pe_tup pa_nil) pa_nil)))
      (pss_cons (ps_for PassesOwn.never rfl (pi_range1 rfl T.z_range (pa_cons (pv 0) pa_nil)) (pg_name (i := 2) sc_l_lots.nd rfl (Or.inr rfl))
      (pss_one (ps_set (i := 1) sc_l_lots.nd rfl (Or.inl rfl) (pe_op op_cat (pv 1) (pe_lc (own := [("_law_lot", 3)]) (g := gName 3) rfl sc_l_lots.nd (pi_list (pv 1)) (blkOk_by (own := [("_law_lot", 3)]) (N := N_l_lots) (sc := (defScope s_l_lots)) (by decide +kernel)) (fun _ _ _ _ _ => (pg_name (i := 3) sc_l_lots.nd rfl (Or.inl rfl))) (fun _ _ _ _ _ => pts_nil) (fun _ _ _ _ _ => (pe_op catH (pv 3) (pe_tup (pa_cons (pv 2) pa_nil)))))))))
      (pss_one (ps_ret (pv 1))))), ?_⟩
    walk_at "w"
    intro p0 np0
    walk_at "w"
    intro L0 nL0
    have s0 : Same H (upd (upd H p0 (.tup [])) L0 (.lst [.ref p0])) := (same1 np0 : Same H _).up nL0
    have F0 : FitsL (upd (upd H p0 (.tup [])) L0 (.lst [.ref p0])) L0 (lotsL 0) := ⟨[.ref p0], upd_same, rfl, fun i v l e1 e2 => by
      cases i with
      | zero => cases e1; cases e2; exact ⟨p0, rfl, up1 nL0 upd_same⟩
      | succ i => simp at e1⟩
    generalize upd (upd H p0 (.tup [])) L0 (.lst [.ref p0]) = H1 at *
    walk_at "w"
    refine for_range (fun i σ H' => (∃ L v, σ = [some (.int (n : Int)), some (.ref L), v, none] ∧ FitsL H' L (lotsL i)) ∧ Same H H') ⟨⟨_, _, rfl, F0⟩, s0⟩ ?_ ?_
    · rintro i σ H2 hi ⟨⟨L, v, rfl, FL⟩, s2⟩
      have hi6 : i < 6 := by omega
      obtain ⟨ts, hL, lt, hts⟩ := FL.ob
      have ll := lots_len i
      have p6 : 2 ^ i ≤ 64 := Nat.pow_le_pow_right (by decide) (show i ≤ 6 by omega)
      refine ⟨_, rfl, _, rfl, L, rfl, ⟨_, SqL.of hL⟩, fun D nD => ?_⟩
      refine lcr (n := ts.length) walk_list (fun _ _ g s => s.seq g) (fun j H v => ∃ T l, v = .ref T ∧ (lotsL i)[j]? = some l ∧ H T = some (.tup ((l ++ [(i : Int)]).map V.int))) (fun j H H' v ⟨T, l, e1, e2, e3⟩ n => ⟨T, l, e1, e2, n _ _ e3 rfl⟩) (szs (by omega)) (SqL.of hL) nD (fun j x H3 H4 N M hj s3 yy hN => ?_) (fun H3 ys s3 hD ly hy => ?_)
      · obtain ⟨rfl, hx⟩ := yy
        have hl0 : (lotsL i)[j]? = some (lotsL i)[j] := List.getElem?_eq_getElem (by omega)
        obtain ⟨T, rfl, hT⟩ := hts j x _ hx hl0
        replace hT := s3 _ _ hT
        have lm := lots_mem i _ (List.mem_of_getElem? hl0)
        refine ⟨rfl, yesT ?_⟩
        walk_at "w"
        intro p np
        have hT2 := up1 (u := .tup [.int (0 + (i : Int))]) np hT
        refine ⟨T, p, _, _, rfl, rfl, hT2, upd_same, szl (by rw [List.length_map]; show _ + 1 ≤ 1000; omega), fun p2 H5 s5 h5 => ?_⟩
        refine hN _ _ ((same1 np).trans s5) ⟨p2, _, rfl, hl0, ?_⟩
        rw [h5, List.map_append, Int.zero_add]
        rfl
      have hL3 := s3 _ _ hL
      walk_at "w"
      intro L2' nL2
      have sN : Same H3 (upd H3 L2' (.lst (ts ++ ys))) := same1 nL2
      refine ⟨⟨L2', _, rfl, ?_⟩, (s2.trans s3).trans sN⟩
      refine FitsL.app upd_same lt (by rw [List.length_map]; omega) (fun i v l e1 e2 => ?_) fun j v l e1 e2 => ?_
      · obtain ⟨T, e, h⟩ := hts i v l e1 e2
        exact ⟨T, e, (s3.trans sN) _ _ h⟩
      · obtain ⟨T, l', e, h1, h2⟩ := hy j v e1
        rw [List.getElem?_map, h1] at e2
        cases e2
        exact ⟨T, e, sN _ _ h2⟩
    · rintro σ H2 ⟨⟨L, v, rfl, FL⟩, s2⟩
      walk_at "w"
      exact kk L H2 s2 FL
theorem ok_l_right {P : Program} {w : World} {K : PySem.W.Frag} {mg : Str → Option Value} {base : Heap} {φ : Fds} (T : Txt K mg φ) : FnOk P w K mg base CX0 2 (He.fAd K ("_law_right", none)) φ.l_right p_l_right sp_right44 := by
  obtain ⟨_, B0v, B0⟩ := b_l_lots_1 T
  refine T.f_l_right.ok sc_l_right (fun vs H Q E h => ?_) (fun cdv A outer s H vs Q E hr h => ?_)
  · obtain ⟨T', Sa, Aa, R, ls, ss, as, n, rfl, hT, hS, hA, hR, F, C, n6, l20, kk⟩ := h; rfl
  · obtain ⟨T', Sa, Aa, R, ls, ss, as, n, rfl, hT, hS, hA, hR, F, C, n6, l20, kk⟩ := h
    refine ⟨_, PSs.nox (pss_cons (ps_if (PW.pt (pw_or (pt_not (pt_val (pe_callB (id := "isinstance") (isi (K := K)) (by rfl) T.z_isinstance (by decide +kernel) (pa_cons (pv 0) (pa_cons (pe_bltn (v := .ty "tuple") rfl T.z_tuple (by decide +kernel) rfl) pa_nil))))) (pw_or (pt_cmpR op_ne (pe_callB (id := "len") (lenS (K := K)) (by rfl) T.z_len PySem.boot_len (pa_cons (pv 0) pa_nil)) pe_int (nomark _)) (pw_or1 (pt_cmpR op_ne (pe_ix (ixt (K := K)) (pv 0) pe_int (fun _ _ => rfl)) pe_str (nomark _))))))
      (pss_one (ps_ret pe_bl))
      pss_nil)
      (pss_cons (ps_asg (pv 0) (pg_tup rfl (pgs_cons (pg_name (i := 3) sc_l_right.nd rfl (Or.inl rfl)) (pgs_cons (pg_name (i := 4) sc_l_right.nd rfl (Or.inl rfl)) (pgs_cons (pg_name (i := 5) sc_l_right.nd rfl (Or.inl rfl)) pgs_nil)))))
      (pss_cons (ps_setLcD (i := 6) (s0 := s) (H0 := H) (own := [("_law_lot", 9)]) (g := gName 9) rfl sc_l_right.nd rfl rfl (sw_true rfl rfl rfl (by decide +kernel)) (pi_list (pe_call (ok_l_lots (K := K) T) (hr.mono (by decide)) rfl T.g_l_lots T.f_l_lots.kp B0 B0v pass0 (pa_cons (pv 2) pa_nil))) (blkOk_by (own := [("_law_lot", 9)]) (N := N_l_right) (sc := (defScope s_l_right)) (by decide +kernel)) (pts_one (pt_val (pe_callB (id := "all") (allK (K := K)) (by rfl) T.z_all (by decide +kernel) (pa_cons (pe_lcD (s0 := s) (H0 := H) (own := [("_law_run", 10)]) (g := gName 10) rfl sc_l_right.nd (pi_listK (K := K) (pv 1)) (blkOk_by (own := [("_law_run", 10)]) (N := N_l_right) (sc := (relS _ (defScope s_l_right))) (by decide +kernel)) pts_nil (pe_callB (id := "any") (anyK (K := K)) (by rfl) T.z_any (by decide +kernel) (pa_cons (pe_lc (own := [("_law_size", 11)]) (g := gName 11) rfl sc_l_right.nd (pi_tupK (K := K) (pv 9)) (blkOk_by (own := [("_law_size", 11)]) (N := N_l_right) (sc := (relS _ (relS _ (defScope s_l_right)))) (by decide +kernel)) (fun _ _ _ _ _ => (pg_name (i := 11) sc_l_right.nd rfl (Or.inl rfl))) (fun _ _ _ _ _ => pts_nil) (fun _ _ _ _ _ => (pe_cmpR (inK (K := K)) (pv 11) (pv 10) (by rfl)))) pa_nil)) (fun _ _ _ _ _ => (pg_name (i := 10) sc_l_right.nd rfl (Or.inr rfl))) (fun _ _ _ _ _ => pts_nil) (fun _ _ _ _ _ => (pe_callB (id := "any") (anyK (K := K)) (by rfl) T.z_any (by decide +kernel) (pa_cons (pe_lc (own := [("_law_size", 11)]) (g := gName 11) rfl sc_l_right.nd (pi_tupK (K := K) (pv 9)) (blkOk_by (own := [("_law_size", 11)]) (N := N_l_right) (sc := (relS _ (relS _ (defScope s_l_right)))) (by decide +kernel)) (fun _ _ _ _ _ => (pg_name (i := 11) sc_l_right.nd rfl (Or.inl rfl))) (fun _ _ _ _ _ => pts_nil) (fun _ _ _ _ _ => (pe_cmpR (inK (K := K)) (pv 11) (pv 10) (by rfl)))) pa_nil)))) pa_nil)))) (pv 9) (fun _ _ _ _ _ => (pg_name (i := 9) sc_l_right.nd rfl (Or.inr rfl))) (fun _ _ _ _ _ => (pts_one (pt_val (pe_callB (id := "all") (allK (K := K)) (by rfl) T.z_all (by decide +kernel) (pa_cons (pe_lcD (s0 := s) (H0 := H) (own := [("_law_run", 10)]) (g := gName 10) rfl sc_l_right.nd (pi_listK (K := K) (pv 1)) (blkOk_by (own := [("_law_run", 10)]) (N := N_l_right) (sc := (relS _ (defScope s_l_right))) (by decide +kernel)) pts_nil (pe_callB (id := "any") (anyK (K := K)) (by rfl) T.z_any (by decide +kernel) (pa_cons (pe_lc (own := [("_law_size", 11)]) (g := gName 11) rfl sc_l_right.nd (pi_tupK (K := K) (pv 9)) (blkOk_by (own := [("_law_size", 11)]) (N := N_l_right) (sc := (relS _ (relS _ (defScope s_l_right)))) (by decide +kernel)) (fun _ _ _ _ _ => (pg_name (i := 11) sc_l_right.nd rfl (Or.inl rfl))) (fun _ _ _ _ _ => pts_nil) (fun _ _ _ _ _ => (pe_cmpR (inK (K := K)) (pv 11) (pv 10) (by rfl)))) pa_nil)) (fun _ _ _ _ _ => (pg_name (i := 10) sc_l_right.nd rfl (Or.inr rfl))) (fun _ _ _ _ _ => pts_nil) (fun _ _ _ _ _ => (pe_callB (id := "any") (anyK (K := K)) (by rfl) T.z_any (by decide +kernel) (pa_cons (pe_lc (own := [("_law_size", 11)]) (g := gName 11) rfl sc_l_right.nd (pi_tupK (K := K) (pv 9)) (blkOk_by (own := [("_law_size", 11)]) (N := N_l_right) (sc := (relS _ (relS _ (defScope s_l_right)))) (by decide +kernel)) (fun _ _ _ _ _ => (pg_name (i := 11) sc_l_right.nd rfl (Or.inl rfl))) (fun _ _ _ _ _ => pts_nil) (fun _ _ _ _ _ => (pe_cmpR (inK (K := K)) (pv 11) (pv 10) (by rfl)))) pa_nil)))) pa_nil))))) (fun _ _ _ _ _ => (pv 9)))
      (pss_cons (ps_if (PW.pt (pw_or (pt_cmpR (notInDK (K := K) (rm65 hr)) (pv 4) (pv 6) (by rfl)) (pw_or (pt_cmpR op_ne (pe_callB (id := "min") (minL (K := K)) (by rfl) T.z_min (by decide +kernel) (pa_cons (pe_lc (own := [("_law_lot", 9)]) (g := gName 9) rfl sc_l_right.nd (pi_list (pv 6)) (blkOk_by (own := [("_law_lot", 9)]) (N := N_l_right) (sc := (defScope s_l_right)) (by decide +kernel)) (fun _ _ _ _ _ => (pg_name (i := 9) sc_l_right.nd rfl (Or.inl rfl))) (fun _ _ _ _ _ => pts_nil) (fun _ _ _ _ _ => (pe_callB (id := "len") (lenS (K := K)) (by rfl) T.z_len PySem.boot_len (pa_cons (pv 9) pa_nil)))) pa_nil)) (pe_callB (id := "len") (lenS (K := K)) (by rfl) T.z_len PySem.boot_len (pa_cons (pv 4) pa_nil)) (nomark _)) (pw_or1 (pt_cmpR op_ne (pe_callB (id := "len") (lenS (K := K)) (by rfl) T.z_len PySem.boot_len (pa_cons (pv 5) pa_nil)) (pe_callB (id := "len") (lenS (K := K)) (by rfl) T.z_len PySem.boot_len (pa_cons (pv 4) pa_nil)) (nomark _))))))
      (pss_one (ps_ret pe_bl))
      pss_nil)
      (pss_cons (ps_if (PW.pt (pw_or (pt_cmpR (neDK (K := K) hr.units) (pe_callTy (T := "list") (listOf (K := K)) (by rfl) T.z_list (by decide +kernel) (pa_cons (pv 5) pa_nil)) (pe_callB (id := "sorted") (cr_sortedSet rfl) (by rfl) T.z_sorted (by decide +kernel) (pa_cons (pe_callTy (T := "set") (call_setT (K := K)) (by rfl) T.z_set (by decide +kernel) (pa_cons (pv 5) pa_nil)) pa_nil)) (nomark _)) (pw_or1 (pt_not (pt_val (pe_callB (id := "all") (allK (K := K)) (by rfl) T.z_all (by decide +kernel) (pa_cons (pe_lc (own := [("_law_number", 12)]) (g := gName 12) rfl sc_l_right.nd (pi_tup (pv 5)) (blkOk_by (own := [("_law_number", 12)]) (N := N_l_right) (sc := (defScope s_l_right)) (by decide +kernel)) (fun _ _ _ _ _ => (pg_name (i := 12) sc_l_right.nd rfl (Or.inl rfl))) (fun _ _ _ _ _ => pts_nil) (fun _ _ _ _ _ => (pe_chain op_le op_lt pe_int (pv 12) (pe_callB (id := "len") (lenS (K := K)) (by rfl) T.z_len PySem.boot_len (pa_cons (pv 1) pa_nil))))) pa_nil)))))))
      (pss_one (ps_ret pe_bl))
      pss_nil)
      (pss_cons (ps_for PassesOwn.never rfl (pi_tup (pv 5)) (pg_name (i := 7) sc_l_right.nd rfl (Or.inl rfl))
      (pss_one (ps_for PassesOwn.never rfl (pi_tup (pv 5)) (pg_name (i := 8) sc_l_right.nd rfl (Or.inr rfl))
      (pss_one (ps_if (PW.pt (pw_and (pt_cmpR op_lt (pv 7) (pv 8) (nomark _)) (pw_and1 (pt_val (pe_callB (id := "any") (anyK (K := K)) (by rfl) T.z_any (by decide +kernel) (pa_cons (pe_lc (own := [("_law_size", 11)]) (g := gName 11) rfl sc_l_right.nd (pi_tup (pe_ix (ixl (K := K)) (pv 1) (pv 7) (fun _ _ => rfl))) (blkOk_by (own := [("_law_size", 11)]) (N := N_l_right) (sc := (defScope s_l_right)) (by decide +kernel)) (fun _ _ _ _ _ => (pg_name (i := 11) sc_l_right.nd rfl (Or.inl rfl))) (fun _ _ _ _ _ => pts_nil) (fun _ _ _ _ _ => (pe_cmpR (inK (K := K)) (pv 11) (pe_ix (ixl (K := K)) (pv 1) (pv 8) (fun _ _ => rfl)) (by rfl)))) pa_nil))))))
      (pss_one (ps_ret pe_bl))
      pss_nil)))))
      (pss_one (ps_ret pe_bl)))))))), ?_⟩
    obtain ⟨ts, hR2, lts, hts⟩ := hR.ob
    refine ⟨_, rfl, _, _, _, _, _, rfl, .ty _, tyTup (K := K) (SqT.of hT), kit_ty (r := true) (by decide +kernel), _, rfl, iteF ?_⟩
    walk_at "w"
    intro L1 H1 s1 FL1
    obtain ⟨us, hL1, lus, hus⟩ := FL1.ob
    have ll := lots_len n
    have p6 : 2 ^ n ≤ 64 := Nat.pow_le_pow_right (by decide) (show n ≤ 6 by omega)
    refine ⟨L1, rfl, ⟨_, SqL.of hL1⟩, fun D nD => ?_⟩
    refine lcz (n := us.length) walk_list (fun _ _ g s => s.seq g) (keepV (goodB ls) us (lotsL n)) (keepV_len lus) (szs (by omega)) (SqL.of hL1) nD (fun i x Ha Hb z N M hi ez s2 yy hN hM => ?_) (fun H2 s2 hD => ?_)
    · obtain ⟨rfl, hx⟩ := yy
      have hl0 : (lotsL n)[i]? = some (lotsL n)[i] := List.getElem?_eq_getElem (by omega)
      obtain ⟨Tl, rfl, hTl⟩ := hus i x _ hx hl0
      rw [keepV_at hx hl0] at ez
      have lm := lots_mem n _ (List.mem_of_getElem? hl0)
      generalize (lotsL n)[i] = lot at *
      have s02 := s1.trans s2
      replace hTl := s2 _ _ hTl
      refine ⟨rfl, ?_⟩
      walk_at "w"
      refine ⟨⟨_, SqL.of (s02 _ _ hR2)⟩, fun D2 nD2 => ?_⟩
      refine lcz (n := ts.length) walk_list (fun _ _ g s => s.seq g) (ls.map fun l => some (V.bl (lot.any fun s => decide (s ∈ l)))) (by rw [List.length_map]; omega) (szs (by omega)) (SqL.of (s02 _ _ hR2)) nD2 (fun i2 x2 Hc Hd z2 N2 M2 hi2 ez2 s3 yy2 hN2 hM2 => ?_) (fun H3 s3 hD2 => ?_)
      · obtain ⟨rfl, hx2⟩ := yy2
        have hl2 : ls[i2]? = some ls[i2] := List.getElem?_eq_getElem (by omega)
        obtain ⟨Tr, rfl, hTr⟩ := hts i2 x2 _ hx2 hl2
        rw [List.getElem?_map, hl2] at ez2
        cases ez2
        generalize ls[i2] = rn at *
        replace hTr := (s02.trans s3) _ _ hTr
        replace hTl := s3 _ _ hTl
        refine ⟨rfl, yesT ?_⟩
        walk_at "w"
        refine fun D3 nD3 => ?_
        refine lcz (n := lot.length) (by have := walk_tup (K := K) (a := Tl) (xs := lot.map V.int); rwa [List.length_map] at this) (fun _ _ g s => s.sqt g) (lot.map fun s => some (V.bl (decide (s ∈ rn)))) (by rw [List.length_map]) (szs (by omega)) (SqT.of hTl) nD3 (fun i3 x3 He Hf z3 N3 M3 hi3 ez3 s4 yy3 hN3 hM3 => ?_) (fun H4 s4 hD3 => ?_)
        · obtain ⟨rfl, hx3⟩ := yy3
          have hl3 : lot[i3]? = some lot[i3] := List.getElem?_eq_getElem (by omega)
          rw [List.getElem?_map, hl3] at hx3 ez3
          cases hx3; cases ez3
          replace hTr := s4 _ _ hTr
          refine ⟨rfl, yesT ?_⟩
          refine ⟨_, rfl, _, rfl, _, _, rfl, .inr (SqT.of hTr), rfl, flat_ints _, ?_⟩
          simp only [Bool.false_eq_true, if_false]
          rw [inV_ints]
          exact hN3 _ _ rfl (Same.refl _)
        · rw [fmap_some] at hD3
          refine ⟨_, lot.map fun s => decide (s ∈ rn), rfl, SqL.of (by rw [hD3, List.map_map]; rfl), ?_⟩
          rw [map_any]
          exact hN2 _ _ rfl s4
      · rw [fmap_some] at hD2
        refine ⟨_, ls.map fun l => lot.any fun s => decide (s ∈ l), rfl, SqL.of (by rw [hD2, List.map_map]; rfl), _, rfl, ?_⟩
        have eb : (ls.map fun l => lot.any fun s => decide (s ∈ l)).all _root_.id = goodB ls lot := by rw [List.all_map]; rfl
        rw [eb]
        cases e : goodB ls lot with
        | true =>
          rw [e] at ez
          cases ez
          exact iteT ⟨_, rfl, hN _ _ rfl s3⟩
        | false =>
          rw [e] at ez
          cases ez
          exact iteF (hM _ rfl s3)
    · have hus2 : ∀ (i : Nat) (v : V) (l : List Int), us[i]? = some v → (lotsL n)[i]? = some l → ∃ T, v = .ref T ∧ H2 T = some (.tup (l.map V.int)) := fun i v l e1 e2 => by
        obtain ⟨T, e, h⟩ := hus i v l e1 e2
        exact ⟨T, e, s2 _ _ h⟩
      have FG := FitsL.filt (goodB ls) lus hus2 hD
      have fg := few_good C F
      have fm := fun m => few_min (m := m) C F
      have lg : ((lotsL n).filter (goodB ls)).length ≤ 64 := Nat.le_trans (List.length_filter_le _ _) (by omega)
      have lgm : ∀ l ∈ (lotsL n).filter (goodB ls), l.length ≤ 6 := fun l hl => Nat.le_trans (lots_mem n l (List.mem_filter.mp hl).1) n6
      have s02 := s1.trans s2
      replace hT := s02 _ _ hT
      replace hS := s02 _ _ hS
      replace hA := s02 _ _ hA
      have hts2 : ∀ (i : Nat) (v : V) (l : List Int), ts[i]? = some v → ls[i]? = some l → ∃ T, v = .ref T ∧ H2 T = some (.tup (l.map V.int)) := fun i v l e1 e2 => by
        obtain ⟨T, e, h⟩ := hts i v l e1 e2
        exact ⟨T, e, s02 _ _ h⟩
      replace hR2 := s02 _ _ hR2
      clear hD hus hus2 FL1 hL1 hts hR s1 s2
      generalize (lotsL n).filter (goodB ls) = gs at *
      walk_at "w"
      refine ⟨intsD ss, _, dpT hS, FG.dp, shInts _, shRows (fun l => l) _, ?_⟩
      rw [any_list, decide_eq_true fg]
      walk_at "w"
      obtain ⟨gsv, hG, lgv, hgv⟩ := FG.ob
      refine ⟨⟨_, SqL.of hG⟩, fun D4 nD4 => ?_⟩
      refine lcz (n := gsv.length) walk_list (fun _ _ g s => s.seq g) (gs.map fun l => some (V.int (l.length : Int))) (by rw [List.length_map]; omega) (szs (by omega)) (SqL.of hG) nD4 (fun i x He Hf z N M hi ez s4 yy hN hM => ?_) (fun H3 s3 hD4 => ?_)
      · obtain ⟨rfl, hx⟩ := yy
        have hl0 : gs[i]? = some gs[i] := List.getElem?_eq_getElem (by omega)
        obtain ⟨Tg, rfl, hTg⟩ := hgv i x _ hx hl0
        rw [List.getElem?_map, hl0] at ez
        cases ez
        replace hTg := s4 _ _ hTg
        refine ⟨rfl, yesT ?_⟩
        refine ⟨_, rfl, Tg, _, rfl, .inr (SqT.of hTg), ?_⟩
        rw [List.length_map]
        exact hN _ _ rfl (Same.refl _)
      rw [fmap_some] at hD4
      refine ⟨_, gs.map fun l => (l.length : Int), rfl, SqL.of (by rw [hD4, List.map_map]; rfl), by rw [List.length_map]; exact List.length_pos_of_mem fg, fun m hm hmin => ?_⟩
      have em := fm m hm hmin
      subst em
      have las : as.length = ss.length := F.len.symm
      replace hS := s3 _ _ hS
      replace hA := s3 _ _ hA
      replace hR2 := s3 _ _ hR2
      have hts3 : ∀ (i : Nat) (v : V) (l : List Int), ts[i]? = some v → ls[i]? = some l → ∃ T, v = .ref T ∧ H3 T = some (.tup (l.map V.int)) := fun i v l e1 e2 => by
        obtain ⟨T, e, h⟩ := hts2 i v l e1 e2
        exact ⟨T, e, s3 _ _ h⟩
      have s03 := s02.trans s3
      clear FG hG hgv hts2 hD4 fm lgm hm hmin nD4 s02 s3 hT fg lg lgv
      walk_at "w"
      rw [List.length_map, decide_eq_true rfl]
      walk_at "w"
      rw [List.length_map, List.length_map, las, decide_eq_true rfl]
      walk_at "w"
      intro Lc nLc
      have lA : as.length ≤ ls.length := lots_mem _ _ (lots_has ls.length as F.arise (fun s hs => by obtain ⟨i, e, h⟩ := F.mem s hs; omega))
      have s5 : Same H3 (upd H3 Lc (.lst (as.map V.int))) := same1 nLc
      have hLc : upd H3 Lc (.lst (as.map V.int)) Lc = some (.lst (as.map V.int)) := upd_same
      generalize upd H3 Lc (.lst (as.map V.int)) = H5 at *
      refine ⟨_, rfl, Aa, as, rfl, SqT.of (s5 _ _ hA), by omega, fun Sq c nSq hc => ?_⟩
      refine ⟨Sq, _, c, rfl, upd_same, by omega, fun ns p hpw hmem hlen hp => ?_⟩
      obtain rfl : ns = as := pw_eq hpw (rise_pw F.arise) fun x => by rw [hmem]; exact decide_eq_true_iff
      have s6 : Same H5 (upd (upd H5 Sq (SetO w Sq (fun k => decide (k ∈ ns)) c)) p (.lst (ns.map V.int))) := (same1 nSq : Same H5 _).up hp
      have s36 := s5.trans s6
      replace hA := s36 _ _ hA
      replace hR2 := s36 _ _ hR2
      refine ⟨_, _, dpL (s6 _ _ hLc), dpL upd_same, shL _, shL _, ?_⟩
      rw [eqv_same]
      walk_at "w"
      intro D6 nD6
      have s7 := s6
      refine lcz (n := ns.length) (by have := walk_tup (K := K) (a := Aa) (xs := ns.map V.int); rwa [List.length_map] at this) (fun _ _ g s => s.sqt g) (ns.map fun _ => some (V.bl true)) (by rw [List.length_map]) (szs (by omega)) (SqT.of hA) nD6 (fun i3 x3 He Hf z3 N3 M3 hi3 ez3 s4 yy3 hN3 hM3 => ?_) (fun H7 s4 hD6 => ?_)
      · obtain ⟨rfl, hx3⟩ := yy3
        have hl3 : ns[i3]? = some ns[i3] := List.getElem?_eq_getElem (by omega)
        rw [List.getElem?_map, hl3] at hx3 ez3
        cases hx3; cases ez3
        obtain ⟨i0, e0, hi0⟩ := F.mem _ (List.mem_of_getElem? hl3)
        replace hR2 := s4 _ _ hR2
        refine ⟨rfl, yesT ?_⟩
        walk_at "w"
        show N3 (.bl (decide (ns[i3] < (ts.length : Int)))) Hf
        rw [decide_eq_true (by omega)]
        exact hN3 _ _ rfl (Same.refl _)
      rw [fmap_some] at hD6
      have hA7 := s4 _ _ hA
      have hR7 := s4 _ _ hR2
      have s37 := s36.trans s4
      have hts7 : ∀ (i : Nat) (v : V) (l : List Int), ts[i]? = some v → ls[i]? = some l → ∃ T, v = .ref T ∧ H7 T = some (.tup (l.map V.int)) := fun i v l e1 e2 => by
        obtain ⟨T, e, h⟩ := hts3 i v l e1 e2
        exact ⟨T, e, s37 _ _ h⟩
      have s07 := s03.trans s37
      clear hA hR2 hts3 s36 s4 s6 s7 s37 hLc nD6
      refine ⟨_, ns.map fun _ => true, rfl, SqL.of (by rw [hD6, List.map_map]; rfl), ?_⟩
      rw [show (ns.map fun _ => true).all _root_.id = true from by rw [List.all_map, List.all_eq_true]; exact fun _ _ => rfl]
      walk_at "w"
      refine for_tup (K := K) (a := Aa) (xs := ns.map V.int) (fun i σ H' => (∃ v1 v2, σ = [some (.ref T'), some (.ref R), some (.int (n : Int)), some (.str "stock"), some (.ref Sa), some (.ref Aa), some (.ref D), v1, v2, none, none, none, none]) ∧ Same H7 H') ⟨⟨_, _, rfl⟩, Same.refl _⟩ (fun i σ H' _ q => SqT.of (q.2 _ _ hA7)) ?_ ?_
      · rintro i x σ H8 hx ⟨⟨v1, v2, rfl⟩, s8⟩
        obtain ⟨a0, ha0, rfl⟩ : ∃ a0, ns[i]? = some a0 ∧ x = V.int a0 := by
          rw [List.getElem?_map] at hx
          cases e : ns[i]? with
          | none => rw [e] at hx; cases hx
          | some a0 => rw [e] at hx; cases hx; exact ⟨a0, rfl, rfl⟩
        have hA8 := s8 _ _ hA7
        walk_at "w"
        refine for_tup (K := K) (a := Aa) (xs := ns.map V.int) (fun j σ H' => (∃ v2, σ = [some (.ref T'), some (.ref R), some (.int (n : Int)), some (.str "stock"), some (.ref Sa), some (.ref Aa), some (.ref D), some (.int a0), v2, none, none, none, none]) ∧ Same H7 H') ⟨⟨_, rfl⟩, s8⟩ (fun i σ H' _ q => SqT.of (q.2 _ _ hA7)) ?_ ?_
        · rintro j x σ H9 hx ⟨⟨v2, rfl⟩, s9⟩
          obtain ⟨b0, hb0, rfl⟩ : ∃ a0, ns[j]? = some a0 ∧ x = V.int a0 := by
            rw [List.getElem?_map] at hx
            cases e : ns[j]? with
            | none => rw [e] at hx; cases hx
            | some a0 => rw [e] at hx; cases hx; exact ⟨a0, rfl, rfl⟩
          have hR9 := s9 _ _ hR7
          walk_at "w"
          refine ite2 (fun e => ?_) (fun e => ?_)
          · have lt := of_decide_eq_true e
            obtain ⟨ia, rfl, hia⟩ := F.mem _ (List.mem_of_getElem? ha0)
            obtain ⟨ib, rfl, hib⟩ := F.mem _ (List.mem_of_getElem? hb0)
            have hla : ls[ia]? = some ls[ia] := List.getElem?_eq_getElem hia
            have hlb : ls[ib]? = some ls[ib] := List.getElem?_eq_getElem hib
            have no := apart_no C hla hlb (F.apart _ (List.mem_of_getElem? ha0) _ (List.mem_of_getElem? hb0) (by omega))
            obtain ⟨Ta, ea, hTa⟩ := FitsL.at (D := R) lts hts7 hla
            obtain ⟨Tb, eb, hTb⟩ := FitsL.at (D := R) lts hts7 hlb
            obtain ⟨aa, ma, la1, la2⟩ := C ia _ hla
            have lla : ls[ia].length ≤ 6 := by rw [la2, List.length_map, List.length_range']; omega
            generalize ls[ia] = ra at *
            generalize ls[ib] = rb at *
            replace hTa := s9 _ _ hTa
            replace hTb := s9 _ _ hTb
            walk_at "w"
            intro D7 nD7
            refine lcz (n := ra.length) (by have := walk_tup (K := K) (a := Ta) (xs := ra.map V.int); rwa [List.length_map] at this) (fun _ _ g s => s.sqt g) (ra.map fun s => some (V.bl (decide (s ∈ rb)))) (by rw [List.length_map]) (szs (by omega)) (SqT.of hTa) nD7 (fun i3 x3 He Hf z3 N3 M3 hi3 ez3 s4 yy3 hN3 hM3 => ?_) (fun HA s4 hD7 => ?_)
            · obtain ⟨rfl, hx3⟩ := yy3
              have hl3 : ra[i3]? = some ra[i3] := List.getElem?_eq_getElem (by omega)
              rw [List.getElem?_map, hl3] at hx3 ez3
              cases hx3; cases ez3
              replace hTb := s4 _ _ hTb
              replace hR9 := s4 _ _ hR9
              refine ⟨rfl, yesT ?_⟩
              refine ⟨_, rfl, _, rfl, _, rfl, R, ts, _, _, rfl, rfl, SqL.of hR9, atI_nat eb, Tb, _, rfl, .inr (SqT.of hTb), rfl, flat_ints _, ?_⟩
              simp only [Bool.false_eq_true, if_false]
              rw [inV_ints]
              exact hN3 _ _ rfl (Same.refl _)
            · rw [fmap_some] at hD7
              refine ⟨_, ra.map fun s => decide (s ∈ rb), rfl, SqL.of (by rw [hD7, List.map_map]; rfl), _, rfl, ?_⟩
              rw [map_any, no]
              exact iteF ⟨⟨_, rfl⟩, s9.trans s4⟩
          · exact ⟨⟨_, rfl⟩, s9⟩
        · rintro σ H9 ⟨⟨v2, rfl⟩, s9⟩
          exact ⟨⟨_, _, rfl⟩, s9⟩
      · rintro σ H8 ⟨⟨v1, v2, rfl⟩, s8⟩
        walk_at "w"
        exact kk _ (s07.trans s8)
theorem ok_law {P : Program} {w : World} {K : PySem.W.Frag} {mg : Str → Option Value} {base : Heap} {φ : Fds} (T : Txt K mg φ) : FnOk P w K mg base CX0 8 (He.fAd K ("law", none)) φ.law p_law (sp_law K) := by
  obtain ⟨_, B0v, B0⟩ := b_l_hand_2 T
  obtain ⟨_, B1v, B1⟩ := b_l_marks_2 T
  obtain ⟨_, B2v, B2⟩ := b_l_any_ladder_2 T
  obtain ⟨_, B3v, B3⟩ := b_l_width_2 T
  obtain ⟨_, B4v, B4⟩ := b_l_take_2 T
  obtain ⟨_, B5v, B5⟩ := b_l_fitted_foot_4 T
  obtain ⟨_, B6v, B6⟩ := b_l_fits_4 T
  obtain ⟨_, B7v, B7⟩ := b_Measure_init_3 T
  obtain ⟨_, B8v, B8⟩ := b_l_measures_1 T
  obtain ⟨_, B9v, B9⟩ := b_l_right_3 T
  obtain ⟨_, B10v, B10⟩ := b_stock_for_4 T
  refine T.f_law.ok sc_law (fun vs H Q E h => ?_) (fun cdv A outer s H vs Q E hr h => ?_)
  · obtain ⟨a, ns, rfl, hS, hlen, kk⟩ := h; rfl
  · obtain ⟨a, ns, rfl, hS, hlen, kk⟩ := h
    refine ⟨_, PSs.nox (pss_cons (ps_for PassesOwn.never rfl (pi_range1 rfl T.z_range (pa_cons (pe_callB (id := "max") (call_max2 rfl) (by rfl) T.z_max (by decide +kernel) (pa_cons pe_int (pa_cons (pe_callB (id := "min") (call_min2 rfl) (by rfl) T.z_min (by decide +kernel) (pa_cons pe_int (pa_cons (pe_callB (id := "len") (lenS (K := K)) (by rfl) T.z_len PySem.boot_len (pa_cons (pv 0) pa_nil)) pa_nil))) pa_nil))) pa_nil)) (pg_name (i := 1) sc_law.nd rfl (Or.inl rfl))
      (pss_cons (ps_set (i := 2) sc_law.nd rfl (Or.inr rfl) (pe_call (ok_l_hand (K := K) T) (hr.mono (by decide)) rfl T.g_l_hand T.f_l_hand.kp B0 B0v pass0 (pa_cons (pv 0) (pa_cons (pv 1) pa_nil))))
      (pss_cons (ps_set (i := 3) sc_law.nd rfl (Or.inr rfl) (pe_call (ok_l_marks (K := K) T) (hr.mono (by decide)) rfl T.g_l_marks T.f_l_marks.kp B1 B1v pass0 (pa_cons (pv 2) (pa_cons pe_int pa_nil))))
      (pss_cons (ps_set (i := 4) sc_law.nd rfl (Or.inl rfl) (pe_call (ok_l_any_ladder (K := K) T) (hr.mono (by decide)) rfl T.g_l_any_ladder T.f_l_any_ladder.kp B2 B2v pass0 (pa_cons (pv 2) (pa_cons (pv 3) pa_nil))))
      (pss_one (ps_cut (ps_for PassesOwn.never rfl (pi_range1 rfl T.z_range (pa_cons pe_int pa_nil)) (pg_name (i := 5) sc_law.nd rfl (Or.inl rfl))
      (pss_cons (ps_cut (ps_asg (pe_tup (pa_cons (pe_call (ok_l_width (K := K) T) (hr.mono (by decide)) rfl T.g_l_width T.f_l_width.kp B3 B3v pass0 (pa_cons (pv 2) (pa_cons (pv 3) pa_nil))) (pa_cons (pe_call (ok_l_width (K := K) T) (hr.mono (by decide)) rfl T.g_l_width T.f_l_width.kp B3 B3v pass0 (pa_cons (pv 2) (pa_cons (pv 3) pa_nil))) pa_nil))) (pg_tup rfl (pgs_cons (pg_name (i := 6) sc_law.nd rfl (Or.inr rfl)) (pgs_cons (pg_name (i := 7) sc_law.nd rfl (Or.inr rfl)) pgs_nil)))))
      (pss_cons (ps_cut (ps_setLc (i := 8) (own := [("_law_again", 13)]) (g := gName 13) rfl sc_law.nd rfl rfl (sw_true rfl rfl rfl (by decide +kernel)) (pi_range1 rfl T.z_range (pa_cons (pe_op op_add pe_int (pe_call (ok_l_take (K := K) T) (hr.mono (by decide)) rfl T.g_l_take T.f_l_take.kp B4 B4v pass0 (pa_cons (pv 2) (pa_cons pe_int pa_nil)))) pa_nil)) (blkOk_by (own := [("_law_again", 13)]) (N := N_law) (sc := (defScope s_law)) (by decide +kernel)) (fun _ _ _ _ _ => (pg_name (i := 13) sc_law.nd rfl (Or.inl rfl))) (fun _ _ _ _ _ => pts_nil) (fun _ _ _ _ _ => (pe_call (ok_l_fitted_foot (K := K) T) (hr.mono (by decide)) rfl T.g_l_fitted_foot T.f_l_fitted_foot.kp B5 B5v pass0 (pa_cons (pv 2) (pa_cons (pv 3) (pa_cons (pv 6) (pa_cons (pv 7) pa_nil))))))))
      (pss_cons (ps_setLc (i := 9) (own := [("_law_here", 14)]) (g := gName 14) rfl sc_law.nd rfl rfl (sw_true rfl rfl rfl (by decide +kernel)) (pi_list (pv 8)) (blkOk_by (own := [("_law_here", 14)]) (N := N_law) (sc := (defScope s_law)) (by decide +kernel)) (fun _ _ _ _ _ => (pg_name (i := 14) sc_law.nd rfl (Or.inl rfl))) (fun _ _ _ _ _ => pts_nil) (fun _ _ _ _ _ => (pe_call (ok_l_fits (K := K) T) (hr.mono (by decide)) rfl T.g_l_fits T.f_l_fits.kp B6 B6v pass0 (pa_cons (pv 3) (pa_cons (pv 14) (pa_cons (pv 6) (pa_cons (pv 7) pa_nil)))))))
      (pss_cons (ps_par3 (i := 10) (j := 11) (l := 12) rfl sc_law.nd rfl rfl rfl (by decide) (by decide) (by decide) rfl rfl rfl (pa_cons (pe_call (ok_l_measures (K := K) T) (hr.mono (by decide)) rfl T.g_l_measures T.f_l_measures.kp B8 B8v pass0 (pa_cons (pv 8) pa_nil)) (pa_cons (pe_make T.mk_Measure (ok_Measure_init (K := K) T) (hr.mono (by decide)) rfl T.g_Measure B7 B7v pass0 (pa_cons (pe_ix (ixt (K := K)) (pv 6) pe_int (fun _ _ => rfl)) (pa_cons (pe_ix (ixt (K := K)) (pv 6) pe_int (fun _ _ => rfl)) pa_nil))) (pa_cons (pe_make T.mk_Measure (ok_Measure_init (K := K) T) (hr.mono (by decide)) rfl T.g_Measure B7 B7v pass0 (pa_cons (pe_ix (ixt (K := K)) (pv 7) pe_int (fun _ _ => rfl)) (pa_cons (pe_ix (ixt (K := K)) (pv 7) pe_int (fun _ _ => rfl)) pa_nil))) pa_nil))) (by rfl))
      (pss_one (ps_if (pt_not (pt_val (pe_call (ok_l_right (K := K) T) (hr.mono (by decide)) rfl T.g_l_right T.f_l_right.kp B9 B9v pass0 (pa_cons (pe_call (ok_stock_for (K := K) T) (hr.mono (by decide)) rfl T.g_stock_for T.f_stock_for.kp B10 B10v pass0 (pa_cons (pv 4) (pa_cons (pv 10) (pa_cons (pv 11) (pa_cons (pv 12) pa_nil))))) (pa_cons (pv 9) (pa_cons (pe_callB (id := "len") (lenS (K := K)) (by rfl) T.z_len PySem.boot_len (pa_cons (pv 3) pa_nil)) pa_nil))))))
      (pss_one (ps_ret pe_bl))
      pss_nil)))))))))))))
      (pss_one (ps_ret pe_bl))), ?_⟩
    walk_at "w"
    refine for_range (fun i σ H' => (∃ v1 v2 v3 v4 v5 v6 v7 v8 v9 v10 v11 v12, σ = [some (.ref a), v1, v2, v3, v4, v5, v6, v7, v8, v9, v10, v11, v12, none, none]) ∧ Same H H') ⟨⟨_, _, _, _, _, _, _, _, _, _, _, _, rfl⟩, Same.refl _⟩ ?_ ?_
    · rintro i σ H1 hi ⟨⟨v1, v2, v3, v4, v5, v6, v7, v8, v9, v10, v11, v12, rfl⟩, s1⟩
      have hi4 : i < 3 := by
        refine Nat.lt_of_lt_of_le hi ?_
        split <;> split <;> omega
      clear hi
      walk_at "w"
      refine ⟨ns, i, by show [V.ref a, V.int (0 + (i : Int))] = _; rw [Int.zero_add], s1.seq hS, by omega, fun h H3 nh s3 hh => ?_⟩
      walk_at "w"
      refine ⟨by decide, by decide, fun l us zs H5 hh5 k5 nl hl tq l0 l1 ri => ?_⟩
      replace tq : Tqs H5 138 us zs := tq
      replace l1 : zs.length ≤ 6 := l1
      have S5 : Same H1 H5 := s3.ofKp nh k5
      clear s3 hh k5
      walk_at "w"
      refine ⟨zs, rfl, hh5, by omega, nl, hl, tq, by decide, by decide, l0, by omega, ri, fun pc r lo hi' H7 hh7 k7 A => ?_⟩
      replace A : LadAt K (He.ga K "Measure") (He.ga K "Ladder") H7 pc 142 zs r lo hi' := A
      have G0 : G44 K (He.ga K "Measure") (He.ga K "Ladder") H7 h pc l us zs r lo hi' := ⟨A, k7 _ _ hl nl, nl, tq.kp hh5 k7, l0, l1, ri⟩
      replace S5 := S5.ofKp nh k7
      clear hh5 k7 hl tq A l0 l1 ri nl
      replace hh7 := hh7.mono (show _ ≤ 100 by omega)
      obtain ⟨J, eJ⟩ : ∃ J : L2.St → Hp → Prop, J = fun σ' H' => (∃ v5 v6 v7 v8 v9 v10 v11 v12, σ' = [some (.ref a), some (.int (0 + (i : Int))), some (.ref h), some (.ref l), some (.ref pc), v5, v6, v7, v8, v9, v10, v11, v12, none, none]) ∧ Kp h H7 H' := ⟨_, rfl⟩
      walk_at "n"
      refine ⟨J, ?body, ?after⟩
      case after =>
        subst eJ
        rintro σ' H' ⟨⟨v5, v6, v7, v8, v9, v10, v11, v12, rfl⟩, kE⟩
        exact ⟨⟨_, _, _, _, _, _, _, _, _, _, _, _, rfl⟩, s1.trans (S5.ofKp nh kE)⟩
      clear S5 s1 hS kk
      walk_at "w"
      refine for_range (fun t σ H' => (∃ v5 v6 v7 v8 v9 v10 v11 v12, σ = [some (.ref a), some (.int (0 + (i : Int))), some (.ref h), some (.ref l), some (.ref pc), v5, v6, v7, v8, v9, v10, v11, v12, none, none]) ∧ HandAt H' h (100 + 100 * t) ∧ Kp h H7 H') ⟨⟨_, _, _, _, _, _, _, _, rfl⟩, hh7.mono (by decide), Kp.refl _ _⟩ ?_ ?_
      · rintro t σ HA ht ⟨⟨v5, v6, v7, v8, v9, v10, v11, v12, rfl⟩, hhA, kA⟩
        have ht3 : t < 3 := ht
        have G := G0.kp hh7 kA
        clear G0 hh7
        obtain ⟨J1, eJ1⟩ : ∃ J : L2.St → Hp → Prop, J = fun σ' H' => ∃ va vb x y, σ' = [some (.ref a), some (.int (0 + (i : Int))), some (.ref h), some (.ref l), some (.ref pc), some (.int (0 + (t : Int))), some va, some vb, v8, v9, v10, v11, v12, none, none] ∧ HandAt H' h (110 + 100 * t) ∧ Kp h HA H' ∧ TQ H' va 280 x ∧ 0 ≤ x.1 ∧ TQ H' vb 280 y ∧ 0 ≤ y.1 := ⟨_, rfl⟩
        walk_at "n"
        refine ⟨J1, ?_, ?_⟩
        · obtain ⟨A, hl, nl, tq, l0, l1, ri⟩ := id G
          walk_at "w"
          refine ⟨zs, rfl, hhA, by omega, nl, hl, tq, by decide, by decide, l0, by omega, ri, fun va x H8 hh8 k8 ta nx => ?_⟩
          replace hl := k8 _ _ hl nl
          replace tq := tq.kp hhA k8
          walk_at "w"
          refine ⟨zs, rfl, hh8, by omega, nl, hl, tq, by decide, by decide, l0, by omega, ri, fun vb y H9 hh9 k9 tb ny => ?_⟩
          walk_at "w"
          intro p np
          have sN := same1 (u := .tup [va, vb]) np
          have hpp := upd_same (H := H9) (a := p) (o := .tup [va, vb])
          walk_at "w"
          subst eJ1
          exact ⟨va, vb, x, y, rfl, (hh9.same sN).mono (by omega), (k8.trans k9).trans (Kp.same sN), (ta.kp hh8 k9).same sN, nx, tb.same sN, ny⟩
        subst eJ1
        rintro σ' HB ⟨va, vb, x, y, rfl, hhB, kB, ta, nx, tb, ny⟩
        replace G := G.kp hhA kB
        replace kA := kA.trans kB
        clear kB hhA
        obtain ⟨J1, eJ1⟩ : ∃ J : L2.St → Hp → Prop, J = fun σ' H' => ∃ (S : Addr) (fs : List V) (xs : List Q2), σ' = [some (.ref a), some (.int (0 + (i : Int))), some (.ref h), some (.ref l), some (.ref pc), some (.int (0 + (t : Int))), some va, some vb, some (.ref S), v9, v10, v11, v12, none, none] ∧ HandAt H' h (140 + 100 * t) ∧ Kp h HB H' ∧ H' S = some (.lst fs) ∧ S ≠ h ∧ fs.length ≤ 7 ∧ Tqs H' 424 fs xs ∧ ∀ z ∈ xs, ∃ i < zs.length, fitQ zs z x y i = true := ⟨_, rfl⟩
        walk_at "n"
        refine ⟨J1, ?_, ?_⟩
        · obtain ⟨A, hl, nl, tq, l0, l1, ri⟩ := id G
          walk_at "w"
          intro e HE e0 e1 hhE kE
          obtain ⟨e, rfl⟩ := Int.eq_ofNat_of_zero_le e0
          walk_at "w"
          intro S2 nS2
          refine lck (h := h) (c := 2) (m := 111 + 100 * t) walk_range (fun _ => trivial) (fun _ H v => ∃ z, TQ H v 424 z ∧ ∃ i, i < zs.length ∧ fitQ zs z x y i = true) (fun _ H H' v ⟨z, q, f⟩ n => ⟨z, q.nl n, f⟩) (szs (by omega)) (hhE.mono (by omega)) nS2 (fun i' v HF HG N M hi2 kF hhF yy hN => ?_) (fun HF ys kF hhF hS2 ly hy => ?_)
          · obtain ⟨rfl, rfl⟩ := yy
            have kBF := kE.trans kF
            obtain ⟨A, hl, nl, tq, l0, l1, ri⟩ := G.kp hhB kBF
            have ta2 := ta.kp hhB kBF
            have tb2 := tb.kp hhB kBF
            have hi7 : i' < 7 := by omega
            refine ⟨rfl, yesT ?_⟩
            walk_at "w"
            exact ⟨zs, x, y, rfl, hhF, by omega, nl, hl, tq, by decide, by decide, l0, by omega, ta2, tb2, nx, ny, fun v z i HH hhH kH tz hi f => hN _ _ kH (hhH.mono (by omega)) ⟨z, tz, i, hi, f⟩⟩
          have ay : AllTQ HF 424 ys := fun v hv => by
            obtain ⟨n, hn⟩ := List.mem_iff_getElem?.mp hv
            obtain ⟨z, q, _⟩ := hy n v hn
            exact ⟨z, q⟩
          obtain ⟨xs, tx⟩ := ay.tqs
          subst eJ1
          refine ⟨S2, ys, xs, rfl, hhF.mono (by omega), kE.trans kF, hS2, hhE.ne nS2, by omega, tx, fun z hz => ?_⟩
          obtain ⟨n, hn⟩ := List.mem_iff_getElem?.mp hz
          have ln := (List.getElem?_eq_some_iff.mp hn).1
          obtain ⟨v, hv⟩ := geV (xs := ys) (n := n) (by have := tx.len; omega)
          obtain ⟨z', q', i, hi, f⟩ := hy n v hv
          obtain ⟨z2, hz2, q2⟩ := tx.of hv
          rw [hn] at hz2
          cases hz2
          exact ⟨i, hi, by rw [tq_uniq q2 q']; exact f⟩
        subst eJ1
        rintro σ' HC ⟨S, fs, xs, rfl, hhC, kC, hSC, nSh, lfs, tf, fit⟩
        replace G := G.kp hhB kC
        replace kA := kA.trans kC
        replace ta := ta.kp hhB kC
        replace tb := tb.kp hhB kC
        clear kC hhB
        obtain ⟨A, hl, nl, tq, l0, l1, ri⟩ := G
        have lxs := tf.len
        have px := ta.pos
        have py := tb.pos
        have RC := fit_runs ri tq.posL tf.posL px py fit
        walk_at "w"
        intro D nD
        refine lcr (n := fs.length) walk_list (fun _ _ g s => s.seq g) (fun i H v => ∃ T w, v = .ref T ∧ xs[i]? = some w ∧ H T = some (.tup ((idx zs.length (fitQ zs w x y)).map V.int))) (fun i H H' v ⟨T, w, e1, e2, e3⟩ n => ⟨T, w, e1, e2, n _ _ e3 rfl⟩) (szs (by omega)) (SqL.of hSC) nD (fun i v H1 H2 N M hi' s1 yy hN => ?_) (fun HD ts s1 hD lt ht => ?_)
        · obtain ⟨rfl, hv⟩ := yy
          obtain ⟨w', hw, tw⟩ := (tf.same s1).of hv
          refine ⟨rfl, yesT ?_⟩
          walk_at "w"
          exact ⟨zs, w', x, y, rfl, s1 _ _ hl, tq.same s1, tw, (ta.same s1).mono (by decide), (tb.same s1).mono (by decide), by decide, by decide, by decide, by decide, by omega, fun T H3 s3 hT => hN _ _ s3 ⟨T, w', rfl, hw, hT⟩⟩
        have FL : FitsL HD D (fitL zs xs x y) := ⟨ts, hD, by unfold fitL; rw [List.length_map]; omega, fun i v l' e1 e2 => by
          obtain ⟨T, w', ev, ew, hT⟩ := ht i v e1
          unfold fitL at e2
          rw [List.getElem?_map, ew] at e2
          cases e2
          exact ⟨T, ev, hT⟩⟩
        have ll : (fitL zs xs x y).length ≤ 20 := by unfold fitL; rw [List.length_map]; omega
        clear hD lt ht nD
        replace A := A.same s1
        replace hSC := s1 _ _ hSC
        replace tf := tf.same s1
        replace hl := s1 _ _ hl
        have lus := tq.len
        obtain ⟨qa, rfl, hqa, _, a1, a2⟩ := ta.same s1
        obtain ⟨qb, rfl, hqb, _, b1, b2⟩ := tb.same s1
        replace a1 := a1.mono (show 280 ≤ 424 by decide)
        replace a2 := a2.mono (show 280 ≤ 424 by decide)
        replace b1 := b1.mono (show 280 ≤ 424 by decide)
        replace b2 := b2.mono (show 280 ≤ 424 by decide)
        walk_at "w"
        refine ⟨xs, rfl, .inl (SqL.of hSC), tf, by decide, by decide, by omega, fun F ps H2 s2 hF mF => ?_⟩
        replace hqa := s2 _ _ hqa
        replace hqb := s2 _ _ hqb
        walk_at "w"
        refine q_made (k := 424) px a1 a2 (by decide) (by decide) fun m1' H3 s3 A1 => ?_
        replace hqb := s3 _ _ hqb
        walk_at "w"
        refine q_made (k := 424) py b1 b2 (by decide) (by decide) fun m2' H4 s4 A2 => ?_
        have s14 := (s2.trans s3).trans s4
        have s24 := s3.trans s4
        replace hl := s14 _ _ hl
        replace FL := FL.same s14
        replace A := A.same s14
        replace A1 := A1.same s4
        walk_at "w"
        refine ⟨zs, r, lo, hi', xs, x, some y, rfl, A, SqT.of (s24 _ _ hF), mF.same s24, A1, ⟨m2', rfl, A2⟩, by decide, by decide, by decide, by decide, by omega, fun T H5 s5 SV => ?_⟩
        replace SV : StockV H5 T (fitL zs xs x y) := SV
        rcases SV with ⟨n0, hb, _⟩ | ⟨hb0, S0, A0, ss, as, hT, hS0, hA0, few⟩
        · exact (fit_bare fit hb).elim
        replace hl := s5 _ _ hl
        walk_at "w"
        rw [lus]
        refine ⟨fitL zs xs x y, ss, as, zs.length, rfl, hT, hS0, hA0, FL.same s5, few, RC, l1, ll, fun H6 s6 => ?_⟩
        have sAll := ((s1.trans s14).trans s5).trans s6
        walk_at "w"
        exact iteF ⟨⟨_, _, _, _, _, _, _, _, rfl⟩, (hhC.same sAll).mono (by omega), kA.trans (Kp.same sAll)⟩
      · rintro σ HA ⟨⟨v5, v6, v7, v8, v9, v10, v11, v12, rfl⟩, hhA, kA⟩
        subst eJ
        exact ⟨⟨_, _, _, _, _, _, _, _, rfl⟩, kA⟩
    · rintro σ H1 ⟨⟨v1, v2, v3, v4, v5, v6, v7, v8, v9, v10, v11, v12, rfl⟩, s1⟩
      walk_at "w"
      exact kk _
end K44

namespace K44
open PySem PySem.Spec PyProof.Rows L2 My
theorem facts {K : PySem.W.Frag} {h : Heap} {mg : Str → Option Value} (X : K.In h) (G : h.Ns mainGlobals mg) (c : He.SaysD fa fn K) (cx : (ex.all fun f => f K) = true) : ∃ φ : Fds, Txt K mg φ := by
  obtain ⟨d0, F0⟩ := c.def_ 0 (d := h_is_whole) rfl
  obtain ⟨d1, F1⟩ := c.def_ 1 (d := h_common_part) rfl
  obtain ⟨d2, F2⟩ := c.def_ 2 (d := h_Measure_init) rfl
  obtain ⟨d3, F3⟩ := c.def_ 3 (d := h_Measure_plus) rfl
  obtain ⟨d4, F4⟩ := c.def_ 4 (d := h_Measure_minus) rfl
  obtain ⟨d5, F5⟩ := c.def_ 5 (d := h_Measure_is_below) rfl
  obtain ⟨d6, F6⟩ := c.def_ 6 (d := h_is_measure_or_none) rfl
  obtain ⟨d7, F7⟩ := c.def_ 7 (d := h_measure_or) rfl
  obtain ⟨d8, F8⟩ := c.def_ 8 (d := h_fits) rfl
  obtain ⟨d9, F9⟩ := c.def_ 9 (d := h_fitting_of) rfl
  obtain ⟨d10, F10⟩ := c.def_ 10 (d := h_first_bare) rfl
  obtain ⟨d11, F11⟩ := c.def_ 11 (d := h_fewest_of) rfl
  obtain ⟨d12, F12⟩ := c.def_ 12 (d := h_stock_for) rfl
  obtain ⟨d13, F13⟩ := c.def_ 13 (d := h_slip_of) rfl
  obtain ⟨d14, F14⟩ := c.def_ 14 (d := h_are_marks) rfl
  obtain ⟨d15, F15⟩ := c.def_ 15 (d := h_is_rule) rfl
  obtain ⟨d16, F16⟩ := c.def_ 16 (d := h_is_span) rfl
  obtain ⟨d17, F17⟩ := c.def_ 17 (d := h_Ladder_init) rfl
  obtain ⟨d18, F18⟩ := c.def_ 18 (d := h_l_hand) rfl
  obtain ⟨d19, F19⟩ := c.def_ 19 (d := h_l_take) rfl
  obtain ⟨d20, F20⟩ := c.def_ 20 (d := h_l_pick) rfl
  obtain ⟨d21, F21⟩ := c.def_ 21 (d := h_l_plain) rfl
  obtain ⟨d22, F22⟩ := c.def_ 22 (d := h_l_sum) rfl
  obtain ⟨d23, F23⟩ := c.def_ 23 (d := h_l_less) rfl
  obtain ⟨d24, F24⟩ := c.def_ 24 (d := h_l_measures) rfl
  obtain ⟨d25, F25⟩ := c.def_ 25 (d := h_l_part) rfl
  obtain ⟨d26, F26⟩ := c.def_ 26 (d := h_l_marks) rfl
  obtain ⟨d27, F27⟩ := c.def_ 27 (d := h_l_any_ladder) rfl
  obtain ⟨d28, F28⟩ := c.def_ 28 (d := h_l_width) rfl
  obtain ⟨d29, F29⟩ := c.def_ 29 (d := h_l_fits) rfl
  obtain ⟨d30, F30⟩ := c.def_ 30 (d := h_l_fitted_foot) rfl
  obtain ⟨d31, F31⟩ := c.def_ 31 (d := h_l_lots) rfl
  obtain ⟨d32, F32⟩ := c.def_ 32 (d := h_l_right) rfl
  obtain ⟨d33, F33⟩ := c.def_ 33 (d := h_law) rfl
  refine ⟨⟨d0, d1, d2, d3, d4, d5, d6, d7, d8, d9, d10, d11, d12, d13, d14, d15, d16, d17, d18, d19, d20, d21, d22, d23, d24, d25, d26, d27, d28, d29, d30, d31, d32, d33⟩, ?_⟩
  exact {
    g_is_whole := He.glo_ok X G (c.fact 0 (f := .glo "is_whole") rfl),
    g_common_part := He.glo_ok X G (c.fact 1 (f := .glo "common_part") rfl),
    g_is_measure_or_none := He.glo_ok X G (c.fact 2 (f := .glo "is_measure_or_none") rfl),
    g_measure_or := He.glo_ok X G (c.fact 3 (f := .glo "measure_or") rfl),
    g_fits := He.glo_ok X G (c.fact 4 (f := .glo "fits") rfl),
    g_fitting_of := He.glo_ok X G (c.fact 5 (f := .glo "fitting_of") rfl),
    g_first_bare := He.glo_ok X G (c.fact 6 (f := .glo "first_bare") rfl),
    g_fewest_of := He.glo_ok X G (c.fact 7 (f := .glo "fewest_of") rfl),
    g_stock_for := He.glo_ok X G (c.fact 8 (f := .glo "stock_for") rfl),
    g_slip_of := He.glo_ok X G (c.fact 9 (f := .glo "slip_of") rfl),
    g_are_marks := He.glo_ok X G (c.fact 10 (f := .glo "are_marks") rfl),
    g_is_rule := He.glo_ok X G (c.fact 11 (f := .glo "is_rule") rfl),
    g_is_span := He.glo_ok X G (c.fact 12 (f := .glo "is_span") rfl),
    g_l_hand := He.glo_ok X G (c.fact 13 (f := .glo "_law_hand") rfl),
    g_l_take := He.glo_ok X G (c.fact 14 (f := .glo "_law_take") rfl),
    g_l_pick := He.glo_ok X G (c.fact 15 (f := .glo "_law_pick") rfl),
    g_l_plain := He.glo_ok X G (c.fact 16 (f := .glo "_law_plain") rfl),
    g_l_sum := He.glo_ok X G (c.fact 17 (f := .glo "_law_sum") rfl),
    g_l_less := He.glo_ok X G (c.fact 18 (f := .glo "_law_less") rfl),
    g_l_measures := He.glo_ok X G (c.fact 19 (f := .glo "_law_measures") rfl),
    g_l_part := He.glo_ok X G (c.fact 20 (f := .glo "_law_part") rfl),
    g_l_marks := He.glo_ok X G (c.fact 21 (f := .glo "_law_marks") rfl),
    g_l_any_ladder := He.glo_ok X G (c.fact 22 (f := .glo "_law_any_ladder") rfl),
    g_l_width := He.glo_ok X G (c.fact 23 (f := .glo "_law_width") rfl),
    g_l_fits := He.glo_ok X G (c.fact 24 (f := .glo "_law_fits") rfl),
    g_l_fitted_foot := He.glo_ok X G (c.fact 25 (f := .glo "_law_fitted_foot") rfl),
    g_l_lots := He.glo_ok X G (c.fact 26 (f := .glo "_law_lots") rfl),
    g_l_right := He.glo_ok X G (c.fact 27 (f := .glo "_law_right") rfl),
    g_law := He.glo_ok X G (c.fact 28 (f := .glo "law") rfl),
    g_Measure := He.glo_ok X G (c.fact 29 (f := .glo "Measure") rfl),
    g_Ladder := He.glo_ok X G (c.fact 30 (f := .glo "Ladder") rfl),
    g_RULES := He.glo_ok X G (c.fact 31 (f := .glo "RULES") rfl),
    v_MOST_MARKS := He.int_ok X G (c.fact 32 (f := .int "MOST_MARKS" 24) rfl),
    z_abs := He.free_ok X G (c.fact 33 (f := .free "abs") rfl),
    z_all := He.free_ok X G (c.fact 34 (f := .free "all") rfl),
    z_any := He.free_ok X G (c.fact 35 (f := .free "any") rfl),
    z_bool := He.free_ok X G (c.fact 36 (f := .free "bool") rfl),
    z_enumerate := He.free_ok X G (c.fact 37 (f := .free "enumerate") rfl),
    z_int := He.free_ok X G (c.fact 38 (f := .free "int") rfl),
    z_isinstance := He.free_ok X G (c.fact 39 (f := .free "isinstance") rfl),
    z_len := He.free_ok X G (c.fact 40 (f := .free "len") rfl),
    z_list := He.free_ok X G (c.fact 41 (f := .free "list") rfl),
    z_max := He.free_ok X G (c.fact 42 (f := .free "max") rfl),
    z_min := He.free_ok X G (c.fact 43 (f := .free "min") rfl),
    z_range := He.free_ok X G (c.fact 44 (f := .free "range") rfl),
    z_set := He.free_ok X G (c.fact 45 (f := .free "set") rfl),
    z_sorted := He.free_ok X G (c.fact 46 (f := .free "sorted") rfl),
    z_str := He.free_ok X G (c.fact 47 (f := .free "str") rfl),
    z_tuple := He.free_ok X G (c.fact 48 (f := .free "tuple") rfl),
    cl_Measure := He.cls_ok (c.fact 49 (f := .cls "Measure") rfl),
    na_Measure_top := He.noat_ok (c.fact 50 (f := .noat "Measure" "top") rfl),
    na_Measure_bottom := He.noat_ok (c.fact 51 (f := .noat "Measure" "bottom") rfl),
    me_Measure_plus := He.meth_ok (c.fact 52 (f := .meth "Measure" "plus") rfl),
    me_Measure_minus := He.meth_ok (c.fact 53 (f := .meth "Measure" "minus") rfl),
    me_Measure_is_below := He.meth_ok (c.fact 54 (f := .meth "Measure" "is_below") rfl),
    mk_Measure := He.mkr_ok (c.fact 55 (f := .mkr "Measure") rfl),
    cl_Ladder := He.cls_ok (c.fact 56 (f := .cls "Ladder") rfl),
    na_Ladder_marks := He.noat_ok (c.fact 57 (f := .noat "Ladder" "marks") rfl),
    na_Ladder_rule := He.noat_ok (c.fact 58 (f := .noat "Ladder" "rule") rfl),
    na_Ladder_least := He.noat_ok (c.fact 59 (f := .noat "Ladder" "least") rfl),
    na_Ladder_most := He.noat_ok (c.fact 60 (f := .noat "Ladder" "most") rfl),
    mk_Ladder := He.mkr_ok (c.fact 61 (f := .mkr "Ladder") rfl),
    ii_Measure := isC_ok (ex_at cx 0 (f := isCB "Measure") rfl),
    tp_RULES := tup_ok (ex_at cx 1 (f := tupB "RULES" ["up", "down", "near"]) rfl),
    k_Measure_Measure := kitF_ok (ex_at cx 2 (f := kitF (.inl "Measure") (.inl "Measure") true) rfl),
    f_is_whole := F0,
    f_common_part := F1,
    f_Measure_init := F2,
    f_Measure_plus := F3,
    f_Measure_minus := F4,
    f_Measure_is_below := F5,
    f_is_measure_or_none := F6,
    f_measure_or := F7,
    f_fits := F8,
    f_fitting_of := F9,
    f_first_bare := F10,
    f_fewest_of := F11,
    f_stock_for := F12,
    f_slip_of := F13,
    f_are_marks := F14,
    f_is_rule := F15,
    f_is_span := F16,
    f_Ladder_init := F17,
    f_l_hand := F18,
    f_l_take := F19,
    f_l_pick := F20,
    f_l_plain := F21,
    f_l_sum := F22,
    f_l_less := F23,
    f_l_measures := F24,
    f_l_part := F25,
    f_l_marks := F26,
    f_l_any_ladder := F27,
    f_l_width := F28,
    f_l_fits := F29,
    f_l_fitted_foot := F30,
    f_l_lots := F31,
    f_l_right := F32,
    f_law := F33 }
end K44
open PySem PySem.W PySem.Calls PyProof.Rows
set_option maxRecDepth 100000 in
set_option maxHeartbeats 0 in
theorem PySem.Challenge.cw_sizeladders_k44_fewest_of_all_lots_holds : PySem.Challenge.rw_sizeladders_k44_fewest_of_all_lots.Holds := by
  w_on; o_law
  refine HandSHeadRun.head_any (r := OpenLaw.row PySem.Challenge.rw_sizeladders_k44_fewest_of_all_lots) (q := view (OpenLaw.row PySem.Challenge.rw_sizeladders_k44_fewest_of_all_lots).prog [49]) (H := K44.hk) (ob := K44.ob) (M := 20000) (loose := [("_wall" : PySem.Str), ("LadderError" : PySem.Str), ("NoMeasure" : PySem.Str), ("NoLadder" : PySem.Str), ("Slip" : PySem.Str), ("NoBottom" : PySem.Str), ("is_whole" : PySem.Str), ("common_part" : PySem.Str), ("written" : PySem.Str), ("Measure" : PySem.Str), ("is_measure_or_none" : PySem.Str), ("measure_or" : PySem.Str), ("fits" : PySem.Str), ("fitting_of" : PySem.Str), ("first_bare" : PySem.Str), ("fewest_of" : PySem.Str), ("stock_for" : PySem.Str), ("slip_of" : PySem.Str), ("MOST_MARKS" : PySem.Str), ("RULES" : PySem.Str), ("are_marks" : PySem.Str), ("is_rule" : PySem.Str), ("is_span" : PySem.Str), ("midsts_of" : PySem.Str), ("size_by_rule" : PySem.Str), ("bound_text" : PySem.Str), ("Ladder" : PySem.Str), ("_law_hand" : PySem.Str), ("_law_take" : PySem.Str), ("_law_pick" : PySem.Str), ("_law_plain" : PySem.Str), ("_law_sum" : PySem.Str), ("_law_less" : PySem.Str), ("_law_measures" : PySem.Str), ("_law_part" : PySem.Str), ("_law_marks" : PySem.Str), ("_law_any_ladder" : PySem.Str), ("_law_width" : PySem.Str), ("_law_fits" : PySem.Str), ("_law_fitted_foot" : PySem.Str), ("_law_lots" : PySem.Str), ("_law_right" : PySem.Str)]) (d := HandSHeadRun.topDef (OpenLaw.row PySem.Challenge.rw_sizeladders_k44_fewest_of_all_lots).prog 49) (kwd := []) K44.ob_eq
    (by kernel_rfl) (fun s => by kernel_rfl) K44.run (by kernel_rfl) (by kernel_rfl) (by kernel_rfl) (by rfl) (by first | assumption | decide +kernel) (by decide +kernel) ⟨rfl, rfl, rfl, rfl, rfl, by decide +kernel⟩ ?hw ?hc
  case hw => w_witness2
  case hc =>
    refine L2.walk_ofE (l := PySem.Challenge.rw_sizeladders_k44_fewest_of_all_lots) (n := 63) (k := 8) (x := "_law_script") (CX := L2.CX0) rfl (by decide) (by kernel_rfl) ⟨rfl, by decide, by decide⟩ ?F (fun _ _ _ _ z => z)
    intro w mg fa h Y G hmg0
    obtain ⟨K, KX, c, cx⟩ := Y
    have hmg : mg ("law" : PySem.Str) = some (.ref fa) := by
      have e : (HandSHeadRun.topDef (OpenLaw.row PySem.Challenge.rw_sizeladders_k44_fewest_of_all_lots).prog 49).name = ("law" : PySem.Str) := by kernel_rfl
      rw [← e]
      exact hmg0
    obtain ⟨φ, T⟩ := K44.facts KX G c cx
    have e := hmg.symm.trans T.g_law
    cases e
    have b := L2.FunD.bindsA (ps := K44.p_law) T.f_law fun _ _ _ _ _ _ us hl => match us, hl with | [_], _ => rfl
    exact ⟨K, φ.law, K44.sp_law K, KX, fun s v => b s [v] rfl, fun H a ns hl _ hS => ⟨a, ns, rfl, hS, hl, fun _ => rfl⟩, fun base _ _ => K44.ok_law T⟩
